/- Package code: what reads the part that stands next, and the readers. -/
import Derived.Test.YtddnnblhlglaaaaCodeTake
import Derived.Test.YtddnnblhlglaaaaSumSlice
set_option linter.unusedVariables false
set_option linter.unusedSimpArgs false
set_option maxRecDepth 10000
namespace Go.Proofs.Ytddnnblhlglaaaa
open Go.RowKit Go.HashMath Go.CodeMath

/-- What s[a:b] is. -/
theorem run_cutMid {P : Program} {S T : TypeId} {ao : Option Addr} {len cap : Nat} (hu : P.underlying S = some (.slice T)) (hT : P.elem S = T) (hi : (P.info? T).map (·.size) = some 1) (a b : Nat) (ha : a ≤ b) (hb : b ≤ cap) (w : World) :
    (Instr.sliceAt S (.slice ao len cap) (some (.int .i64 (a : Int))) (some (.int .i64 (b : Int))) none).run P w = .ok (sliced ao a b cap 1) w := by
  subst hT
  have e1 := run_size (P := P) hi w
  rw [run_sliceAt_slice w _ _ _ _ _ hu, run_slice_lh w _ _ _ _ hu _ _ _ _ (by omega) (by omega) (by omega), e1]
  rfl
theorem Holds8.cutMid {w : World} {ao : Option Addr} {len cap : Nat} {xs : List Nat} (h : Holds8 w (.slice ao len cap) xs) (a b : Nat) (ha : a ≤ b) (hb : b ≤ len) : Holds8 w (sliced ao a b cap 1) ((xs.drop a).take (b - a)) := by
  have q := h.cutFrom a (by omega)
  have hl : len ≤ cap := by obtain ⟨_, _, _, _, e, _, h4, _⟩ := h; cases e; exact h4
  exact HoldsN.upto (k := .u8) (m := 256) q (b - a) (by omega)
set_option maxHeartbeats 1000000 in
/-- A copy in memory of the call's own. -/
theorem clone_at (v : Value) (xs : List Nat) (w : World) (h : Holds8 w v xs) (hl : xs.length ≤ 140737488355328) :
    Calls Try.prog 23 #[v] w (GivesO w xs) := by
  have HH := Lib.hid h
  have OW := Lib.hid (fun (c : Array Value) (hc : c = (vals8 []).toArray) => own_lit8 w w.heap.size (Nat.le_refl _) [] (by simp) (by simp) hc (n := 0) rfl)
  have HL := Lib.hid (show ([] : List Nat).length + xs.length ≤ 140737488355328 by simpa using hl)
  have q22 : ∀ (w : World) (a : Option Addr) (n c n' c' : Nat), (binOp .eql 23 (.slice a n c) (.slice none n' c')).run Try.prog w = .ok (.bool a.isNone) w := fun w a n c n' c' => Lib.run_eql_slice_nil w _ _ a n c n' c' Try.underlying23
  obtain ⟨_, ao, len, cap, rfl, hlen, hlc, hcm, hcell⟩ := h
  subst hlen
  clear hl
  cases ao with
  | none =>
    have hx : xs = [] := by
      have := hcm.2 rfl
      exact List.eq_nil_of_length_eq_zero (by omega)
    subst hx
    clear hcell
    go_enter Try.func23, Try.ntmps23
    go_wp2_with fail
    go_ret
    exact ⟨_, rfl, own8_nil _ _, Keeps.refl w⟩
  | some a =>
    clear hcell
    go_enter Try.func23, Try.ntmps23
    go_wp2_with (at_builtin; refine wpList_append8h rfl (.tmp 5) (.tmp 6) rfl w.heap.size _ _ [] xs (by rfl) (OW.out _ rfl) (by rfl) (HH.out.keeps ((Keeps.refl w).alloc _)) HL.out ((Keeps.refl w).alloc _).size ?_)
    intro v2 w2 ho2 hb2 hg2
    have K2 := Lib.hid (show Keeps w w2 from Below.trans ((Keeps.refl w).alloc _) hb2)
    have O2 := Lib.hid (show Own8 w2 w.heap.size v2 xs from ho2)
    clear hb2 hg2 ho2
    go_wp2_with fail
    go_ret
    exact ⟨_, rfl, O2.out, K2.out⟩
/-- A variable of its own, of one cell. -/
def Box (T : TypeId) (w : World) (z : Nat) (v : Value) : Prop := w.heap[z]? = some (.cells #[v] T (0, 0))
section
variable {T : TypeId} {w w' : World} {z : Nat} {v u : Value}
theorem Box.cell (h : Box T w z v) : w.cell? ⟨z, 0, none⟩ = some v := by simp [World.cell?, show w.heap[z]? = _ from h]
theorem Box.free (h : Box T w z v) : w.frozen? ⟨z, 0, none⟩ = false := by simp [World.frozen?, show w.heap[z]? = _ from h]
theorem Box.set (h : Box T w z v) (u : Value) : Box T (w.setCell ⟨z, 0, none⟩ u) z u := by simp [Box, World.setCell, Array.getElem?_modify, show w.heap[z]? = _ from h]
theorem Box.lt (h : Box T w z v) : z < w.heap.size := lt_of_block h
theorem Box.wrt {g : Nat} (h : Box T w z v) (k : Wrt g w w') (hz : z ≠ g) : Box T w' z v := (k.block z h.lt hz).trans h
theorem Box.keeps (h : Box T w z v) (k : Keeps w w') : Box T w' z v := (Below.block k z h.lt).trans h
theorem Box.new (w : World) (v : Value) : Box T (w.alloc (.cells #[v] T)) w.heap.size v := (MapKept.heap_alloc w _).1
end
set_option maxHeartbeats 1000000 in
theorem num_part (z : Nat) (u v : Value) (xs : List Nat) (w : World) (hb : Box 3 w z u) (h : Holds8 w v xs) :
    Calls Try.prog 25 #[v, .pointer (some ⟨z, 0, none⟩)] w (fun e w' => e = .returned (.int .i64 (sizN xs : Int)) ∧ Box 3 w' z (.int .i64 (natO (readN 9 0 1 xs) : Int)) ∧ Wrt z w w') := by
  have RN := Lib.hid (row_next v xs w h)
  have BB := Lib.hid hb
  have c0 := hb.cell
  have f0 := hb.free
  clear hb h
  go_enter Try.func25, Try.ntmps25
  go_wp2_with (go_at_call 26; (with_reducible refine RN.out.mono ?_); rintro e w1 ⟨rfl, rfl⟩)
  go_ret
  exact ⟨rfl, BB.out.set _, (Wrt.refl z w).set 0 _⟩
set_option maxHeartbeats 1000000 in
theorem u64_part (z : Nat) (u v : Value) (xs : List Nat) (w : World) (hb : Box 25 w z u) (h : Holds8 w v xs) :
    Calls Try.prog 27 #[v, .pointer (some ⟨z, 0, none⟩)] w (fun e w' => e = .returned (.int .i64 (lenE xs : Int)) ∧ Box 25 w' z (.int .u64 (natO (u64O (some xs)) : Int)) ∧ Wrt z w w') := by
  have RN := Lib.hid (eight_next v xs w h)
  have BB := Lib.hid hb
  have c0 := hb.cell
  have f0 := hb.free
  clear hb h
  go_enter Try.func27, Try.ntmps27
  go_wp2_with (go_at_call 28; (with_reducible refine RN.out.mono ?_); rintro e w1 ⟨rfl, rfl⟩)
  go_ret
  exact ⟨rfl, BB.out.set _, (Wrt.refl z w).set 0 _⟩
/-- How many bytes the bytes at the front have, with their row: 0 if there are none. -/
def sizB (xs : List Nat) : Nat := match bytO (some xs) with | none => 0 | some x => xs.length - x.2.length
theorem sizN_le (xs : List Nat) : sizN xs ≤ xs.length := by unfold sizN; split <;> omega
theorem sizB_le (xs : List Nat) : sizB xs ≤ xs.length := by unfold sizB; split <;> omega
/-- What a part of bytes leaves behind. -/
def BytAt (w : World) (z : Nat) (xs : List Nat) (w' : World) : Prop := ∃ y, Box 23 w' z y ∧ Own8 w' w.heap.size y (rowO (bytO (some xs))) ∧ Wrt z w w'
theorem bytO_no {xs : List Nat} (h : readN 9 0 1 xs = none) : bytO (some xs) = none := by show (readN 9 0 1 xs).bind _ = none; rw [h]; rfl
theorem bytO_yes {xs r : List Nat} {n : Nat} (h : readN 9 0 1 xs = some (n, r)) : bytO (some xs) = takeO n (some r) := by show (readN 9 0 1 xs).bind _ = _; rw [h]; rfl
set_option maxHeartbeats 1000000 in
set_option maxRecDepth 100000 in
theorem bytes_part (z : Nat) (v : Value) (xs : List Nat) (w : World) (hb : Box 23 w z (.slice none 0 0)) (h : Holds8 w v xs) (hl : xs.length ≤ 140737488355328) :
    Calls Try.prog 29 #[v, .pointer (some ⟨z, 0, none⟩)] w (fun e w' => e = .returned (.int .i64 (sizB xs : Int)) ∧ BytAt w z xs w') := by
  have RN := Lib.hid (row_next v xs w h)
  have HH := Lib.hid h
  have BB := Lib.hid hb
  have c0 := hb.cell
  have f0 := hb.free
  obtain ⟨_, ao, len, cap, rfl, hlen, hlc, hcm, hcell⟩ := h
  subst hlen
  clear hb hcell
  cases er : readN 9 0 1 xs with
  | none =>
    have s0 := sizN_none er
    have eB : sizB xs = 0 := by unfold sizB; rw [bytO_no er]
    rw [er, s0] at RN
    have RS := Lib.hid (show BytAt w z xs w from ⟨_, BB.out, by rw [bytO_no er]; exact own8_nil _ _, Wrt.refl z w⟩)
    rw [eB]
    clear er s0 eB
    go_enter Try.func29, Try.ntmps29
    go_wp2_with (go_at_call 26; (with_reducible refine RN.out.mono ?_); rintro e w1 ⟨rfl, rfl⟩)
    go_ret
    exact ⟨rfl, RS.out⟩
  | some x =>
    obtain ⟨n, r⟩ := x
    obtain ⟨hn, hx⟩ := row_read HH.out.1 er
    have hp := row_pos n
    have hr : xs.length = (row n).length + r.length := by rw [hx, List.length_append]
    have s0 : sizN xs = (row n).length := by rw [sizN_some er]; omega
    have ed : xs.drop (row n).length = r := by rw [hx]; simp
    rw [er, s0] at RN
    have RN := Lib.hid (show Calls Try.prog 26 #[.slice ao xs.length cap] w (fun e w' => e = .returned (.tuple #[.int .i64 (n : Int), .int .i64 ((row n).length : Int)]) ∧ w = w') from RN.out)
    generalize (row n).length = k at *
    have i1 : ((k : Int) == 0) = false := by rw [beq_eq_false_iff_ne]; omega
    have i2 : (k : Int) ≤ (xs.length : Int) := by omega
    have i3 : (xs.length : Int) ≤ 140737488355328 := by omega
    have i4 : (0 : Int) ≤ (k : Int) := by omega
    have i5 : (0 : Int) ≤ (n : Int) := by omega
    have i6 : (n : Int) ≤ 9223372036854775807 := by omega
    by_cases g : n ≤ r.length
    · have g1 : ¬ (n : Int) > (xs.length : Int) - (k : Int) := by omega
      have i7 : (k : Int) + (n : Int) ≤ (xs.length : Int) := by omega
      have eB : sizB xs = k + n := by unfold sizB; rw [bytO_yes er, takeO_some g]; simp; omega
      have eR : rowO (bytO (some xs)) = r.take n := by rw [bytO_yes er, takeO_some g]; rfl
      rw [eB]
      have CM := fun W => run_cutMid (P := Try.prog) (ao := ao) (len := xs.length) (cap := cap) Try.underlying23 elem8s siz8s k (k + n) (by omega) (by omega) W
      rw [show ((k + n : Nat) : Int) = (k : Int) + (n : Int) from Int.natCast_add k n] at CM ⊢
      obtain ⟨va, vn, vc, ev⟩ : ∃ va vn vc, Value.slice va vn vc = sliced ao k (k + n) cap 1 := ⟨_, _, _, rfl⟩
      rw [← ev] at CM
      have V8 : Holds8 w (.slice va vn vc) (r.take n) := by
        rw [ev]
        have q := HH.out.cutMid k (k + n) (by omega) (by omega)
        rw [ed, show k + n - k = n by omega] at q
        exact q
      have CL := Lib.hid (clone_at _ _ w V8 (by rw [List.length_take]; omega))
      have ER := Lib.hid eR
      clear er s0 eB hn hx hr ed ev V8 hlc hcm g hl eR hp
      go_enter Try.func29, Try.ntmps29
      go_wp2_with (first
        | (go_at_call 26; (with_reducible refine RN.out.mono ?_); rintro e w1 ⟨rfl, rfl⟩)
        | (go_at_call 23; (with_reducible refine CL.out.mono ?_); rintro e w2 ⟨y, rfl, ho, hk⟩; have HO := Lib.hid ho; have HK := Lib.hid hk; have B2 := Lib.hid (BB.out.keeps hk); have c2 := B2.out.cell; have f2 := B2.out.free; obtain ⟨_, yo, yn, yc, rfl, _⟩ := ho.holds; clear ho hk))
      go_ret
      exact ⟨rfl, _, B2.out.set _, by rw [ER.out]; exact HO.out.set_other BB.out.lt, (Wrt.of HK.out z).set 0 _⟩
    · have g1 : (n : Int) > (xs.length : Int) - (k : Int) := by omega
      have eB : sizB xs = 0 := by unfold sizB; rw [bytO_yes er, takeO_none g]
      have RS := Lib.hid (show BytAt w z xs w from ⟨_, BB.out, by rw [bytO_yes er, takeO_none g]; exact own8_nil _ _, Wrt.refl z w⟩)
      rw [eB]
      clear er s0 eB hn hx hr ed hlc hcm g hl hp
      go_enter Try.func29, Try.ntmps29
      go_wp2_with (go_at_call 26; (with_reducible refine RN.out.mono ?_); rintro e w1 ⟨rfl, rfl⟩)
      go_ret
      exact ⟨rfl, RS.out⟩
def lenH (xs : List Nat) : Nat := if 32 ≤ xs.length then 32 else 0
theorem copy32 (w : World) (z : Nat) (l : List Nat) (hl : l.length = 32) :
    w.setRow z ((cellsK .u8 (List.replicate 32 0)).toArray.toList.take 0 ++ (cellsK .u8 l ++ (cellsK .u8 (List.replicate 32 0)).toArray.toList.drop (0 + (cellsK .u8 l).length))).toArray = w.setRow z (cellsK .u8 l).toArray := by
  congr 2
  rw [cellsK_len, hl, List.take_zero, List.nil_append, Nat.zero_add, List.drop_of_length_le (by simp [cellsK]), List.append_nil]
theorem run_copy32 {w : World} (ty : TypeId) (z : Nat) (ad : Addr) (n c : Nat) (hA : A8 27 w z (List.replicate 32 0)) (l : List Nat) (hl : l.length = 32) (hn : l.length = Nat.min n 32) (hsrc : ∀ j v, (cellsK .u8 l)[j]? = some v → w.cell? (ad.add j) = some v) :
    (Builtin.copy_ #[23, 23] ty #[.slice (some ⟨z, 0, none⟩) 32 32, .slice (some ad) n c]).run Try.prog w = .ok (.int .i64 32) (w.setRow z (cellsK .u8 l).toArray) := by
  have h := run_copy_row (P := Try.prog) w 23 23 ty 5 z 0 32 32 ad n c (cellsK .u8 (List.replicate 32 0)).toArray 27 (cellsK .u8 l) Try.underlying23 siz8s hA.2 (by rw [cellsK_len]; exact hn) hsrc (by rw [cellsK_len, hl]; simp [cellsK]) (fun v hv => by obtain ⟨x, _, rfl⟩ := List.mem_map.1 hv; rfl)
  rw [List.append_assoc, copy32 w z l hl, show goInt ((cellsK .u8 l).length : Nat) = .int .i64 32 by rw [cellsK_len, hl]; rfl] at h
  exact h
set_option maxHeartbeats 1000000 in
set_option maxRecDepth 100000 in
theorem hash_part (z : Nat) (v : Value) (xs : List Nat) (w : World) (hb : A8 27 w z (List.replicate 32 0)) (h : Holds8 w v xs) :
    Calls Try.prog 30 #[v, .pointer (some ⟨z, 0, none⟩)] w (fun e w' => e = .returned (.int .i64 (lenH xs : Int)) ∧ A8 27 w' z (sumO (hasO (some xs))) ∧ Wrt z w w') := by
  have HH := Lib.hid h
  have AA := Lib.hid hb
  obtain ⟨_, ao, len, cap, rfl, hlen, hlc, hcm, hcell⟩ := h
  subst hlen
  have hmx : xs.length ≤ 9223372036854775807 := by have := hcm.1; unfold maxLen at this; omega
  unfold lenH
  clear hb
  by_cases g : 32 ≤ xs.length
  · have g1 : ¬ (xs.length : Int) < 32 := by omega
    have SA := run_sliceAll z
    obtain ⟨b, off, rfl, hbs, hc⟩ : ∃ b off, ao = some ⟨b, off, none⟩ ∧ b < w.heap.size ∧ ∀ i, i < xs.length → w.cell? ⟨b, off + i, none⟩ = some (.int .u8 ((xs.getD i 0 : Nat) : Int)) := by
      rcases hcell with h | h
      · omega
      · exact h
    have SRC := Lib.hid (cells_in8 hc (k := 32) g)
    have LT := Lib.hid (show (xs.take 32).length = 32 by rw [List.length_take]; omega)
    have ES : sumO (hasO (some xs)) = xs.take 32 := by
      show sumO (takeO 32 (some xs)) = _
      rw [takeO_some g]; rfl
    have LL := Lib.hid (show (xs.take 32).length = Nat.min xs.length 32 by rw [LT.out]; exact (Nat.min_eq_right g).symm)
    rw [ES, if_pos g]
    have FL := Lib.hid (show ∀ x ∈ xs.take 32, x < 256 from fun x hx => HH.out.1 x (List.mem_of_mem_take hx))
    generalize xs.take 32 = l at *
    clear hcell hc g ES hcm hlc hbs
    go_enter Try.func30, Try.ntmps30
    have CP := fun ty => run_copy32 (w := w) ty z ⟨b, off, none⟩ xs.length cap AA.out l LT.out LL.out SRC.out
    go_wp2_with fail
    go_ret
    exact ⟨rfl, AA.out.setRow FL.out, (Wrt.refl z w).setRow _⟩
  · have g1 : (xs.length : Int) < 32 := by omega
    have ES : sumO (hasO (some xs)) = List.replicate 32 0 := by
      show sumO (takeO 32 (some xs)) = _
      rw [takeO_none g]; rfl
    rw [ES, if_neg g]
    clear hcell g ES
    go_enter Try.func30, Try.ntmps30
    go_wp2_with fail
    go_ret
    exact ⟨rfl, AA.out, Wrt.refl z w⟩
end Go.Proofs.Ytddnnblhlglaaaa
