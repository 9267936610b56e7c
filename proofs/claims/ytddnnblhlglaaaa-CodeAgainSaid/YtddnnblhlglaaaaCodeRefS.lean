/- The document's own reader: its parts; bytes that are the same. -/
import Derived.Test.YtddnnblhlglaaaaCodeRefR
set_option linter.unusedVariables false
set_option linter.unusedSimpArgs false
set_option maxRecDepth 10000
namespace Go.Proofs.Ytddnnblhlglaaaa
open Go.RowKit Go.HashMath Go.CodeMath

theorem Mut.wrtNew {S : Nat → Prop} {a b c : World} {G : Nat} (h : Mut S a b) (k : Wrt G b c) (hG : a.heap.size ≤ G) : Mut S a c :=
  ⟨k.os.trans h.os, k.tape.trans h.tape, k.output.trans h.output, Nat.le_trans h.size k.size, fun i x y => (k.block i (Nat.lt_of_lt_of_le x h.size) (by omega)).trans (h.block i x y)⟩
theorem unbig_take (l : List Nat) (k : Nat) (h : k < l.length) : unbig (l.take (k + 1)) = 256 * unbig (l.take k) + l.getD k 0 := by
  rw [List.take_succ_eq_append_getElem h, unbig, List.foldl_append]
  simp [unbig, List.getD, h]
theorem unbig_le : ∀ (l : List Nat) (n : Nat), (∀ x ∈ l, x < 256) → l.foldl (fun n b => 256 * n + b) n < 256 ^ l.length * (n + 1)
  | [], n, _ => by simp
  | x :: l, n, h => by
    have h1 := unbig_le l (256 * n + x) (fun y hy => h y (by simp [hy]))
    have h2 := h x (by simp)
    rw [List.foldl_cons, List.length_cons, Nat.pow_succ, Nat.mul_assoc]
    refine Nat.lt_of_lt_of_le h1 (Nat.mul_le_mul_left _ (by omega))
theorem unbig_8 {l : List Nat} (h : ∀ x ∈ l, x < 256) (hl : l.length ≤ 8) : unbig l < 18446744073709551616 := by
  have h1 := unbig_le l 0 h
  rw [Nat.zero_add, Nat.mul_one] at h1
  exact Nat.lt_of_lt_of_le h1 (Nat.le_trans (Nat.pow_le_pow_right (by decide) hl) (by decide))
theorem u64O_take (s : St) : natO (u64O s) = unbig (rowO (takeO 8 s)) ∧ restO (u64O s) = restO (takeO 8 s) := by
  unfold u64O
  cases takeO 8 s with
  | none => exact ⟨rfl, rfl⟩
  | some x => exact ⟨rfl, rfl⟩
theorem rowO_len {n : Nat} (s : St) : (rowO (takeO n s)).length ≤ n := by
  cases s with
  | none => exact Nat.zero_le _
  | some xs =>
    show (rowO (if n ≤ xs.length then some (xs.take n, xs.drop n) else none)).length ≤ n
    split
    · show (xs.take n).length ≤ n; rw [List.length_take]; omega
    · exact Nat.zero_le _
def U64At (W : World) (l : List Nat) (sn si : Value) (wr : World) : Prop := ∃ k : Nat, k ≤ l.length ∧ sn = .int .u64 ((unbig (l.take k) : Nat) : Int) ∧ si = .int .i64 (k : Int) ∧ W = wr
theorem bytO_of (s : St) : rowO (bytO s) = (if (restO (numO s)).isSome then rowO (takeO (natO (numO s)) (restO (numO s))) else []) ∧ restO (bytO s) = (if (restO (numO s)).isSome then restO (takeO (natO (numO s)) (restO (numO s))) else none) := by
  unfold bytO
  cases numO s with
  | none => exact ⟨rfl, rfl⟩
  | some x => exact ⟨rfl, rfl⟩
theorem left_num (s : St) (h : Fine s) : (leftO (restO (numO s))).length ≤ (leftO s).length := by
  cases s with
  | none => exact Nat.le_refl _
  | some xs =>
    show (leftO (restO (readN 9 0 1 xs))).length ≤ xs.length
    cases e : readN 9 0 1 xs with
    | none => exact Nat.zero_le _
    | some x =>
      have e2 : xs = row x.1 ++ x.2 := (row_read (n := x.1) (r := x.2) h e).2
      show x.2.length ≤ xs.length
      rw [e2, List.length_append]
      omega
def putAt (l : List Nat) (k : Nat) : List Nat := l.take k ++ List.replicate (32 - k) 0
theorem putAt_next (l : List Nat) (k : Nat) (h : k < l.length) (h2 : l.length ≤ 32) : (putAt l k).set k (l.getD k 0) = putAt l (k + 1) := by
  unfold putAt
  have hl : (l.take k).length = k := by rw [List.length_take]; omega
  rw [List.set_append_right _ _ (by omega), hl, Nat.sub_self, show 32 - k = (32 - (k + 1)) + 1 by omega, List.replicate_succ, List.set_cons_zero, List.take_succ_eq_append_getElem h, List.append_assoc]
  simp [List.getD, h]
theorem putAt_len (l : List Nat) (k : Nat) (hk : k ≤ l.length) (h2 : l.length ≤ 32) : (putAt l k).length = 32 := by
  unfold putAt
  rw [List.length_append, List.length_take, List.length_replicate]
  omega
def HashAt (W : World) (z : Nat) (l : List Nat) (si : Value) (wr : World) : Prop := ∃ k : Nat, k ≤ l.length ∧ si = .int .i64 (k : Int) ∧ A8 27 wr z (putAt l k) ∧ Wrt z W wr
theorem hasO_of (s : St) : sumO (hasO s) = putAt (rowO (takeO 32 s)) (rowO (takeO 32 s)).length ∧ restO (hasO s) = restO (takeO 32 s) := by
  refine ⟨?_, rfl⟩
  unfold hasO putAt
  cases s with
  | none => rfl
  | some xs =>
    show sumO (if 32 ≤ xs.length then some (xs.take 32, xs.drop 32) else none) = _
    by_cases h : 32 ≤ xs.length
    · rw [takeO_some h, if_pos h]
      show xs.take 32 = (xs.take 32).take (xs.take 32).length ++ List.replicate (32 - (xs.take 32).length) 0
      rw [List.take_length, List.length_take, show 32 - min 32 xs.length = 0 by omega]
      simp
    · rw [takeO_none h, if_neg h]
      rfl
def sameTo (xs ys : List Nat) (k : Nat) : Prop := ∀ i, i < k → xs.getD i 0 = ys.getD i 0
def SameAt (W : World) (xs ys : List Nat) (si : Value) (wr : World) : Prop := ∃ k : Nat, k ≤ xs.length ∧ si = .int .i64 (k : Int) ∧ sameTo xs ys k ∧ Keeps W wr
theorem same_all {xs ys : List Nat} (hl : xs.length = ys.length) (h : sameTo xs ys xs.length) : xs = ys := by
  apply List.ext_getElem hl
  intro i h1 h2
  have := h i h1
  simpa [List.getD, h1, h2] using this
set_option maxHeartbeats 1000000 in
theorem ref8_same (v u : Value) (xs ys : List Nat) (w : World) (h : Holds8 w v xs) (h' : Holds8 w u ys) :
    Calls Try.prog 18 #[v, u] w (fun e w' => e = .returned (.bool (decide (xs = ys))) ∧ Keeps w w') := by
  have H1 := Lib.hid h
  have H2 := Lib.hid h'
  obtain ⟨_, ao, len, cap, rfl, hlen, hlc, hcm, hcell⟩ := h
  obtain ⟨_, bo, ln, cp, rfl, hln, hlc', hcm', hcell'⟩ := h'
  subst hlen hln
  have m1 : xs.length ≤ 9223372036854775807 := by have := hcm.1; unfold maxLen at this; omega
  have m2 : ys.length ≤ 9223372036854775807 := by have := hcm'.1; unfold maxLen at this; omega
  by_cases hl : xs.length = ys.length
  · have l1 : ((xs.length : Int) != (ys.length : Int)) = false := by rw [hl]; simp
    have HL := Lib.hid hl
    clear hl
    go_enter Try.func18, Try.ntmps18
    go_wp2_with fail
    go_loopw [5] (fun si wr => SameAt w xs ys si wr) (fun si _ => xs.length - (intOf si).toNat)
    case atStart => exact ⟨0, by omega, rfl, fun i hi => by omega, Keeps.refl w⟩
    case round =>
      obtain ⟨k, hk, rfl, hs, hK⟩ := hrel
      have HK := Lib.hid hK
      by_cases g1 : k < xs.length
      · have g2 : k < ys.length := by have := HL.out; omega
        obtain ⟨b, off, rfl, hbs, hcell⟩ : ∃ b off, ao = some ⟨b, off, none⟩ ∧ b < w.heap.size ∧ ∀ i, i < xs.length → w.cell? ⟨b, off + i, none⟩ = some (.int .u8 ((xs.getD i 0 : Nat) : Int)) := by
          rcases hcell with h | h
          · omega
          · exact h
        obtain ⟨b', off', rfl, hbs', hcell'⟩ : ∃ b off, bo = some ⟨b, off, none⟩ ∧ b < w.heap.size ∧ ∀ i, i < ys.length → w.cell? ⟨b, off + i, none⟩ = some (.int .u8 ((ys.getD i 0 : Nat) : Int)) := by
          rcases hcell' with h | h
          · omega
          · exact h
        have cl := (hK.cell (o := off + k) hbs).trans (hcell k g1)
        have cl' := (hK.cell (o := off' + k) hbs').trans (hcell' k g2)
        have k0 : (0 : Int) ≤ (k : Int) := by omega
        have k1 : (k : Int) < (xs.length : Int) := by omega
        have k2 : (k : Int) < (ys.length : Int) := by omega
        have l2 : (xs.length : Int) ≤ 9223372036854775807 := by omega
        have l3 : (ys.length : Int) ≤ 9223372036854775807 := by omega
        have GB := Lib.hid g1
        have HS := Lib.hid hs
        by_cases g3 : xs.getD k 0 = ys.getD k 0
        · have t1 : (((xs.getD k 0 : Nat) : Int) != ((ys.getD k 0 : Nat) : Int)) = false := by rw [g3]; simp
          have G3 := Lib.hid g3
          have NX := Lib.hid (show sameTo xs ys (k + 1) from fun i hi => by
            by_cases e : i = k
            · rw [e]; exact g3
            · exact hs i (by omega))
          generalize xs.getD k 0 = d at *
          generalize ys.getD k 0 = d' at *
          clear hcell hcell' hk hs g1 g2 hlc hlc' hcm hcm' m1 m2 g3 hK
          go_upto_region 6 with fail
          go_quiet (fail)
          go_wp2_with fail
          go_roundw
          case rel => exact ⟨k + 1, GB.out, by go_num, NX.out, HK.out.drewN _⟩
          case measure => have := GB.out; simp [intOf] <;> omega
        · have t1 : (((xs.getD k 0 : Nat) : Int) != ((ys.getD k 0 : Nat) : Int)) = true := by rw [bne_iff_ne]; omega
          have F := Lib.hid (show decide (xs = ys) = false from decide_eq_false fun e => g3 (by rw [e]))
          generalize xs.getD k 0 = d at *
          generalize ys.getD k 0 = d' at *
          clear hcell hcell' hk hs g1 g2 hlc hlc' hcm hcm' m1 m2 g3 hK
          go_upto_region 6 with fail
          go_quiet (fail)
          go_wp2_with fail
          go_ret
          exact ⟨by rw [F.out]; rfl, HK.out.drewN _⟩
      · obtain rfl : k = xs.length := by omega
        have k1 : ¬ (xs.length : Int) < (xs.length : Int) := by omega
        have F := Lib.hid (show decide (xs = ys) = true from decide_eq_true (same_all HL.out hs))
        clear hcell hcell' hk hs g1 hK
        go_wp2_with fail
        go_ret
        exact ⟨by rw [F.out]; rfl, HK.out⟩
  · have l1 : ((xs.length : Int) != (ys.length : Int)) = true := by simp; omega
    rw [show decide (xs = ys) = false from decide_eq_false fun e => hl (by rw [e])]
    clear hl hcell hcell'
    go_enter Try.func18, Try.ntmps18
    go_wp2_with fail
    go_ret
    exact ⟨rfl, Keeps.refl _⟩
theorem left_take {n : Nat} (s : St) : (leftO (restO (takeO n s))).length ≤ (leftO s).length := by
  cases s with
  | none => exact Nat.le_refl _
  | some xs =>
    by_cases h : n ≤ xs.length
    · rw [takeO_some h]; show (xs.drop n).length ≤ xs.length; rw [List.length_drop]; omega
    · rw [takeO_none h]; exact Nat.zero_le _
theorem left_bytes (s : St) (h : Fine s) : (leftO (restO (bytO s))).length ≤ (leftO s).length := by
  rw [(bytO_of s).2]
  split
  · exact Nat.le_trans (left_take _) (left_num s h)
  · exact Nat.zero_le _
end Go.Proofs.Ytddnnblhlglaaaa
