/- Package field's scalar of a sum at the landed commit: word by word. -/
import Derived.Test.YtkejcpgpkjobiaaFieldOwn
set_option linter.unusedVariables false
set_option linter.unusedSimpArgs false
namespace Go.Proofs.Ytkejcpgpkjobiaa
open Go.RowKit Go.FieldMath Go.HashMath

theorem unbig_on : ∀ (m : List Nat) (n : Nat), m.foldl (fun n b => 256 * n + b) n = n * 256 ^ m.length + unbig m
  | [], n => by simp [unbig]
  | b :: r, n => by
    rw [List.foldl_cons, unbig_on r (256 * n + b), show unbig (b :: r) = r.foldl (fun n b => 256 * n + b) (256 * 0 + b) from rfl, unbig_on r (256 * 0 + b), List.length_cons, Nat.pow_succ, Nat.add_mul, Nat.mul_zero, Nat.zero_add, Nat.add_assoc, Nat.mul_comm 256 n, Nat.mul_assoc, Nat.mul_comm 256]
theorem unbig_joined (l m : List Nat) : unbig (l ++ m) = unbig l * 256 ^ m.length + unbig m := by
  rw [unbig, List.foldl_append, unbig_on]; rfl
theorem unbig_below : ∀ (l : List Nat), (∀ x ∈ l, x < 256) → unbig l < 256 ^ l.length
  | [], _ => by decide
  | b :: r, h => by
    have i := unbig_below r fun x hx => h x (List.mem_cons_of_mem _ hx)
    have hb := h b List.mem_cons_self
    rw [show unbig (b :: r) = r.foldl (fun n b => 256 * n + b) (256 * 0 + b) from rfl, unbig_on, Nat.mul_zero, Nat.zero_add, List.length_cons, Nat.pow_succ, Nat.mul_comm _ 256]
    have := Nat.mul_le_mul_right (256 ^ r.length) (show b + 1 ≤ 256 by omega)
    rw [Nat.add_mul, Nat.one_mul] at this
    omega
theorem word_next (l : List Nat) (k j : Nat) (h : 8 * k + j < l.length) : unbig ((l.drop (8 * k)).take (j + 1)) = unbig ((l.drop (8 * k)).take j) * 256 + l.getD (8 * k + j) 0 := by
  rw [unbig_more (l.drop (8 * k)) j (by rw [List.length_drop]; omega), Nat.mul_comm]
  congr 1
  simp [List.getD]
theorem word_all (l : List Nat) (k : Nat) (h : 8 * k + 8 ≤ l.length) : unbig (l.take (8 * (k + 1))) = unbig (l.take (8 * k)) * 18446744073709551616 + unbig ((l.drop (8 * k)).take 8) := by
  rw [show 8 * (k + 1) = 8 * k + 8 by omega, List.take_add, unbig_joined, List.length_take, List.length_drop, Nat.min_eq_left (by omega)]
theorem arrLen32 : Try.prog.arrayLen 25 = 32 := by kernel_rfl
theorem undHash : Try.prog.underlying 25 = some (.array (Try.prog.arrayLen 25) (Try.prog.elem 25)) := by kernel_rfl
theorem sizHashElem (w : World) : (sizeOf (Try.prog.elem 25)).run Try.prog w = .ok 1 w := by
  rw [show Try.prog.elem 25 = 5 by kernel_rfl]
  have h : (Try.prog.info? 5).map (·.size) = some 1 := by kernel_rfl
  cases hq : Try.prog.info? 5 with
  | none => rw [hq] at h; cases h
  | some d =>
    rw [hq] at h
    have hs : d.size = 1 := by simpa using h
    simp [sizeOf, typeInfo, hq, hs, go_sem, Sem.run_bind]
/-- Eight of a sum's bytes, as a slice. -/
theorem run_sliceHash (z : Nat) (l : Int) (k : Nat) (hl : l = 8 * (k : Int)) (hk : k ≤ 3) (w : World) :
    (Instr.sliceAt 25 (.pointer (some ⟨z, 0, none⟩)) (some (.int .i64 l)) (some (.int .i64 (l + 8))) none).run Try.prog w = .ok (.slice (some ⟨z, 8 * k, none⟩) 8 (32 - 8 * k)) w := by
  rw [run_sliceAt_array_lh w _ _ undHash _ _ _ _ (by omega) (by omega) (by rw [arrLen32]; omega), sizHashElem, arrLen32]
  have e1 : l.toNat = 8 * k := by omega
  have e2 : (l + 8).toNat = 8 * k + 8 := by omega
  simp only [Result.andThen, slicedAt, e1, e2]
  rw [if_neg (by omega), show 8 * k + 8 - 8 * k = 8 by omega]
  simp [Addr.add]
  try omega

def OwnFrom (W : World) (l : List Nat) (sn si : Value) (wr : World) : Prop := ∃ k : Nat, k ≤ 4 ∧ si = .int .i64 (8 * (k : Int)) ∧ sn = .int .u64 ((unbig (l.take (8 * k)) % 2305843009213688668 : Nat) : Int) ∧ Keeps W wr
def OwnWord (V : World) (l : List Nat) (k : Nat) (sx sj : Value) (wr : World) : Prop := ∃ j : Nat, j ≤ 8 ∧ sj = .int .i64 (j : Int) ∧ sx = .int .u64 ((unbig ((l.drop (8 * k)).take j) : Nat) : Int) ∧ V = wr
set_option maxHeartbeats 1000000 in
set_option maxRecDepth 100000 in
theorem from_own (l : List Nat) (w : World) (h : Sum32 l) : Calls Try.prog 23 #[.agg (vals8 l).toArray] w (fun e w' => e = .returned (.int .u64 (fromF l : Int)) ∧ Keeps w w') := by
  have HL := Lib.hid h.1
  have HB := Lib.hid h.2
  have A0 := Lib.hid (show ArrN .u8 256 25 (w.alloc (.cells (vals8 l).toArray 25)) w.heap.size l from ArrN.new w l h.2)
  have K0 := Lib.hid (show Keeps w (w.alloc (.cells (vals8 l).toArray 25)) from (Keeps.refl w).alloc _)
  clear h
  go_enter Try.func23, Try.ntmps23
  go_upto_region 1 with fail
  generalize w.alloc (.cells (vals8 l).toArray 25) = W at *
  generalize w.heap.size = z at *
  go_wp2_with fail
  go_loopw [3, 4] (fun sn si wr => OwnFrom W l sn si wr) (fun _ si _ => 32 - (intOf si).toNat)
  case atStart => exact ⟨0, by omega, rfl, rfl, Keeps.refl _⟩
  case round =>
    obtain ⟨k, hk, rfl, rfl, hW⟩ := hrel
    by_cases g : k < 4
    · have A1 := Lib.hid (A0.out.keeps hW)
      have hw := Lib.hid hW
      have k0 : (0 : Int) ≤ (k : Int) := by omega
      have k1 : (k : Int) ≤ 3 := by omega
      have g8 : decide (8 * (k : Int) < 32) = true := decide_eq_true (by omega)
      have S := run_sliceHash z (8 * (k : Int)) k rfl (by omega)
      have e8 : IntKind.i64.wrap (8 * (k : Int) + 8) = 8 * (k : Int) + 8 := IntWalk.i64_in _ (by omega)
      have KB := Lib.hid g
      clear hk g hW
      go_wp2_with fail
      go_loopw [5, 17] (fun sx sj w2 => OwnWord wr l k sx sj w2) (fun _ sj _ => 8 - (intOf sj).toNat)
      case atStart => exact ⟨0, by omega, rfl, rfl, rfl⟩
      case round =>
        obtain ⟨j, hj, rfl, rfl, rfl⟩ := hrel
        by_cases gj : j < 8
        · have hlen : 8 * k + j < l.length := by rw [HL.out]; have := KB.out; omega
          have c := A1.out.cell (8 * k + j) hlen
          have lx := A1.out.lt (by decide) (8 * k + j)
          have NX := Lib.hid (word_next l k j hlen)
          have ub := unbig_below ((l.drop (8 * k)).take j) fun x hx => HB.out x (List.mem_of_mem_drop (List.mem_of_mem_take hx))
          have ul : ((l.drop (8 * k)).take j).length = j := by rw [List.length_take, List.length_drop]; omega
          rw [ul] at ub
          have ub2 : unbig ((l.drop (8 * k)).take j) < 72057594037927936 := Nat.lt_of_lt_of_le ub (by
            have := Nat.pow_le_pow_right (show 0 < 256 by decide) (show j ≤ 7 by omega)
            exact this)
          generalize l.getD (8 * k + j) 0 = x at *
          generalize unbig ((l.drop (8 * k)).take j) = v at *
          have O := or_add v x 8 (by omega) (by omega)
          have O : bits .or .u64 ((v : Int) * 256) (x : Int) = ((v * 256 + x : Nat) : Int) := by
            rw [← O]; simp
          have j0 : (0 : Int) ≤ (j : Int) := by omega
          have j1 : (j : Int) ≤ 7 := by omega
          have j2 : (j : Int) < 8 := by omega
          have v0 : (0 : Int) ≤ (v : Int) := by omega
          have v1 : (v : Int) ≤ 72057594037927935 := by omega
          have x0 : (0 : Int) ≤ (x : Int) := by omega
          have x1 : (x : Int) ≤ 255 := by omega
          have JB := Lib.hid gj
          have sh : IntKind.u64.wrap ((v : Int) * 256) = (v : Int) * 256 := by rw [IntKind.wrap_u64]; omega
          clear hj gj lx hlen ub ub2 ul
          go_wp2_with fail
          go_roundw
          case rel => exact ⟨j + 1, JB.out, by go_num, by rw [NX.out]; rfl, rfl⟩
          case measure => have := JB.out; simp [intOf] <;> omega
        · obtain rfl : j = 8 := by omega
          have hk4 : 8 * k + 8 ≤ l.length := by rw [HL.out]; have := KB.out; omega
          have ub := unbig_below ((l.drop (8 * k)).take 8) fun x hx => HB.out x (List.mem_of_mem_drop (List.mem_of_mem_take hx))
          have ul : ((l.drop (8 * k)).take 8).length = 8 := by rw [List.length_take, List.length_drop]; omega
          rw [ul] at ub
          have e := word_all l k hk4
          have m := Nat.mod_lt (unbig (l.take (8 * k))) (show 0 < 2305843009213688668 by decide)
          have R := Lib.hid (fun w => rem64 (unbig (l.take (8 * k)) % 2305843009213688668) (unbig ((l.drop (8 * k)).take 8)) 2305843009213688668 (by decide) (Nat.lt_trans m (by decide)) ub (by decide) w)
          have e2 : (unbig (l.take (8 * k)) % 2305843009213688668 * 18446744073709551616 + unbig ((l.drop (8 * k)).take 8)) % 2305843009213688668 = unbig (l.take (8 * (k + 1))) % 2305843009213688668 := by
            rw [e, Nat.add_mod, Nat.mod_mul_mod, ← Nat.add_mod]
          rw [e2] at R
          have R : Hid (∀ w, Calls Try.prog 31 #[.int .u64 ((unbig (l.take (8 * k)) % 2305843009213688668 : Nat) : Int), .int .u64 ((unbig ((l.drop (8 * k)).take 8) : Nat) : Int), .int .u64 2305843009213688668] w fun e w' => e = .returned (.int .u64 ((unbig (l.take (8 * (k + 1))) % 2305843009213688668 : Nat) : Int)) ∧ Keeps w w') := R
          have NX := Lib.hid (show (8 * ((k + 1 : Nat) : Int)) = 8 * (k : Int) + 8 by omega)
          obtain ⟨t, et⟩ : ∃ t, t = unbig (l.take (8 * (k + 1))) % 2305843009213688668 := ⟨_, rfl⟩
          rw [← et] at R e2
          have T := Lib.hid et
          clear et
          generalize unbig (l.take (8 * k)) % 2305843009213688668 = n at *
          generalize unbig ((l.drop (8 * k)).take 8) = v at *
          clear hj gj hk4 ub ul e m e2
          go_wp2_with (go_at_call 31; (with_reducible refine (R.out _).mono ?_); rintro e w' ⟨rfl, kk⟩)
          go_roundw
          case rel => exact ⟨k + 1, KB.out, by rw [NX.out], by rw [T.out], hw.out.trans kk⟩
          case measure => have := KB.out; simp [intOf] <;> omega
    · obtain rfl : k = 4 := by omega
      have e : unbig (l.take (8 * 4)) = unbig l := by rw [List.take_of_length_le (by rw [HL.out]; exact Nat.le_refl _)]
      rw [e]
      have E := Lib.hid (show ((fromF l : Nat) : Int) = ((unbig l % 2305843009213688668 : Nat) : Int) + 1 by unfold fromF; omega)
      have hlt := Nat.mod_lt (unbig l) (show 0 < 2305843009213688668 by decide)
      generalize unbig l % 2305843009213688668 = n at *
      have n0 : (0 : Int) ≤ (n : Int) := by omega
      have n1 : (n : Int) ≤ 2305843009213688667 := by omega
      clear hlt g hk e
      go_wp2_with fail
      go_ret
      exact ⟨by rw [E.out]; rfl, K0.out.trans hW⟩
end Go.Proofs.Ytkejcpgpkjobiaa
