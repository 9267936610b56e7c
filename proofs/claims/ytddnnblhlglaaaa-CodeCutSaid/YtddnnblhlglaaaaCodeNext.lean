/- Package code: the number, and the eight bytes, at the front of bytes. -/
import Derived.WalkMore
import Derived.Test.YtddnnblhlglaaaaCodeRefS
set_option linter.unusedVariables false
set_option linter.unusedSimpArgs false
set_option maxRecDepth 10000
namespace Go.Proofs.Ytddnnblhlglaaaa
open Go.RowKit Go.HashMath Go.CodeMath

/-- How many bytes the row at the front has: 0 if there is none. -/
def sizN (xs : List Nat) : Nat := match readN 9 0 1 xs with | none => 0 | some x => xs.length - x.2.length
theorem sizN_none {xs : List Nat} (h : readN 9 0 1 xs = none) : sizN xs = 0 := by unfold sizN; rw [h]
theorem sizN_some {xs r : List Nat} {n : Nat} (h : readN 9 0 1 xs = some (n, r)) : sizN xs = xs.length - r.length := by unfold sizN; rw [h]
/-- Digits that are read: so many, what they are. -/
def RowAt (W : World) (xs : List Nat) (sn si : Value) (wr : World) : Prop := ∃ (i n : Nat), i ≤ 9 ∧ i ≤ xs.length ∧ sn = .int .i64 (n : Int) ∧ si = .int .i64 (i : Int) ∧ n < 128 ^ i ∧ readN (9 - i) n (128 ^ i) (xs.drop i) = readN 9 0 1 xs ∧ W = wr
theorem pow128_2 (i : Nat) : 2 ^ (7 * i) = 128 ^ i := by rw [Nat.pow_mul]
theorem two_in {n q : Int} (h0 : 0 ≤ n) (h1 : n ≤ 72057594037927935) (h2 : 0 ≤ q) (h3 : q ≤ 9151314442816847872) : wrap64 (n + q) = n + q := IntWalk.wrap64_in _ (by omega)
theorem pow128_i (i : Nat) : (2 : Int) ^ (7 * i) = ((128 ^ i : Nat) : Int) := by rw [← pow128_2, Int.natCast_pow]; rfl
set_option maxHeartbeats 2000000 in
set_option maxRecDepth 100000 in
theorem row_next (v : Value) (xs : List Nat) (w : World) (h : Holds8 w v xs) :
    Calls Try.prog 26 #[v] w (fun e w' => e = .returned (.tuple #[.int .i64 (natO (readN 9 0 1 xs) : Int), .int .i64 (sizN xs : Int)]) ∧ w = w') := by
  have HH := Lib.hid h
  have hx := h.1
  obtain ⟨_, ao, len, cap, rfl, hlen, hlc, hcm, hcell⟩ := h
  subst hlen
  have hmx : xs.length ≤ 9223372036854775807 := by have := hcm.1; unfold maxLen at this; omega
  go_enter Try.func26, Try.ntmps26
  go_wp2_with fail
  go_step3
  go_wp2_with fail
  go_step3
  go_wp2_with fail
  go_loopw [2, 8] (fun sn si wr => RowAt w xs sn si wr) (fun _ si _ => xs.length - (intOf si).toNat)
  case atStart => exact ⟨0, 0, by omega, by omega, rfl, rfl, by decide, rfl, rfl⟩
  case round =>
    obtain ⟨i, n, hi, hil, rfl, rfl, hn, hr, rfl⟩ := hrel
    have i0 : (0 : Int) ≤ (i : Int) := by omega
    have i9 : (i : Int) ≤ 9 := by omega
    by_cases g1 : i < xs.length
    · obtain ⟨b, off, rfl, hbs, hcell⟩ : ∃ b off, ao = some ⟨b, off, none⟩ ∧ b < w.heap.size ∧ ∀ i, i < xs.length → w.cell? ⟨b, off + i, none⟩ = some (.int .u8 ((xs.getD i 0 : Nat) : Int)) := by
        rcases hcell with h | h
        · omega
        · exact h
      have cl := hcell i g1
      have hd : xs.getD i 0 < 256 := HH.out.lt i
      have b1 : (i : Int) < (xs.length : Int) := by omega
      have l1 : (xs.length : Int) ≤ 9223372036854775807 := by omega
      by_cases g2 : i < 9
      · rw [readN_at g2 g1] at hr
        generalize xs.getD i 0 = d at *
        have P8 := pow128 g2
        have DL := dig_le (d := d) hn
        obtain ⟨p, ep⟩ : ∃ p, p = 128 ^ i := ⟨_, rfl⟩
        have hp2 : (2 : Int) ^ (7 * i) = (p : Int) := by rw [ep]; exact pow128_i i
        rw [← ep] at hn hr P8 DL
        obtain ⟨q, eq⟩ : ∃ q, q = d % 128 := ⟨_, rfl⟩
        rw [← eq] at hr DL
        have hq : q ≤ 127 := by omega
        obtain ⟨qp, eqp⟩ : ∃ x, x = q * p := ⟨_, rfl⟩
        rw [← eqp] at hr DL
        have hqp : qp ≤ 127 * p := by rw [eqp]; exact Nat.mul_le_mul_right p hq
        have t3 : (q : Int) * (p : Int) = (qp : Int) := by rw [eqp, Int.natCast_mul]
        have n1 : (n : Int) ≤ 72057594037927935 := by omega
        have q1 : (qp : Int) ≤ 9151314442816847872 := by omega
        have w1 : wrap64 ((qp : Nat) : Int) = (qp : Int) := by clear hn hr eqp hqp DL ep; exact IntWalk.wrap64_in _ (by omega)
        have w2 : wrap64 ((n : Int) + (qp : Int)) = (n : Int) + (qp : Int) := two_in (Int.natCast_nonneg _) n1 (Int.natCast_nonneg _) q1
        have d0 : (0 : Int) ≤ (d : Int) := by omega
        have d1 : (d : Int) ≤ 255 := by omega
        have e9 : ((i : Int) == 9) = false := by rw [beq_eq_false_iff_ne]; omega
        have HR := Lib.hid hr
        have EP := Lib.hid ep
        have FR := Lib.hid (show n + qp < p * 128 from DL)
        have GB := Lib.hid (show i < 9 ∧ i < xs.length from ⟨g2, g1⟩)
        by_cases g3 : 128 ≤ d
        · have u4 : (128 : Int) ≤ (d : Int) := by omega
          have dq : (d : Int) - 128 = (q : Int) := by omega
          rw [if_neg (by omega), if_neg (by omega)] at HR
          have KK := Lib.hid (show wrap64 ((n : Int) + wrap64 (((d : Int) - 128) * 2 ^ (7 * i))) = ((n + qp : Nat) : Int) by rw [dq, hp2, t3, w1, w2]; omega)
          clear hcell hr hn hp2 ep eq eqp t3 w1 w2 P8 DL hqp hq dq
          go_wp2_with fail
          go_roundw
          case rel => exact ⟨i + 1, n + qp, by have := GB.out; omega, by have := GB.out; omega, by rw [KK.out], by go_num, by rw [Nat.pow_succ, ← EP.out]; exact FR.out, HR.out, rfl⟩
          case measure => have := GB.out; simp [intOf] <;> omega
        · have u4 : ¬ (128 : Int) ≤ (d : Int) := by omega
          have dq : (d : Int) = (q : Int) := by omega
          by_cases g4 : d = 0 ∧ 0 < i
          · obtain ⟨rfl, g4⟩ := g4
            have g5 : (0 : Int) < (i : Int) := by omega
            have g6 : decide (0 < i) = true := decide_eq_true g4
            rw [if_pos ⟨rfl, g4⟩] at HR
            clear hcell hr hn hp2 ep eq eqp t3 w1 w2 P8 DL hqp hq dq
            go_wp2_with fail
            go_ret2
            exact ⟨by rw [← HR.out, sizN_none HR.out.symm]; rfl, rfl⟩
          · rw [if_neg g4, if_pos (by omega)] at HR
            have KK := Lib.hid (show wrap64 ((n : Int) + wrap64 ((d : Int) * 2 ^ (7 * i))) = ((n + qp : Nat) : Int) by rw [dq, hp2, t3, w1, w2]; omega)
            have SZ := Lib.hid (sizN_some HR.out.symm)
            by_cases g5 : d = 0
            · obtain rfl := g5
              obtain rfl : i = 0 := by omega
              have QP := Lib.hid (show qp = 0 by rw [eqp, eq]; exact Nat.zero_mul p)
              have cl0 : w.cell? ⟨b, off, none⟩ = some (.int .u8 ((0 : Nat) : Int)) := by simpa using cl
              clear hcell hr hn hp2 ep eq eqp t3 w1 w2 P8 DL hqp hq dq g4
              go_wp2_with fail
              go_ret2
              exact ⟨by rw [← HR.out, SZ.out, QP.out, List.length_drop]; have := GB.out; simp [natO]; omega, rfl⟩
            · have z0 : ((d : Int) == 0) = false := by rw [beq_eq_false_iff_ne]; omega
              clear hcell hr hn hp2 ep eq eqp t3 w1 w2 P8 DL hqp hq dq g4
              go_wp2_with fail
              rw [KK.out]
              go_ret2
              exact ⟨by rw [← HR.out, SZ.out, List.length_drop, show xs.length - (xs.length - (i + 1)) = i + 1 by have := GB.out; omega]; rfl, rfl⟩
      · have e9 : ((i : Int) == 9) = true := by rw [beq_iff_eq]; omega
        have hr : readN 9 0 1 xs = none := by rw [← hr, show 9 - i = 0 by omega, readN]
        have HR := Lib.hid hr
        clear hr hn hcell
        go_wp2_with fail
        rw [Exit.noGoto_ret]
        go_ret2
        exact ⟨by rw [HR.out, sizN_none HR.out]; rfl, rfl⟩
    · have b1 : ¬ (i : Int) < (xs.length : Int) := by omega
      have hr : readN 9 0 1 xs = none := by rw [← hr, List.drop_of_length_le (by omega), readN_nil]
      have HR := Lib.hid hr
      clear hr hn hcell hcm hlc hil hi hmx
      go_wp2_with fail
      go_ret2
      exact ⟨by rw [HR.out, sizN_none HR.out]; rfl, rfl⟩
theorem or_next (n d : Nat) (hn : n ≤ 72057594037927935) (hd : d < 256) : bits .or .u64 ((n : Int) * 256) (d : Int) = ((256 * n + d : Nat) : Int) := by
  have h := bits_or_u64_nat (2 ^ 8 * n) d (by omega) (by omega)
  rw [← Nat.two_pow_add_eq_or_of_lt (i := 8) hd n] at h
  rw [show (n : Int) * 256 = ((2 ^ 8 * n : Nat) : Int) by omega]
  exact h
def lenE (xs : List Nat) : Nat := if 8 ≤ xs.length then 8 else 0
set_option maxHeartbeats 1000000 in
theorem eight_next (v : Value) (xs : List Nat) (w : World) (h : Holds8 w v xs) :
    Calls Try.prog 28 #[v] w (fun e w' => e = .returned (.tuple #[.int .u64 (natO (u64O (some xs)) : Int), .int .i64 (lenE xs : Int)]) ∧ w = w') := by
  have HH := Lib.hid h
  obtain ⟨_, ao, len, cap, rfl, hlen, hlc, hcm, hcell⟩ := h
  subst hlen
  have hmx : xs.length ≤ 9223372036854775807 := by have := hcm.1; unfold maxLen at this; omega
  rw [(u64O_take _).1]
  unfold lenE
  by_cases g : 8 ≤ xs.length
  · have b1 : ¬ (xs.length : Int) < 8 := by omega
    rw [takeO_some g, if_pos g]
    have CU := fun W => run_cutUpto (P := Try.prog) (ao := ao) (len := xs.length) (cap := cap) Try.underlying23 elem8s siz8s 8 (by omega) W
    obtain ⟨ua, un, uc, eu⟩ : ∃ va vn vc, Value.slice va vn vc = sliced ao 0 8 cap 1 := ⟨_, _, _, rfl⟩
    rw [← eu] at CU
    have U8 : Holds8 w (.slice ua un uc) (xs.take 8) := by rw [eu]; exact HH.out.cutUpto 8 g
    have LE : (xs.take 8).length = 8 := by rw [List.length_take]; omega
    show Calls _ _ _ _ (fun e w' => e = .returned (.tuple #[.int .u64 (unbig (xs.take 8) : Int), .int .i64 8]) ∧ w = w')
    generalize xs.take 8 = l at *
    have LE := Lib.hid LE
    have HO := Lib.hid U8
    have CU := Lib.hid CU
    obtain ⟨_, uo, len, ucap, e, hlen, hulc, hucm, hucell⟩ := U8
    cases e
    subst hlen
    have cu := CU.out
    rw [show ((8 : Nat) : Int) = 8 from rfl] at cu
    clear hcell hcm hlc eu g
    go_enter Try.func28, Try.ntmps28
    go_wp2_with fail
    go_loopw [2, 12] (fun sn si wr => U64At w l sn si wr) (fun _ si _ => l.length - (intOf si).toNat)
    case atStart => exact ⟨0, by omega, rfl, rfl, rfl⟩
    case round =>
      obtain ⟨k, hk, rfl, rfl, rfl⟩ := hrel
      have hle := LE.out
      by_cases g1 : k < l.length
      · obtain ⟨b, off, rfl, hbs, hcell⟩ : ∃ b off, ua = some ⟨b, off, none⟩ ∧ b < w.heap.size ∧ ∀ i, i < l.length → w.cell? ⟨b, off + i, none⟩ = some (.int .u8 ((l.getD i 0 : Nat) : Int)) := by
          rcases hucell with h | h
          · omega
          · exact h
        have cl := hcell k g1
        have dl := HO.out.lt k
        have nl := unbig_8 (l := l.take (k + 1)) (fun x hx => HO.out.1 x (List.mem_of_mem_take hx)) (by rw [List.length_take]; omega)
        rw [unbig_take l k g1] at nl
        have NX := Lib.hid (unbig_take l k g1)
        generalize unbig (l.take k) = n at *
        generalize l.getD k 0 = d at *
        have GB := Lib.hid g1
        have k0 : (0 : Int) ≤ (k : Int) := by omega
        have k1 : (k : Int) < (l.length : Int) := by omega
        have l1 : (l.length : Int) ≤ 8 := by omega
        have n0 : (0 : Int) ≤ (n : Int) := by omega
        have n1 : (n : Int) ≤ 72057594037927935 := by omega
        have d0 : (0 : Int) ≤ (d : Int) := by omega
        have d1 : (d : Int) ≤ 255 := by omega
        have t1 : IntKind.u64.wrap (d : Int) = (d : Int) := IntWalk.u64_in _ (by omega)
        have OR := Lib.hid (or_next n d (by omega) (by omega))
        clear hucell hcell hk nl dl hle hulc hucm g1
        go_wp2_with fail
        go_roundw
        case rel => exact ⟨k + 1, GB.out, by rw [NX.out, OR.out], by go_num, rfl⟩
        case measure => have := GB.out; simp [intOf] <;> omega
      · obtain rfl : k = l.length := by omega
        have k1 : ¬ (l.length : Int) < (l.length : Int) := by omega
        rw [List.take_of_length_le (Nat.le_refl _)]
        clear hucell hk g1
        go_wp2_with fail
        go_ret2
        exact ⟨rfl, rfl⟩
  · have b1 : (xs.length : Int) < 8 := by omega
    rw [takeO_none g, if_neg g]
    clear g
    go_enter Try.func28, Try.ntmps28
    go_wp2_with fail
    go_ret2
    exact ⟨rfl, rfl⟩
end Go.Proofs.Ytddnnblhlglaaaa
