/- The contract of the document's own Mul: a row that the call makes, and writes digit by digit. -/
import Derived.Test.YtjegjdefeflijaaNatSub
import Derived.Deep.OwnRows
import Derived.Deep.QuietTactic
import Derived.BigQuiet
set_option linter.unusedVariables false
set_option linter.unusedSimpArgs false
namespace Go.Proofs.Ytjegjdefeflijaa
open Go.RowKit Go.NatMath

/-- Block G is a row of the call's own, of these digits. -/
def Row32 (w : World) (G : Nat) (os : List Nat) : Prop := (∀ x ∈ os, x < 4294967296) ∧ w.heap[G]? = some (.cells (os.map fun x : Nat => Value.int .u32 (x : Int)).toArray 41 (0, 0))
theorem Row32.lt {w : World} {G : Nat} {os : List Nat} (h : Row32 w G os) (i : Nat) : os.getD i 0 < 4294967296 := by
  by_cases hi : i < os.length
  · have := h.1 (os[i]) (List.getElem_mem hi); simpa [List.getD, hi] using this
  · simp [List.getD, hi]
theorem Row32.cell {w : World} {G : Nat} {os : List Nat} (h : Row32 w G os) (i : Nat) (hi : i < os.length) : w.cell? ⟨G, i, none⟩ = some (.int .u32 ((os.getD i 0 : Nat) : Int)) := by
  simp only [World.cell?, h.2]
  simp [List.getD, hi]
theorem Row32.free {w : World} {G : Nat} {os : List Nat} (h : Row32 w G os) (i : Nat) : w.frozen? ⟨G, i, none⟩ = false := by simp [World.frozen?, h.2]
theorem Row32.size {w : World} {G : Nat} {os : List Nat} (h : Row32 w G os) : G < w.heap.size := lt_of_block h.2
theorem Row32.drewN {w : World} {G : Nat} {os : List Nat} (h : Row32 w G os) (n : Nat) : Row32 (w.drewN n) G os := h
theorem Row32.holds {w : World} {G : Nat} {os : List Nat} (h : Row32 w G os) (n : Nat) (hn : os.length = n) (hm : n ≤ 1000000) : Holds32 w (.slice (some ⟨G, 0, none⟩) n n) os :=
  ⟨h.1, _, n, n, rfl, hn, Nat.le_refl _, ⟨by unfold maxLen; omega, fun e => by cases e⟩, Or.inr ⟨G, 0, rfl, h.size, fun i hi => by rw [Nat.zero_add]; exact h.cell i (by omega)⟩⟩
theorem Row32.set {w : World} {G : Nat} {os : List Nat} (h : Row32 w G os) (i d : Nat) (hd : d < 4294967296) : Row32 (w.setCell ⟨G, i, none⟩ (.int .u32 (d : Int))) G (os.set i d) := by
  refine ⟨fun x hx => ?_, ?_⟩
  · rcases List.mem_or_eq_of_mem_set hx with g | g
    · exact h.1 x g
    · omega
  · have e : (w.setCell ⟨G, i, none⟩ (.int .u32 (d : Int))).heap[G]? = some (.cells ((os.map fun x : Nat => Value.int .u32 (x : Int)).toArray.setIfInBounds i (.int .u32 (d : Int))) 41 (0, 0)) := by
      simp [World.setCell, Array.getElem?_modify, h.2]
    rw [e, List.map_set]
    simp
theorem row_made (w : World) (n : Nat) : Row32 (w.alloc (.cells (madeCells #[.int .u32 0] n) 41)) w.heap.size (List.replicate n 0) := by
  refine ⟨fun x hx => by have := (List.mem_replicate.1 hx).2; omega, ?_⟩
  have e := (MapKept.heap_alloc w (.cells (madeCells #[.int .u32 0] n) 41)).1
  rw [e]
  congr 2
  apply Array.ext
  · simp [madeCells]
  · intro i h1 h2
    simp [madeCells, Nat.mod_one]
theorem keeps_set {w wr : World} {G i : Nat} {v : Value} (h : Keeps w wr) (hG : w.heap.size ≤ G) : Keeps w (wr.setCell ⟨G, i, none⟩ v) := Below.setCell h hG v
theorem nv_zeros (n : Nat) : nv (List.replicate n 0) = 0 := by
  rw [nv_eq_zero]; intro x hx; exact (List.mem_replicate.1 hx).2
theorem nv_set {os : List Nat} (i d : Nat) (hi : i < os.length) : nv (os.set i d) + 4294967296 ^ i * os.getD i 0 = nv os + 4294967296 ^ i * d := by
  induction os generalizing i with
  | nil => simp at hi
  | cons x xs ih =>
    cases i with
    | zero => simp [nv]; omega
    | succ i =>
      have h := ih i (by simpa using hi)
      simp only [List.set_cons_succ, nv, Nat.pow_succ]
      have e1 : 4294967296 ^ i * 4294967296 * (x :: xs).getD (i + 1) 0 = 4294967296 * (4294967296 ^ i * xs.getD i 0) := by
        rw [Nat.mul_comm (4294967296 ^ i), Nat.mul_assoc]; rfl
      have e2 : 4294967296 ^ i * 4294967296 * d = 4294967296 * (4294967296 ^ i * d) := by rw [Nat.mul_comm (4294967296 ^ i), Nat.mul_assoc]
      rw [e1, e2]
      omega

/-- Ahead of digit k of the second number, behind i digits of the first one, of which x is next: what is laid, and what is carried. -/
def MulAt (xs ys os : List Nat) (i k c : Nat) : Prop := os.length = xs.length + ys.length + 1 ∧ c < 4294967296 ∧ nv os + 4294967296 ^ (i + k) * c = nv (xs.take i) * nv ys + 4294967296 ^ i * (xs.getD i 0 * nv (ys.take k))
theorem mul_inner {xs ys os : List Nat} {i : Nat} (hl : os.length = xs.length + ys.length + 1) (h : nv os = nv (xs.take i) * nv ys) : MulAt xs ys os i 0 0 := ⟨hl, by omega, by simp [nv, h]⟩
theorem mul_next {xs ys os : List Nat} {i k c n : Nat} (h : MulAt xs ys os i k c) (hi : i + k < os.length) (hn : n = xs.getD i 0 * ys.getD k 0 + os.getD (i + k) 0 + c) (hx : xs.getD i 0 < 4294967296) (hy : ys.getD k 0 < 4294967296) (ho : os.getD (i + k) 0 < 4294967296) :
    n < 18446744073709551616 ∧ MulAt xs ys (os.set (i + k) (n % 4294967296)) i (k + 1) (n / 4294967296) := by
  obtain ⟨h1, h2, h3⟩ := h
  have b : xs.getD i 0 * ys.getD k 0 ≤ 4294967295 * 4294967295 := Nat.mul_le_mul (by omega) (by omega)
  have n1 : n < 18446744073709551616 := by omega
  refine ⟨n1, by rw [List.length_set]; exact h1, by omega, ?_⟩
  have e := nv_set (os := os) (i + k) (n % 4294967296) hi
  rw [nv_take_succ]
  generalize hx0 : xs.getD i 0 = x at *
  generalize hy0 : ys.getD k 0 = y at *
  generalize os.getD (i + k) 0 = o at *
  have e2 : 4294967296 ^ i * (x * (nv (ys.take k) + 4294967296 ^ k * y)) = 4294967296 ^ i * (x * nv (ys.take k)) + 4294967296 ^ (i + k) * (x * y) := by
    rw [Nat.mul_add, Nat.mul_add, Nat.pow_add]
    congr 1
    rw [Nat.mul_left_comm x, Nat.mul_assoc]
  have e3 : 4294967296 ^ (i + (k + 1)) * (n / 4294967296) = 4294967296 ^ (i + k) * (4294967296 * (n / 4294967296)) := by
    rw [← Nat.add_assoc, Nat.pow_succ, Nat.mul_assoc]
  have e4 : 4294967296 ^ (i + k) * (n % 4294967296) + 4294967296 ^ (i + k) * (4294967296 * (n / 4294967296)) = 4294967296 ^ (i + k) * (x * y) + 4294967296 ^ (i + k) * o + 4294967296 ^ (i + k) * c := by
    rw [← Nat.mul_add, ← Nat.mul_add, ← Nat.mul_add, Nat.mod_add_div, hn]
  rw [e2, e3]
  omega
theorem mul_done {xs ys os : List Nat} {i k : Nat} (h : MulAt xs ys os i k 0) (hk : ys.length ≤ k) : nv os = nv (xs.take (i + 1)) * nv ys := by
  obtain ⟨_, _, h3⟩ := h
  rw [List.take_of_length_le hk] at h3
  rw [nv_take_succ, Nat.add_mul, Nat.mul_assoc]
  omega
theorem mul_stops {xs ys os : List Nat} {i k c : Nat} (hx : ∀ x ∈ xs, x < 4294967296) (hy : ∀ x ∈ ys, x < 4294967296) (h : MulAt xs ys os i k c) (hk : ys.length < k) : c = 0 := by
  obtain ⟨_, _, h3⟩ := h
  rw [List.take_of_length_le (l := ys) (by omega)] at h3
  have e : nv (xs.take i) * nv ys + 4294967296 ^ i * (xs.getD i 0 * nv ys) = nv (xs.take (i + 1)) * nv ys := by rw [nv_take_succ, Nat.add_mul, Nat.mul_assoc]
  rw [e] at h3
  have a1 := take_lt hx (i + 1)
  have a2 := nv_lt hy
  have a3 : nv (xs.take (i + 1)) * nv ys < 4294967296 ^ (i + 1) * 4294967296 ^ ys.length :=
    Nat.lt_of_le_of_lt (Nat.mul_le_mul_left _ (Nat.le_of_lt a2)) (Nat.mul_lt_mul_of_pos_right a1 (Nat.pow_pos (by omega)))
  rw [← Nat.pow_add] at a3
  have a4 : 4294967296 ^ (i + 1 + ys.length) ≤ 4294967296 ^ (i + k) := Nat.pow_le_pow_right (by omega) (by omega)
  rcases Nat.eq_zero_or_pos c with h0 | h0
  · exact h0
  · have : 4294967296 ^ (i + k) * 1 ≤ 4294967296 ^ (i + k) * c := Nat.mul_le_mul_left _ h0
    omega

set_option maxHeartbeats 1000000 in
set_option maxRecDepth 100000 in
theorem ref_mul (va vb : Value) (xs0 ys0 : List Nat) (lx : xs0.length ≤ 40000) (ly : ys0.length ≤ 40000) (w : World) (ha : Holds32 w va xs0) (hb : Holds32 w vb ys0) :
    Calls Try.prog 29 #[va, vb] w (Gives w (lo (tv xs0 * tv ys0))) := by
  obtain ⟨ao, cap, xs, T1, H1, n1, _, l1⟩ := ref_taken_as va xs0 w ha
  obtain ⟨bo, cap2, ys, T2, H2, n2, _, l2⟩ := ref_taken_as vb ys0 w hb
  rw [← n1, ← n2]
  have lx1 : xs.length ≤ 40000 := by omega
  have ly1 : ys.length ≤ 40000 := by omega
  have hmk := run_make_row' (P := Try.prog) 22 41 (.int .u32 0) 4 Try.underlying22 info32 rfl .i64 .i64 (xs.length + ys.length + 1) (by omega) (by omega)
  have ec : ((xs.length + ys.length + 1 : Nat) : Int) = (xs.length : Int) + (ys.length : Int) + 1 := by omega
  rw [ec] at hmk
  have HH1 := Lib.hid H1
  have HH2 := Lib.hid H2
  clear ha hb n1 n2 H1 H2 l1 l2 lx ly ec
  go_enter Try.func29, Try.ntmps29
  go_upto_block 0 with (first
    | (go_at_call 38; (with_reducible refine T1.mono ?_); rintro e w' ⟨rfl, rfl⟩)
    | (go_at_call 38; (with_reducible refine T2.mono ?_); rintro e w' ⟨rfl, rfl⟩))
  clear T1 T2
  have hR := row_made w (xs.length + ys.length + 1)
  have hK := (Keeps.refl w).alloc (.cells (madeCells #[.int .u32 0] (xs.length + ys.length + 1)) 41)
  have G0 : w.heap.size ≤ w.heap.size := Nat.le_refl _
  generalize w.alloc (.cells (madeCells #[.int .u32 0] (xs.length + ys.length + 1)) 41) = w0 at hR hK ⊢
  clear hmk
  go_wp2_with fail
  go_loopw [8] (fun si wr => ∃ (i : Nat) (os : List Nat), si = .int .i64 (i : Int) ∧ i ≤ xs.length ∧ Row32 wr w.heap.size os ∧ Keeps w wr ∧ os.length = xs.length + ys.length + 1 ∧ nv os = nv (xs.take i) * nv ys) (fun si _ => xs.length - (intOf si).toNat)
  case atStart => exact ⟨0, _, rfl, Nat.zero_le _, hR, hK, by simp, by simp [nv_zeros, nv]⟩
  case round =>
    clear hR hK w0
    obtain ⟨i, os, rfl, hi, hR, hK, hl, hv⟩ := hrel
    by_cases g : (i : Int) < (xs.length : Int)
    · have hM := mul_inner hl hv
      have HR := Lib.hid hR
      have HK := Lib.hid hK
      have HM := Lib.hid hM
      clear hR hK hM hl hv
      go_wp2_with fail
      go_loopw [9, 10] (fun sc sk wr2 => ∃ (k c : Nat) (os2 : List Nat), sk = .int .i64 (k : Int) ∧ sc = .int .u64 (c : Int) ∧ k ≤ ys.length + 1 ∧ Row32 wr2 w.heap.size os2 ∧ Keeps w wr2 ∧ MulAt xs ys os2 i k c) (fun _ sk _ => ys.length + 1 - (intOf sk).toNat)
      case atStart => exact ⟨0, 0, os, rfl, rfl, Nat.zero_le _, HR.out, HK.out, HM.out⟩
      case round =>
        clear HR HK HM
        obtain ⟨k, c, os2, rfl, rfl, hk, hR2, hK2, hM⟩ := hrel
        have hc := hM.2.1
        by_cases g1 : (k : Int) < (ys.length : Int)
        · skip
          have D1 := fun m => (ref_digit _ xs i (by omega) (wr.drewN m) ((HH1.out.keeps hK2).keeps ((Keeps.refl _).drewN m))).mono fun e w' h => (show e = _ ∧ w' = wr.drewN m from ⟨h.1, h.2.symm⟩)
          have D2 := fun m => (ref_digit _ ys k (by omega) (wr.drewN m) ((HH2.out.keeps hK2).keeps ((Keeps.refl _).drewN m))).mono fun e w' h => (show e = _ ∧ w' = wr.drewN m from ⟨h.1, h.2.symm⟩)
          have hx := HH1.out.lt i
          have hy := HH2.out.lt k
          have ho := hR2.lt (i + k)
          have hil : i + k < os2.length := by rw [hM.1]; omega
          have hce := hR2.cell (i + k) hil
          have hfr := hR2.free (i + k)
          obtain ⟨n, en⟩ : ∃ n, n = xs.getD i 0 * ys.getD k 0 + os2.getD (i + k) 0 + c := ⟨_, rfl⟩
          obtain ⟨n1, hN⟩ := mul_next hM hil en hx hy ho
          obtain ⟨x, ex⟩ : ∃ x, x = xs.getD i 0 := ⟨_, rfl⟩
          obtain ⟨y, ey⟩ : ∃ y, y = ys.getD k 0 := ⟨_, rfl⟩
          obtain ⟨o, eo⟩ : ∃ o, o = os2.getD (i + k) 0 := ⟨_, rfl⟩
          rw [← ex, ← ey, ← eo] at en
          rw [← ex] at D1 hx
          rw [← ey] at D2 hy
          rw [← eo] at hce ho
          obtain ⟨p, ep⟩ : ∃ p, p = x * y := ⟨_, rfl⟩
          rw [← ep] at en
          have v1 : IntKind.u64.wrap ((x : Int) * (y : Int)) = (p : Int) := by rw [← Int.natCast_mul, ← ep, IntKind.wrap_u64]; omega
          have v2 : IntKind.u64.wrap ((p : Int) + (o : Int)) = (p : Int) + (o : Int) := IntWalk.u64_in _ ⟨by omega, by omega⟩
          have v3 : IntKind.u64.wrap ((p : Int) + (o : Int) + (c : Int)) = (n : Int) := by rw [IntKind.wrap_u64]; omega
          have v4 : IntKind.i64.wrap ((i : Int) + (k : Int)) = (i : Int) + (k : Int) := IntWalk.i64_in _ ⟨by omega, by omega⟩
          have v5 : (0 : Int) ≤ (i : Int) + (k : Int) := by omega
          have v6 : ((i : Int) + (k : Int)).toNat = i + k := by omega
          have v7 : (i : Int) + (k : Int) < (xs.length : Int) + (ys.length : Int) + 1 := by omega
          obtain ⟨d, ed⟩ : ∃ d, d = n % 4294967296 := ⟨_, rfl⟩
          obtain ⟨c2, ec2⟩ : ∃ c2, c2 = n / 4294967296 := ⟨_, rfl⟩
          rw [← ed, ← ec2] at hN
          have f1 : (n : Int) % 4294967296 = (d : Int) := by omega
          have f2 : (n : Int) / 4294967296 = (c2 : Int) := by omega
          have hd : d < 4294967296 := by omega
          have HN := Lib.hid hN
          have HR2 := Lib.hid hR2
          have HK2 := Lib.hid hK2
          have EN := Lib.hid en
          have EP := Lib.hid ep
          clear en ep ex ey eo ed ec2 hN hR2 hK2 hM hil
          go_wp2_with fail
          go_quiet ((first | (go_at_call 39; (with_reducible exact Calls.quiet_of_same (D1 _))) | (go_at_call 39; (with_reducible exact Calls.quiet_of_same (D2 _)))))
          go_wp2_with fail
          go_roundw
          case rel => exact ⟨k + 1, c2, os2.set (i + k) d, by go_num, (by first | rfl | rw [f2]), by omega, (HR2.out.drewN _).set _ _ hd, keeps_set (HK2.out.drewN _) (Nat.le_refl _), HN.out⟩
          case measure => simp [intOf]; omega
        · by_cases g2 : (0 : Int) < (c : Int)
          · have hk2 : k ≤ ys.length := by
              rcases Nat.lt_or_ge ys.length k with q | q
              · have := mul_stops HH1.out.1 HH2.out.1 hM q; omega
              · exact q
            have D1 := fun m => (ref_digit _ xs i (by omega) (wr.drewN m) ((HH1.out.keeps hK2).keeps ((Keeps.refl _).drewN m))).mono fun e w' h => (show e = _ ∧ w' = wr.drewN m from ⟨h.1, h.2.symm⟩)
            have D2 := fun m => (ref_digit _ ys k (by omega) (wr.drewN m) ((HH2.out.keeps hK2).keeps ((Keeps.refl _).drewN m))).mono fun e w' h => (show e = _ ∧ w' = wr.drewN m from ⟨h.1, h.2.symm⟩)
            have hx := HH1.out.lt i
            have hy := HH2.out.lt k
            have ho := hR2.lt (i + k)
            have hil : i + k < os2.length := by rw [hM.1]; omega
            have hce := hR2.cell (i + k) hil
            have hfr := hR2.free (i + k)
            obtain ⟨n, en⟩ : ∃ n, n = xs.getD i 0 * ys.getD k 0 + os2.getD (i + k) 0 + c := ⟨_, rfl⟩
            obtain ⟨n1, hN⟩ := mul_next hM hil en hx hy ho
            obtain ⟨x, ex⟩ : ∃ x, x = xs.getD i 0 := ⟨_, rfl⟩
            obtain ⟨y, ey⟩ : ∃ y, y = ys.getD k 0 := ⟨_, rfl⟩
            obtain ⟨o, eo⟩ : ∃ o, o = os2.getD (i + k) 0 := ⟨_, rfl⟩
            rw [← ex, ← ey, ← eo] at en
            rw [← ex] at D1 hx
            rw [← ey] at D2 hy
            rw [← eo] at hce ho
            obtain ⟨p, ep⟩ : ∃ p, p = x * y := ⟨_, rfl⟩
            rw [← ep] at en
            have v1 : IntKind.u64.wrap ((x : Int) * (y : Int)) = (p : Int) := by rw [← Int.natCast_mul, ← ep, IntKind.wrap_u64]; omega
            have v2 : IntKind.u64.wrap ((p : Int) + (o : Int)) = (p : Int) + (o : Int) := IntWalk.u64_in _ ⟨by omega, by omega⟩
            have v3 : IntKind.u64.wrap ((p : Int) + (o : Int) + (c : Int)) = (n : Int) := by rw [IntKind.wrap_u64]; omega
            have v4 : IntKind.i64.wrap ((i : Int) + (k : Int)) = (i : Int) + (k : Int) := IntWalk.i64_in _ ⟨by omega, by omega⟩
            have v5 : (0 : Int) ≤ (i : Int) + (k : Int) := by omega
            have v6 : ((i : Int) + (k : Int)).toNat = i + k := by omega
            have v7 : (i : Int) + (k : Int) < (xs.length : Int) + (ys.length : Int) + 1 := by omega
            obtain ⟨d, ed⟩ : ∃ d, d = n % 4294967296 := ⟨_, rfl⟩
            obtain ⟨c2, ec2⟩ : ∃ c2, c2 = n / 4294967296 := ⟨_, rfl⟩
            rw [← ed, ← ec2] at hN
            have f1 : (n : Int) % 4294967296 = (d : Int) := by omega
            have f2 : (n : Int) / 4294967296 = (c2 : Int) := by omega
            have hd : d < 4294967296 := by omega
            have HN := Lib.hid hN
            have HR2 := Lib.hid hR2
            have HK2 := Lib.hid hK2
            have EN := Lib.hid en
            have EP := Lib.hid ep
            clear en ep ex ey eo ed ec2 hN hR2 hK2 hM hil
            go_wp2_with fail
            go_quiet ((first | (go_at_call 39; (with_reducible exact Calls.quiet_of_same (D1 _))) | (go_at_call 39; (with_reducible exact Calls.quiet_of_same (D2 _)))))
            go_wp2_with fail
            go_roundw
            case rel => exact ⟨k + 1, c2, os2.set (i + k) d, by go_num, (by first | rfl | rw [f2]), by omega, (HR2.out.drewN _).set _ _ hd, keeps_set (HK2.out.drewN _) (Nat.le_refl _), HN.out⟩
            case measure => simp [intOf]; omega
          · have c0 : c = 0 := by omega
            subst c0
            have E := Lib.hid (mul_done hM (by omega))
            have HL := Lib.hid hM.1
            have HR2 := Lib.hid hR2
            have HK2 := Lib.hid hK2
            clear hR2 hK2 hM hc
            go_wp2_with fail
            go_roundw
            case rel => exact ⟨i + 1, os2, by go_num, by omega, HR2.out, HK2.out, HL.out, E.out⟩
            case measure => simp [intOf]; omega
    · obtain rfl : i = xs.length := by omega
      rw [List.take_of_length_le (Nat.le_refl _)] at hv
      have L := ref_low _ os (by omega) wr (hR.holds (xs.length + ys.length + 1) hl (by omega))
      rw [hv] at L
      have HK := Lib.hid hK
      clear hR hK hl hv
      go_wp2_with (go_at_call 40; (with_reducible refine L.mono ?_); rintro e w1 ⟨v, rfl, hv, hk1, hf1⟩)
      have HV := Lib.hid hv
      have HK1 := Lib.hid (HK.out.trans hk1)
      have HF1 := Lib.hid (hf1.later HK.out)
      clear hv hk1 hf1 L
      go_wp2_with fail
      go_ret
      exact ⟨v, rfl, HV.out, HK1.out, HF1.out⟩
end Go.Proofs.Ytjegjdefeflijaa
