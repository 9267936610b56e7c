/- Texts of one proof, laid together: NatDiv, NatGcd, NatText, NatParse, NatHold, FracSmall, FracFew, Box, FracBox, NatKnuth, NatPart. -/
import Derived.Test.YtachhphneamfhaaB1
import Derived.Deep.LoopGhost
import Derived.Laws.BytesArg
import Derived.Deep.RegionWith
import Derived.OneCell
set_option linter.unusedVariables false
set_option linter.unusedSimpArgs false
/- The contract of the document's own DivMod: bit by bit. -/
namespace Go.Proofs.Ytachhphneamfhaa
open Go.RowKit Go.NatMath

/-- With j bits left: the rest so far, and the quotient so far. -/
def DivAt (A B j R Q : Nat) : Prop := R = A / 2 ^ j % B ∧ Q = 2 ^ j * (A / 2 ^ j / B)
theorem halves (A i : Nat) : A / 2 ^ i = 2 * (A / 2 ^ (i + 1)) + A / 2 ^ i % 2 := by
  rw [Nat.pow_succ, ← Nat.div_div_eq_div_mul]; omega
theorem div_yes {A B i R Q : Nat} (hB : 0 < B) (h : DivAt A B (i + 1) R Q) (hb : B ≤ 2 * R + A / 2 ^ i % 2) : DivAt A B i (2 * R + A / 2 ^ i % 2 - B) (Q + 2 ^ i) ∧ R < B := by
  obtain ⟨h1, h2⟩ := h
  have e := halves A i
  generalize A / 2 ^ (i + 1) = a at *
  have hbit : A / 2 ^ i % 2 < 2 := Nat.mod_lt _ (by omega)
  generalize A / 2 ^ i % 2 = b at *
  have hR : R < B := by rw [h1]; exact Nat.mod_lt _ hB
  have ha := Nat.div_add_mod a B
  rw [← h1] at ha
  have e2 : A / 2 ^ i = (2 * R + b - B) + B * (2 * (a / B) + 1) := by rw [e, Nat.mul_add, Nat.mul_left_comm]; omega
  refine ⟨⟨?_, ?_⟩, hR⟩
  · rw [e2, Nat.add_mul_mod_self_left, Nat.mod_eq_of_lt (by omega)]
  · rw [e2, Nat.add_mul_div_left _ _ hB, Nat.div_eq_of_lt (by omega), Nat.zero_add, Nat.mul_add, Nat.mul_one, h2, Nat.pow_succ, Nat.mul_assoc]
theorem div_no {A B i R Q : Nat} (hB : 0 < B) (h : DivAt A B (i + 1) R Q) (hb : ¬ B ≤ 2 * R + A / 2 ^ i % 2) : DivAt A B i (2 * R + A / 2 ^ i % 2) Q ∧ R < B := by
  obtain ⟨h1, h2⟩ := h
  have e := halves A i
  generalize A / 2 ^ (i + 1) = a at *
  generalize A / 2 ^ i % 2 = b at *
  have hR : R < B := by rw [h1]; exact Nat.mod_lt _ hB
  have ha := Nat.div_add_mod a B
  rw [← h1] at ha
  have e2 : A / 2 ^ i = (2 * R + b) + B * (2 * (a / B)) := by rw [e, Nat.mul_left_comm]; omega
  refine ⟨⟨?_, ?_⟩, hR⟩
  · rw [e2, Nat.add_mul_mod_self_left, Nat.mod_eq_of_lt (by omega)]
  · rw [e2, Nat.add_mul_div_left _ _ hB, Nat.div_eq_of_lt (by omega), Nat.zero_add, h2, Nat.pow_succ, Nat.mul_assoc]
theorem div_top {A B j : Nat} (h : A < 2 ^ j) : DivAt A B j 0 0 := by simp [DivAt, Nat.div_eq_of_lt h]
theorem div_bottom {A B R Q : Nat} (h : DivAt A B 0 R Q) : R = A % B ∧ Q = A / B := by simpa [DivAt] using h

theorem digit_of {xs : List Nat} (hx : ∀ x ∈ xs, x < 4294967296) (k : Nat) : nv xs / 4294967296 ^ k % 4294967296 = xs.getD k 0 := by
  induction k generalizing xs with
  | zero =>
    cases xs with
    | nil => simp [nv]
    | cons x xs => have := hx x (List.mem_cons_self ..); simp [nv]; omega
  | succ k ih =>
    cases xs with
    | nil => simp [nv]
    | cons x xs =>
      have h1 := hx x (List.mem_cons_self ..)
      have e : (x + 4294967296 * nv xs) / 4294967296 = nv xs := by omega
      rw [nv, Nat.pow_succ, Nat.mul_comm (4294967296 ^ k), ← Nat.div_div_eq_div_mul, e]
      exact ih (fun y hy => hx y (List.mem_cons_of_mem _ hy))
theorem pow_split (i : Nat) : 2 ^ i = 4294967296 ^ (i / 32) * 2 ^ (i % 32) := by
  rw [show 4294967296 = 2 ^ 32 from rfl, ← Nat.pow_mul, ← Nat.pow_add, Nat.div_add_mod]
theorem bit_at {xs : List Nat} (hx : ∀ x ∈ xs, x < 4294967296) (i : Nat) : nv xs / 2 ^ i % 2 = xs.getD (i / 32) 0 / 2 ^ (i % 32) % 2 := by
  have h := digit_of hx (i / 32)
  rw [pow_split, ← Nat.div_div_eq_div_mul]
  generalize nv xs / 4294967296 ^ (i / 32) = n at *
  have hr : i % 32 < 32 := Nat.mod_lt _ (by omega)
  generalize i % 32 = r at *
  generalize xs.getD (i / 32) 0 = x at *
  have e : n = 2 ^ r * (2 ^ (31 - r) * 2 * (n / 4294967296)) + x := by
    have e1 : 2 ^ r * (2 ^ (31 - r) * 2) = 4294967296 := by
      rw [← Nat.pow_succ, ← Nat.pow_add, show r + (31 - r).succ = 32 from by omega]
    rw [← Nat.mul_assoc, e1, ← h, Nat.div_add_mod]
  conv => lhs; rw [e]
  rw [Nat.mul_add_div (Nat.two_pow_pos r), Nat.mul_right_comm, Nat.mul_comm _ 2, Nat.mul_add_mod]
theorem or_bit {os : List Nat} (ho : ∀ x ∈ os, x < 4294967296) {i m : Nat} (hi : i / 32 < os.length) (h : nv os = 2 ^ (i + 1) * m) :
    os.getD (i / 32) 0 ||| 2 ^ (i % 32) = os.getD (i / 32) 0 + 2 ^ (i % 32) ∧ os.getD (i / 32) 0 + 2 ^ (i % 32) < 4294967296 ∧ nv (os.set (i / 32) (os.getD (i / 32) 0 + 2 ^ (i % 32))) = nv os + 2 ^ i := by
  have hd := digit_of ho (i / 32)
  have hs := nv_set (os := os) (i / 32) (os.getD (i / 32) 0 + 2 ^ (i % 32)) hi
  have hr : i % 32 < 32 := Nat.mod_lt _ (by omega)
  have e1 : nv os / 4294967296 ^ (i / 32) = 2 ^ (i % 32 + 1) * m := by
    rw [h, Nat.pow_succ, pow_split i, Nat.mul_assoc, Nat.mul_assoc, Nat.mul_div_cancel_left _ (Nat.pow_pos (by omega)), Nat.pow_succ, Nat.mul_assoc]
  rw [e1] at hd
  rw [Nat.mul_add, ← pow_split] at hs
  generalize i % 32 = r at *
  have e2 : 4294967296 = 2 ^ (r + 1) * 2 ^ (31 - r) := by rw [← Nat.pow_add, show r + 1 + (31 - r) = 32 from by omega]
  have e3 : os.getD (i / 32) 0 = 2 ^ (r + 1) * (m % 2 ^ (31 - r)) := by rw [← hd, e2, Nat.mul_mod_mul_left]
  have e4 : 2 ^ (r + 1) * (m % 2 ^ (31 - r)) + 2 ^ (r + 1) ≤ 4294967296 := by
    rw [e2, ← Nat.mul_succ]
    exact Nat.mul_le_mul_left _ (Nat.mod_lt _ (Nat.two_pow_pos _))
  have e5 : 2 ^ r < 2 ^ (r + 1) := Nat.pow_lt_pow_right (by omega) (by omega)
  refine ⟨?_, ?_, by omega⟩
  · rw [e3, ← Nat.two_pow_add_eq_or_of_lt e5]
  · rw [e3]; omega

theorem lo_len {n : Nat} {ys : List Nat} (hy : ∀ x ∈ ys, x < 4294967296) (h : n ≤ nv ys) : (lo n).length ≤ ys.length := len_le hy (rt_lo n) (by rw [nv_lo]; exact h)
theorem lo_len2 {n : Nat} {ys : List Nat} (hy : ∀ x ∈ ys, x < 4294967296) (h : n ≤ 2 * nv ys + 1) : (lo n).length ≤ ys.length + 1 := by
  have h2 := lo_len (n := n) (ys := 1 :: ys) (by intro x hx; rcases List.mem_cons.1 hx with e | e; omega; exact hy x e) (by rw [nv]; omega)
  simpa using h2
theorem lo_len1 (n : Nat) (h : n < 4294967296) : (lo n).length ≤ 1 := by
  have h2 := lo_len (n := n) (ys := [4294967295]) (by simp) (by simp [nv]; omega)
  simpa using h2
theorem u32_and1 (n : Int) : bits .and .u32 n 1 = n % 2 := by
  have h1 : (BitVec.ofInt 32 1).toNat = 2 ^ 1 - 1 := by decide
  have key : (BitVec.ofInt 32 n &&& BitVec.ofInt 32 1).toNat = (n % ((2 ^ 32 : Nat) : Int)).toNat % 2 ^ 1 := by
    rw [BitVec.toNat_and, BitVec.toNat_ofInt, h1, Nat.and_two_pow_sub_one_eq_mod]
  show IntKind.u32.wrap ((BitVec.ofInt 32 n &&& BitVec.ofInt 32 1).toNat : Nat) = n % 2
  rw [key, IntKind.wrap_u32]
  omega
theorem u32_bit (x j : Nat) : bits .and .u32 ((x : Int) / 2 ^ j) 1 = ((x / 2 ^ j % 2 : Nat) : Int) := by
  rw [u32_and1, Int.natCast_emod, Int.natCast_ediv, Int.natCast_pow]; rfl

theorem Row32.keeps {w w' : World} {G : Nat} {os : List Nat} (h : Row32 w G os) (k : Keeps w w') : Row32 w' G os := ⟨h.1, (Below.block k G h.size).trans h.2⟩
theorem u32_or_bit (o s : Nat) (hs : s < 32) (h : o ||| 2 ^ s = o + 2 ^ s) (hl : o + 2 ^ s < 4294967296) : bits .or .u32 (o : Int) ((2 : Int) ^ s % 4294967296) = ((o + 2 ^ s : Nat) : Int) := by
  have e : (2 : Int) ^ s % 4294967296 = ((2 ^ s : Nat) : Int) := by
    have : ((2 ^ s : Nat) : Int) = (2 : Int) ^ s := by simp
    have h0 := Nat.two_pow_pos s
    rw [← this]
    generalize 2 ^ s = z at *
    omega
  rw [e]
  have h1 : (BitVec.ofInt 32 (o : Int)).toNat = o := by
    rw [BitVec.ofInt_natCast, BitVec.toNat_ofNat]; exact Nat.mod_eq_of_lt (by omega)
  have h2 : (BitVec.ofInt 32 ((2 ^ s : Nat) : Int)).toNat = 2 ^ s := by
    rw [BitVec.ofInt_natCast, BitVec.toNat_ofNat]; exact Nat.mod_eq_of_lt (by omega)
  show IntKind.u32.wrap ((BitVec.ofInt 32 (o : Int) ||| BitVec.ofInt 32 ((2 ^ s : Nat) : Int)).toNat : Int) = _
  rw [BitVec.toNat_or, h1, h2, h, IntKind.wrap_u32]
  omega

/-- v does not lead to block G. -/
def Apart (G : Nat) (v : Value) : Prop := ∀ b off l c, v = .slice (some ⟨b, off, none⟩) l c → b ≠ G
theorem Fresh.apart {w : World} {G : Nat} {v : Value} (h : Fresh w v) (hG : G < w.heap.size) : Apart G v := fun b off l c e => by have := h b off l c e; omega
theorem Holds32.set {w : World} {v : Value} {xs : List Nat} {G i : Nat} {u : Value} (h : Holds32 w v xs) (ha : Apart G v) : Holds32 (w.setCell ⟨G, i, none⟩ u) v xs := by
  obtain ⟨h1, ao, len, cap, rfl, h3, h4, h5, h6⟩ := h
  refine ⟨h1, ao, len, cap, rfl, h3, h4, h5, ?_⟩
  rcases h6 with h6 | ⟨b, off, h7, h8, h9⟩
  · exact Or.inl h6
  · subst h7
    have hne := ha b off len cap rfl
    refine Or.inr ⟨b, off, rfl, by simpa [World.setCell] using h8, fun j hj => ?_⟩
    rw [← h9 j hj]
    have e : (w.setCell ⟨G, i, none⟩ u).heap[b]? = w.heap[b]? := Below.heap_setCell _ _ _ _ hne
    simp only [World.cell?, e]

/-- A call gives two slices of these digits, and this bool. -/
def Gives3 (w : World) (qs rs : List Nat) (b : Bool) (e : Ending) (w' : World) : Prop := ∃ q r, e = .returned (.tuple #[q, r, .bool b]) ∧ Holds32 w' q qs ∧ Holds32 w' r rs ∧ Keeps w w' ∧ Fresh w q ∧ Fresh w r

set_option maxHeartbeats 1000000 in
set_option maxRecDepth 100000 in
theorem ref_divmod_in (va vb : Value) (xs0 ys0 : List Nat) (lx : xs0.length ≤ 10000) (ly : ys0.length ≤ 10000) (hB : 0 < tv ys0) (w : World) (ha : Holds32 w va xs0) (hb : Holds32 w vb ys0) :
    Calls Try.prog 68 #[va, vb] w (Gives3 w (lo (tv xs0 / tv ys0)) (lo (tv xs0 % tv ys0)) true) := by
  obtain ⟨ao, cap, xs, T1, H1, n1, _, l1⟩ := ref_taken_as va xs0 w ha
  obtain ⟨bo, cap2, ys, T2, H2, n2, r2, l2⟩ := ref_taken_as vb ys0 w hb
  rw [← n1, ← n2]
  rw [← n2] at hB
  have lx1 : xs.length ≤ 10000 := by omega
  have ly1 : ys.length ≤ 10000 := by omega
  have y0 : ((ys.length : Int) == 0) = false := by
    have : ys.length ≠ 0 := by intro e; rw [List.eq_nil_of_length_eq_zero e] at hB; exact absurd hB (by decide)
    simp; intro e; exact this (by rw [e]; rfl)
  have hmk := run_make_row' (P := Try.prog) 22 45 (.int .u32 0) 4 Try.underlying22 info32 rfl .i64 .i64 xs.length (by omega) (by omega)
  have HH1 := Lib.hid H1
  have HH2 := Lib.hid H2
  have HB := Lib.hid hB
  have R2 := Lib.hid r2
  clear ha hb n1 n2 H1 H2 l1 l2 lx ly hB r2
  go_enter Try.func68, Try.ntmps68
  go_upto_block 0 with (first
    | (go_at_call 67; (with_reducible refine T1.mono ?_); rintro e w' ⟨rfl, rfl⟩)
    | (go_at_call 67; (with_reducible refine T2.mono ?_); rintro e w' ⟨rfl, rfl⟩))
  clear T1 T2
  have hR := row_made w xs.length
  have hK := (Keeps.refl w).alloc (.cells (madeCells #[.int .u32 0] xs.length) 45)
  generalize w.alloc (.cells (madeCells #[.int .u32 0] xs.length) 45) = w0 at hR hK ⊢
  clear hmk
  go_wp2_with fail
  go_loopw [10, 11] (fun sr si wr => ∃ (j R : Nat) (os : List Nat), si = .int .i64 ((j : Int) - 1) ∧ j ≤ 32 * xs.length ∧ Row32 wr w.heap.size os ∧ Keeps w wr ∧ os.length = xs.length ∧ Holds32 wr sr (lo R) ∧ Apart w.heap.size sr ∧ DivAt (nv xs) (nv ys) j R (nv os) ∧ R < nv ys) (fun _ si _ => (intOf si + 1).toNat)
  case atStart => exact ⟨32 * xs.length, 0, _, by congr 1, Nat.le_refl _, hR, hK, by simp, (by rw [lo_zero]; exact Holds32.nil _), (fun b off l c e => by cases e), by rw [nv_zeros]; exact div_top (by have := nv_lt HH1.out.1; rw [Nat.pow_mul]; exact this), HB.out⟩
  case round =>
    clear hR hK w0
    obtain ⟨j, R, os, rfl, hj, hR, hK, hl, hr, hp, hD, hlt⟩ := hrel
    by_cases g : (1 : Int) ≤ (j : Int)
    · obtain ⟨i, rfl⟩ : ∃ i, j = i + 1 := ⟨j - 1, by omega⟩
      have iq : i / 32 < xs.length := by omega
      obtain ⟨h1, ao', len', cap', e1, e2, e3, e4, e5⟩ := HH1.out
      cases e1
      rcases e5 with e5 | ⟨b, off, rfl, h6, h7⟩
      · omega
      · have cx := (hK.cell h6).trans (h7 (i / 32) iq)
        have hbit := bit_at h1 i
        have hx := HH1.out.lt (i / 32)
        obtain ⟨x, ex⟩ : ∃ x, x = xs.getD (i / 32) 0 := ⟨_, rfl⟩
        rw [← ex] at cx hbit hx
        have e0 : ((i + 1 : Nat) : Int) - 1 = (i : Int) := by omega
        have i0 : (0 : Int) ≤ (i : Int) := by omega
        have HIQ : (i : Int) / 32 < (xs.length : Int) := by omega
        obtain ⟨q, eq⟩ : ∃ q, q = i / 32 := ⟨_, rfl⟩
        obtain ⟨s, es⟩ : ∃ s, s = i % 32 := ⟨_, rfl⟩
        have f1 : (i : Int) / 32 = (q : Int) := by omega
        have f2 : (i : Int) % 32 = (s : Int) := by omega
        have s1 : s < 32 := by omega
        rw [← eq] at cx
        have HR := Lib.hid hR
        have HK := Lib.hid hK
        have HL := Lib.hid hl
        have HRR := Lib.hid hr
        have HP := Lib.hid hp
        have HD := Lib.hid hD
        have HBIT := Lib.hid hbit
        have ES := Lib.hid es
        have EQ := Lib.hid eq
        clear hR hK hl hr hp hD hbit h7 h1 ex es eq
        obtain ⟨bt, ebt⟩ : ∃ bt, bt = x / 2 ^ s % 2 := ⟨_, rfl⟩
        have hbt : bt ≤ 1 := by have : x / 2 ^ s % 2 < 2 := Nat.mod_lt _ (by omega); omega
        have hbt2 : bt < 18446744073709551616 := by omega
        have f3 : bits .and .u32 ((x : Int) / 2 ^ s) 1 = (bt : Int) := by rw [ebt]; exact u32_bit x s
        have HB2 := Lib.hid (show bt = nv xs / 2 ^ i % 2 from by rw [HBIT.out, ebt, ES.out])
        have l0 := lo_len (n := R) HH2.out.1 (by omega)
        have l1 : (lo bt).length ≤ 100000 := by have := lo_len1 bt (by omega); omega
        have l2 := lo_len2 (n := R + R) HH2.out.1 (by omega)
        have l3 := lo_len2 (n := R + R + bt) HH2.out.1 (by omega)
        have A1 := ref_add _ _ (lo R) (lo R) (by omega) (by omega) wr HRR.out HRR.out
        rw [tv_lo] at A1
        have l2 : (lo (R + R)).length ≤ 100000 := by omega
        clear ebt
        go_upto_region 12 with (first
            | (go_at_call 60; (with_reducible refine A1.mono ?_); rintro e wa ⟨v1, rfl, hv1, hk1, hf1⟩)
            | (go_at_call 62; (with_reducible refine (ref_of bt hbt2 _).mono ?_); rintro e wb ⟨v2, rfl, hv2, hk2, hf2⟩)
            | (go_at_call 60; (with_reducible refine (ref_add v1 v2 (lo (R + R)) (lo bt) l2 l1 _ (hv1.keeps hk2) hv2).mono ?_); rintro e wc ⟨v3, rfl, hv3, hk3, hf3⟩))
        rw [tv_lo, tv_lo] at hv3
        have kc := (hk1.trans hk2).trans hk3
        have hRc := HR.out.keeps kc
        have hKc := HK.out.trans kc
        have pc := hf3.apart (G := w.heap.size) (by have := HR.out.size; have := (hk1.trans hk2).size; omega)
        have C := ref_cmp _ _ (lo (R + R + bt)) ys wc hv3 (HH2.out.keeps hKc)
        rw [tv_lo, show tv ys = nv ys from if_pos R2.out] at C
        have e2R : 2 * R + nv xs / 2 ^ i % 2 = R + R + bt := by rw [← HB2.out]; omega
        have HRc := Lib.hid hRc
        have HKc := Lib.hid hKc
        have HV3 := Lib.hid hv3
        have HPc := Lib.hid pc
        have E2R := Lib.hid e2R
        clear hv1 hv2 hv3 hk1 hk2 hk3 hf1 hf2 hf3 kc hRc hKc pc A1 e2R HR HK HRR HP
        by_cases hge : nv ys ≤ R + R + bt
        · have hcv := cmp_not hge
          generalize cmpN (R + R + bt) (nv ys) = cv at C hcv
          have S := ref_sub _ _ (lo (R + R + bt)) ys (by omega) wc HV3.out (HH2.out.keeps HKc.out)
          rw [tv_lo, show tv ys = nv ys from if_pos R2.out, if_pos hge, show decide (nv ys ≤ R + R + bt) = true from decide_eq_true hge] at S
          obtain ⟨hD2, hRlt⟩ := div_yes HB.out HD.out (by rw [E2R.out]; exact hge)
          rw [E2R.out] at hD2
          have hlt2 : R + R + bt - nv ys < nv ys := by omega
          have hiq2 : i / 32 < os.length := by rw [HL.out]; exact iq
          obtain ⟨o1, o2, o3⟩ := or_bit HRc.out.1 hiq2 HD.out.2
          rw [← o3] at hD2
          have HD2 := Lib.hid hD2
          clear hD2 o3 hge
          rw [← EQ.out, ← ES.out] at o1 o2
          go_upto_region 15 with (first
            | (go_at_call 44; (with_reducible refine C.mono ?_); rintro e w' ⟨rfl, rfl⟩)
            | (go_at_call 81; (with_reducible refine S.mono ?_); rintro e wd ⟨v4, rfl, hv4, hk4, hf4⟩))
          have hRd := HRc.out.keeps hk4
          have hq : q < os.length := by rw [HL.out, EQ.out]; exact iq
          have hce := hRd.cell q hq
          have hfr := hRd.free q
          obtain ⟨o, eo⟩ : ∃ o, o = os.getD q 0 := ⟨_, rfl⟩
          rw [← eo] at hce o1 o2
          have HRd := Lib.hid hRd
          have HKd := Lib.hid (HKc.out.trans hk4)
          have HV4 := Lib.hid hv4
          have HPd := Lib.hid (hf4.apart (G := w.heap.size) HRc.out.size)
          have O1 := Lib.hid o1
          have EO := Lib.hid eo
          have hq2 : (q : Int) < (xs.length : Int) := by have := HL.out; omega
          clear hRd hk4 hv4 hf4 C S o1 eo hq
          go_wp2_with fail
          go_roundw
          case rel =>
            have hd := HD2.out
            rw [← EQ.out, ← ES.out, ← EO.out] at hd
            rw [u32_or_bit o s s1 O1.out o2]
            exact ⟨i, R + R + bt - nv ys, os.set q (o + 2 ^ s), rfl, by omega, HRd.out.set q _ o2, keeps_set HKd.out (Nat.le_refl _), by rw [List.length_set]; exact HL.out, HV4.out.set HPd.out, HPd.out, hd, hlt2⟩
          case measure => simp [intOf]
        · have hcv := cmp_neg (show R + R + bt < nv ys by omega)
          rw [hcv] at C
          obtain ⟨hD2, hRlt⟩ := div_no HB.out HD.out (by rw [E2R.out]; exact hge)
          rw [E2R.out] at hD2
          have HD2 := Lib.hid hD2
          have hlt2 : R + R + bt < nv ys := by omega
          clear hD2 hge hcv
          go_wp2_with (first
            | (go_at_call 44; (with_reducible refine C.mono ?_); rintro e w' ⟨rfl, rfl⟩))
          go_roundw
          case rel => exact ⟨i, R + R + bt, os, rfl, by omega, HRc.out, HKc.out, HL.out, HV3.out, HPc.out, HD2.out, hlt2⟩
          case measure => simp [intOf]
    · obtain rfl : j = 0 := by omega
      obtain ⟨e1, e2⟩ := div_bottom hD
      have L1 := ref_low _ os (by omega) wr (hR.holds xs.length hl (by omega))
      rw [e2] at L1
      have l0 := lo_len (n := R) HH2.out.1 (by omega)
      have L2 := fun wq (k : Keeps wr wq) => ref_low u10 (lo R) (by omega) wq (hr.keeps k)
      rw [nv_lo, e1] at L2
      have HK := Lib.hid hK
      clear hR hK hl hr hp hD hlt e1 e2 hj l0
      go_wp2_with (first
        | (go_at_call 80; (with_reducible refine L1.mono ?_); rintro e wa ⟨v1, rfl, hv1, hk1, hf1⟩)
        | (go_at_call 80; (with_reducible refine (L2 _ hk1).mono ?_); rintro e wb ⟨v2, rfl, hv2, hk2, hf2⟩))
      have V1 := Lib.hid (hv1.keeps hk2)
      have V2 := Lib.hid hv2
      have KK := Lib.hid ((HK.out.trans hk1).trans hk2)
      have F1 := Lib.hid (hf1.later HK.out)
      have F2 := Lib.hid (hf2.later (HK.out.trans hk1))
      clear hv1 hv2 hk1 hk2 hf1 hf2 L1 L2
      go_wp2_with fail
      go_ret3
      exact ⟨v1, v2, rfl, V1.out, V2.out, KK.out, F1.out, F2.out⟩
end Go.Proofs.Ytachhphneamfhaa
/- The contracts of the document's own DivMod, Gcd and Int. -/
namespace Go.Proofs.Ytachhphneamfhaa
open Go.RowKit Go.NatMath

theorem fresh_nil (w : World) : Fresh w (.slice none 0 0) := fun b off l c e => by cases e

theorem ref_divmod (va vb : Value) (xs0 ys0 : List Nat) (lx : xs0.length ≤ 10000) (ly : ys0.length ≤ 10000) (w : World) (ha : Holds32 w va xs0) (hb : Holds32 w vb ys0) :
    Calls Try.prog 68 #[va, vb] w (Gives3 w (if 0 < tv ys0 then lo (tv xs0 / tv ys0) else []) (if 0 < tv ys0 then lo (tv xs0 % tv ys0) else []) (decide (0 < tv ys0))) := by
  by_cases h : 0 < tv ys0
  · rw [if_pos h, if_pos h, decide_eq_true h]
    exact ref_divmod_in va vb xs0 ys0 lx ly h w ha hb
  · rw [if_neg h, if_neg h, decide_eq_false h]
    obtain ⟨ao, cap, xs, T1, H1, n1, _, l1⟩ := ref_taken_as va xs0 w ha
    obtain ⟨bo, cap2, ys, T2, H2, n2, r2, l2⟩ := ref_taken_as vb ys0 w hb
    have y0 : ys.length = 0 := by
      have e := lo_nv H2.1 r2
      rw [n2, show tv ys0 = 0 from by omega, lo_zero] at e
      rw [← e]; rfl
    rw [y0] at T2
    clear ha hb h H1 H2 n1 n2 r2 l1 l2
    go_enter Try.func68, Try.ntmps68
    go_wp2_with (first
      | (go_at_call 67; (with_reducible refine T1.mono ?_); rintro e w' ⟨rfl, rfl⟩)
      | (go_at_call 67; (with_reducible refine T2.mono ?_); rintro e w' ⟨rfl, rfl⟩))
    go_ret3
    exact ⟨_, _, rfl, Holds32.nil _, Holds32.nil _, Keeps.refl _, fresh_nil _, fresh_nil _⟩

theorem lo_length_zero {n : Nat} : (lo n).length = 0 ↔ n = 0 := by
  constructor
  · intro h
    have e := List.eq_nil_of_length_eq_zero h
    rw [← nv_lo n, e]; rfl
  · intro h; rw [h, lo_zero]; rfl

set_option maxHeartbeats 1000000 in
theorem ref_gcd (va vb : Value) (xs0 ys0 : List Nat) (lx : xs0.length ≤ 10000) (ly : ys0.length ≤ 10000) (w : World) (ha : Holds32 w va xs0) (hb : Holds32 w vb ys0) :
    Calls Try.prog 64 #[va, vb] w (Gives w (lo (Nat.gcd (tv xs0) (tv ys0)))) := by
  obtain ⟨ao, cap, xs, T1, H1, n1, r1, l1⟩ := ref_taken_as va xs0 w ha
  obtain ⟨bo, cap2, ys, T2, H2, n2, r2, l2⟩ := ref_taken_as vb ys0 w hb
  rw [← n1, ← n2]
  have e1 := lo_nv H1.1 r1
  have e2 := lo_nv H2.1 r2
  have lA : (lo (nv xs)).length ≤ 10000 := by rw [e1]; omega
  have lB : (lo (nv ys)).length ≤ 10000 := by rw [e2]; omega
  have HH1 : Holds32 w (.slice ao xs.length cap) (lo (nv xs)) := by rw [e1]; exact H1
  have HH2 : Holds32 w (.slice bo ys.length cap2) (lo (nv ys)) := by rw [e2]; exact H2
  have HA := Lib.hid HH1
  have HB := Lib.hid HH2
  generalize nv xs = A at *
  generalize nv ys = B at *
  generalize hg : Nat.gcd A B = g
  have HG := Lib.hid hg
  clear ha hb n1 n2 r1 r2 H1 H2 l1 l2 lx ly e1 e2 HH1 HH2 hg
  go_enter Try.func64, Try.ntmps64
  go_upto_block 0 with (first
    | (go_at_call 67; (with_reducible refine T1.mono ?_); rintro e w' ⟨rfl, rfl⟩)
    | (go_at_call 67; (with_reducible refine T2.mono ?_); rintro e w' ⟨rfl, rfl⟩))
  clear T1 T2
  go_wp2_with fail
  go_loopg [5, 6] B (fun gh sa sb wr => ∃ A1 B1 : Nat, B1 = gh ∧ Holds32 wr sa (lo A1) ∧ Holds32 wr sb (lo B1) ∧ Keeps w wr ∧ (lo A1).length ≤ 10000 ∧ (lo B1).length ≤ 10000 ∧ Nat.gcd A1 B1 = g)
  case atStart => exact ⟨A, B, rfl, HA.out, HB.out, Keeps.refl w, lA, lB, HG.out⟩
  case round =>
    clear HA HB lA lB HG
    obtain ⟨A1, B1, rfl, hA, hB, hK, lA, lB, hg⟩ := hrel
    have D := ref_divmod _ _ (lo A1) (lo B1) lA lB wr hA hB
    rw [tv_lo, tv_lo] at D
    have L := ref_low _ (lo A1) (by omega) wr hA
    rw [nv_lo] at L
    have HA := Lib.hid hA
    have hB9 := hB
    obtain ⟨_, bo1, len1, cap1, rfl, e1, _, _, _⟩ := hB
    subst e1
    have HB9 := Lib.hid hB9
    clear hB9
    have HK := Lib.hid hK
    clear hA hK
    by_cases hz : B1 = 0
    · have e0 : (lo B1).length = 0 := lo_length_zero.2 hz
      rw [hz, Nat.gcd_zero_right] at hg
      rw [hg] at L
      rw [e0]
      clear D hz hg lA lB e0
      go_wp2_with (go_at_call 80; (with_reducible refine L.mono ?_); rintro e w1 ⟨v, rfl, hv, hk1, hf1⟩)
      have HV := Lib.hid hv
      have HK1 := Lib.hid (HK.out.trans hk1)
      have HF1 := Lib.hid (hf1.later HK.out)
      clear hv hk1 hf1 L
      go_wp2_with fail
      go_ret
      exact ⟨v, rfl, HV.out, HK1.out, HF1.out⟩
    · have e0 : (0 : Int) < ((lo B1).length : Int) := by
        have : (lo B1).length ≠ 0 := fun e => hz (lo_length_zero.1 e)
        omega
      rw [if_pos (by omega), if_pos (by omega), decide_eq_true (by omega)] at D
      have lR : (lo (A1 % B1)).length ≤ (lo B1).length := lo_len (lo_lt B1) (by rw [nv_lo]; exact Nat.le_of_lt (Nat.mod_lt _ (by omega)))
      have hg2 : Nat.gcd B1 (A1 % B1) = g := by rw [← hg, Nat.gcd_comm A1 B1, Nat.gcd_rec B1 A1, Nat.gcd_comm]
      have hlt : A1 % B1 < B1 := Nat.mod_lt _ (by omega)
      have HLT := Lib.hid hlt
      have HG2 := Lib.hid hg2
      have HLR := Lib.hid lR
      have HLB := Lib.hid lB
      have HB := Lib.hid (show ∀ wq, Keeps wr wq → Holds32 wq (.slice bo1 (lo B1).length cap1) (lo B1) from fun wq k => HB9.out.keeps k)
      clear L hz hg lA lB lR hg2 hlt
      go_wp2_with (go_at_call 68; (with_reducible refine D.mono ?_); rintro e w1 ⟨v1, v2, rfl, hq, hr, hk1, hf1, hf2⟩)
      have HQ := Lib.hid hr
      have HK1 := Lib.hid hk1
      clear hq hr hk1 hf1 hf2 D
      go_wp2_with fail
      go_roundg (A1 % B1)
      case measure => exact HLT.out
      case rel => exact ⟨B1, A1 % B1, rfl, HB.out _ HK1.out, HQ.out, HK.out.trans HK1.out, HLB.out, Nat.le_trans HLR.out HLB.out, HG2.out⟩
end Go.Proofs.Ytachhphneamfhaa
/- The contracts of the document's own Int and Text of naturals. -/
namespace Go.Proofs.Ytachhphneamfhaa
open Go.RowKit Go.NatMath Go.NumDigits

/-- Its int, if it is one. -/
def intB (n : Nat) : Bool := decide (n ≤ 9223372036854775807)
def intV (n : Nat) : Nat := if n ≤ 9223372036854775807 then n else 0

theorem two_digits {xs : List Nat} (h : xs.length ≤ 2) : nv xs = xs.getD 0 0 + 4294967296 * xs.getD 1 0 := by
  match xs, h with
  | [], _ => simp [nv]
  | [a], _ => simp [nv]
  | [a, b], _ => simp [nv]
  | a :: b :: c :: r, h => simp at h


/-- A number's digits; none of 0. -/
def dgz (n : Nat) : List Int := if n = 0 then [] else dg n
theorem dgz_step {n : Nat} (h : n ≠ 0) : dgz n = dgz (n / 10) ++ [48 + ((n % 10 : Nat) : Int)] := by
  by_cases h9 : n < 10
  · rw [dgz, if_neg h, dg_small h9, show n / 10 = 0 from by omega, show n % 10 = n from by omega]; rfl
  · rw [dgz, if_neg h, dg_great (by omega), dgz, if_neg (by omega)]
theorem dg_len : ∀ (k n : Nat), n < 4294967296 ^ k → (dgz n).length ≤ 10 * k := by
  intro k
  induction k with
  | zero => intro n h; have : n = 0 := by simpa using h
            subst this; simp [dgz]
  | succ k ih =>
    intro n h
    have h2 : ∀ m n : Nat, (dgz n).length ≤ (dgz (n / 10 ^ m)).length + m := by
      intro m
      induction m with
      | zero => intro n; simp
      | succ m im =>
        intro n
        have := im n
        rw [Nat.pow_succ, ← Nat.div_div_eq_div_mul]
        generalize n / 10 ^ m = q at *
        by_cases hq : q = 0
        · subst hq; simp; omega
        · rw [dgz_step hq, List.length_append, List.length_singleton] at this; omega
    have h3 := h2 10 n
    rw [show 10 ^ 10 = 10000000000 from rfl] at h3
    have h4 := ih (n / 10000000000) (by
      clear ih h2 h3
      rw [Nat.pow_succ] at h
      refine (Nat.div_lt_iff_lt_mul (by decide)).2 ?_
      exact Nat.lt_of_lt_of_le h (Nat.mul_le_mul_left _ (by decide)))
    rw [Nat.mul_succ]
    exact Nat.le_trans h3 (Nat.add_le_add_right h4 10)
theorem ten_cut (d : Nat) (h : d < 10) : ({ data := #[48, 49, 50, 51, 52, 53, 54, 55, 56, 57] } : ByteArray).extract d (d + 1) = strOfNums [48 + (d : Int)] := by
  rcases d with _ | _ | _ | _ | _ | _ | _ | _ | _ | _ | d
  all_goals first | rfl | omega
theorem str_cons (c : Int) (l : List Int) : strOfNums [c] ++ strOfNums l = strOfNums (c :: l) := by
  apply ByteArray.ext
  rw [ByteArray.data_append]
  simp [strOfNums]
theorem holds_ten (w : World) : Holds32 (w.alloc (.cells #[.int .u32 10] 45)) (.slice (some ⟨w.heap.size, 0, none⟩) 1 1) [10] := by
  refine ⟨by simp, _, 1, 1, rfl, rfl, Nat.le_refl _, ⟨by decide, fun e => by cases e⟩, Or.inr ⟨w.heap.size, 0, rfl, by rw [World.size_alloc]; omega, fun i hi => ?_⟩⟩
  obtain rfl : i = 0 := by omega
  have e := (MapKept.heap_alloc w (.cells #[.int .u32 10] 45)).1
  simp only [World.cell?]
  rw [e]
  rfl
theorem lo_ten : [10] = lo 10 := by rw [lo_pos (by decide), show 10 / 4294967296 = 0 from rfl, lo_zero]
theorem lo_head (n : Nat) (h : n < 4294967296) : (lo n).getD 0 0 = n := by
  by_cases h0 : n = 0
  · subst h0; rw [lo_zero]; rfl
  · rw [lo_pos h0]; simp [List.getD]; omega

set_option maxHeartbeats 1000000 in
theorem ref_text (v : Value) (xs0 : List Nat) (lx : xs0.length ≤ 1000) (w : World) (h : Holds32 w v xs0) :
    Calls Try.prog 43 #[v] w fun e w' => e = .returned (.string (strOfNums (dg (tv xs0)))) ∧ Keeps w w' := by
  obtain ⟨ao, cap, xs, T, H, n1, r1, l1⟩ := ref_taken_as v xs0 w h
  rw [← n1]
  have e1 := lo_nv H.1 r1
  have lb := dg_len xs.length (nv xs) (nv_lt H.1)
  have HH : Holds32 w (.slice ao xs.length cap) (lo (nv xs)) := by rw [e1]; exact H
  have lA : (lo (nv xs)).length ≤ 1000 := by rw [e1]; omega
  have z1 : xs.length = 0 ↔ nv xs = 0 := by have z := lo_length_zero (n := nv xs); rw [e1] at z; exact z
  generalize nv xs = A at *
  by_cases hz : A = 0
  · have z0 : xs.length = 0 := z1.2 hz
    rw [hz, dg_small (by decide)]
    rw [z0] at T
    have E : ({ data := #[48] } : ByteArray) = strOfNums [48 + ((0 : Nat) : Int)] := rfl
    rw [← E]
    clear E H HH h n1 e1 r1 lb z1 z0 lA
    go_enter Try.func43, Try.ntmps43
    go_wp2_with (go_at_call 67; (with_reducible refine T.mono ?_); rintro e w' ⟨rfl, rfl⟩)
    go_ret
    exact ⟨rfl, Keeps.refl _⟩
  · have z0 : ((xs.length : Int) == 0) = false := by
      have : xs.length ≠ 0 := fun e => hz (z1.1 e)
      simp; intro e; exact this (by rw [e]; rfl)
    have hN : dg A = dgz A := by rw [dgz, if_neg hz]
    have lT : (dgz A).length ≤ 100000 := by omega
    rw [hN]
    generalize hD : dgz A = D at *
    have HD := Lib.hid hD
    have HHH := Lib.hid HH
    clear H HH h n1 e1 r1 lb z1 hz hN hD
    go_enter Try.func43, Try.ntmps43
    go_upto_block 0 with (go_at_call 67; (with_reducible refine T.mono ?_); rintro e w' ⟨rfl, rfl⟩)
    clear T
    go_wp2_with fail
    go_loopg [3, 4] A (fun gh sa ss wr => ∃ (B : Nat) (done : List Int), B = gh ∧ Holds32 wr sa (lo B) ∧ ss = .string (strOfNums done) ∧ Hid (dgz B ++ done = D) ∧ Keeps w wr ∧ (lo B).length ≤ 1000)
    case atStart => exact ⟨A, [], rfl, HHH.out, rfl, Lib.hid (by rw [List.append_nil]; exact HD.out), Keeps.refl w, lA⟩
    case round =>
      clear HHH HD lA
      obtain ⟨B, done, rfl, hB, rfl, hd, hK, lB⟩ := hrel
      have hB9 := hB
      obtain ⟨_, bo1, len1, cap1, rfl, e1, _, _, _⟩ := hB
      subst e1
      by_cases hz : B = 0
      · have e0 : (lo B).length = 0 := lo_length_zero.2 hz
        have hd2 : done = D := by
          have := hd.out
          rw [hz] at this
          exact this
        rw [e0]
        have HD2 := Lib.hid hd2
        have HK := Lib.hid hK
        clear hz hd hB9 lB e0 hK hd2
        go_wp2_with fail
        go_ret
        exact ⟨by rw [HD2.out]; rfl, HK.out⟩
      · have e0 : (0 : Int) < ((lo B).length : Int) := by
          have : (lo B).length ≠ 0 := fun e => hz (lo_length_zero.1 e)
          omega
        have hk2 := (Keeps.refl wr).alloc (.cells #[.int .u32 10] 45)
        have R := ref_divmod _ _ (lo B) [10] (by omega) (by decide) _ (hB9.keeps hk2) (holds_ten wr)
        have t10 : tv [10] = 10 := by rw [lo_ten, tv_lo]
        rw [tv_lo, t10, if_pos (by omega), if_pos (by omega), decide_eq_true (by omega)] at R
        have hm : B % 10 < 10 := Nat.mod_lt _ (by omega)
        have H48 := ten_cut (B % 10) hm
        have h1 := lo_head (B % 10) (by omega)
        have hd2 : dgz (B / 10) ++ ((48 + ((B % 10 : Nat) : Int)) :: done) = D := by
          have e := hd.out
          rw [dgz_step hz, List.append_assoc] at e
          exact e
        have hld : done.length ≤ 100000 := by
          have e := congrArg List.length hd.out
          rw [List.length_append] at e
          omega
        have lQ : (lo (B / 10)).length ≤ 1000 := Nat.le_trans (lo_len (lo_lt B) (by rw [nv_lo]; exact Nat.div_le_self _ _)) lB
        have hlt : B / 10 < B := Nat.div_lt_self (by omega) (by omega)
        have hsz := strOfNums_size done
        have HLT := Lib.hid hlt
        have HD2 := Lib.hid hd2
        have HLQ := Lib.hid lQ
        have HK := Lib.hid (hK.trans hk2)
        clear hd hz hB9 lB hk2 hK hd2 lQ hlt t10
        go_wp2_with (go_at_call 68; (with_reducible refine R.mono ?_); rintro e w1 ⟨v1, v2, rfl, hq, hr, hk1, hf1, hf2⟩)
        have HQ := Lib.hid hq
        have HK1 := Lib.hid (HK.out.trans hk1)
        have G : Calls Try.prog 69 #[v2, .int .i64 0] w1 fun e w' => e = .returned (.int .u64 ((B % 10 : Nat) : Int)) ∧ w1 = w' := by
          have e := ref_digit v2 (lo (B % 10)) 0 (by omega) w1 hr
          rw [h1] at e
          exact e
        clear hq hr hk1 hf1 hf2 R HK h1
        generalize hdd : B % 10 = d at *
        clear hdd
        go_wp2_with (go_at_call 69; (with_reducible refine G.mono ?_); rintro e w2 ⟨rfl, rfl⟩)
        clear G
        have w4 : ¬ 9223372036854775807 < (strOfNums [48 + (d : Int)]).size + done.length := by
          rw [strOfNums_size]
          simp only [List.length_singleton]
          omega
        go_wp2_with fail
        · rename_i hbig
          exact absurd hbig w4
        rw [str_cons]
        go_roundg (B / 10)
        case measure => exact HLT.out
        case rel => exact ⟨B / 10, (48 + (d : Int)) :: done, rfl, HQ.out, rfl, Lib.hid HD2.out, HK1.out, HLQ.out⟩
end Go.Proofs.Ytachhphneamfhaa
/- The contract of the document's own Parse of naturals. -/
namespace Go.Proofs.Ytachhphneamfhaa
open Go.RowKit Go.NatMath Go.NumDigits

theorem lo_ten_pow : ∀ (k n : Nat), n < 10 ^ k → (lo n).length ≤ k := by
  intro k
  induction k with
  | zero => intro n h; have : n = 0 := by simpa using h
            subst this; rw [lo_zero]; exact Nat.le_refl _
  | succ k ih =>
    intro n h
    by_cases h0 : n = 0
    · subst h0; rw [lo_zero]; exact Nat.zero_le _
    · rw [lo_pos h0, List.length_cons]
      refine Nat.succ_le_succ (ih _ ?_)
      rw [Nat.pow_succ] at h
      generalize 10 ^ k = z at *
      omega

/-- What a call is told, in whatever world. -/
theorem mul_any (n : Nat) (ln : (lo n).length ≤ 1000) (v vt : Value) (W : World) (h : Holds32 W v (lo n)) (ht : Holds32 W vt [10]) :
    Calls Try.prog 61 #[v, vt] W (Gives W (lo (n * 10))) := by
  have e := ref_mul v vt (lo n) [10] (by omega) (by decide) W h ht
  rw [tv_lo, lo_ten, tv_lo] at e
  exact e
theorem add_any (m k : Nat) (lm : (lo m).length ≤ 2000) (lk : (lo k).length ≤ 2000) (v vt : Value) (W : World) (h : Holds32 W v (lo m)) (ht : Holds32 W vt (lo k)) :
    Calls Try.prog 60 #[v, vt] W (Gives W (lo (m + k))) := by
  have e := ref_add v vt (lo m) (lo k) (by omega) (by omega) W h ht
  rw [tv_lo, tv_lo] at e
  exact e
theorem of_any (x : Nat) (h1 : 48 ≤ x) (h2 : x ≤ 57) (W : World) :
    Calls Try.prog 62 #[.int .u64 ((x : Int) - 48)] W (Gives W (lo (((x : Int) - 48).toNat))) := by
  have e := ref_of (((x : Int) - 48).toNat) (by omega) W
  rw [show ((((x : Int) - 48).toNat : Nat) : Int) = (x : Int) - 48 from by omega] at e
  exact e

set_option maxHeartbeats 2000000 in
theorem ref_nparse (s : ByteArray) (hs : s.size ≤ 1000) (w : World) :
    Calls Try.prog 36 #[.string s] w (Gives2 w (if natB (lets s) then lo (val (lets s)) else []) (natB (lets s))) := by
  by_cases h0 : s.size = 0
  · have e0 : s = { data := #[] } := by
      apply ByteArray.ext
      exact Array.eq_empty_of_size_eq_zero h0
    subst e0
    go_enter Try.func36, Try.ntmps36
    go_wp2_with fail
    go_ret2
    exact ⟨_, rfl, Holds32.nil _, Keeps.refl _, fresh_nil _⟩
  · have hp : 0 < s.size := by omega
    obtain ⟨t, ht, htl⟩ := lets_head s hp
    have he : s.toList.isEmpty = false := by
      rw [ByteArray.toList_eq]
      have : s.data.toList.length = s.size := rfl
      cases hl : s.data.toList with
      | nil => rw [hl] at this; exact absurd this.symm h0
      | cons c l => rfl
    have hne : ¬ s.toList = [] := by intro e; rw [e] at he; exact absurd he (by decide)
    obtain ⟨x, ex⟩ : ∃ x : Nat, x = (s[0]'hp).toNat := ⟨_, rfl⟩
    have fx : ∀ h : 0 < s.size, (((s[0]'h).toNat : Nat) : Int) = (x : Int) := fun h => by rw [ex]
    rw [← ex] at ht
    clear ex
    have hcase : ((x = 48 ∧ 1 < s.size) ∧ natB (lets s) = false) ∨ (¬ (x = 48 ∧ 1 < s.size) ∧ natB (lets s) = digs (lets s)) := by
      rw [ht]
      by_cases c : x = 48 ∧ 1 < s.size
      · refine Or.inl ⟨c, ?_⟩
        obtain ⟨rfl, c2⟩ := c
        have : t.isEmpty = false := by
          cases t with
          | nil => simp at htl; omega
          | cons _ _ => rfl
        simp [natB, this]
      · refine Or.inr ⟨c, ?_⟩
        simp only [natB]
        by_cases cx : x = 48
        · have : t.isEmpty = true := by
            cases t with
            | nil => rfl
            | cons _ _ => simp at htl; exact absurd ⟨cx, by omega⟩ c
          rw [this]; simp
        · have : ((x : Int) != 48) = true := by simp; omega
          rw [this]; simp
    have hX : Hid ((if natB (lets s) then lo (val (lets s)) else []) = (if natB (lets s) then lo (val (lets s)) else [])) := Lib.hid rfl
    generalize hXe : (if natB (lets s) then lo (val (lets s)) else []) = X at *
    generalize hBe : natB (lets s) = bb at *
    have HX := Lib.hid hXe
    have HB := Lib.hid hBe
    clear hX hXe hBe ht htl h0
    rcases hcase with ⟨⟨rfl, c2⟩, rfl⟩ | ⟨c, hd⟩
    · have c3 : (1 : Int) < (s.size : Int) := by omega
      have E : X = [] := by have := HX.out; simp at this; exact this
      subst E
      clear HX HB
      go_enter Try.func36, Try.ntmps36
      go_wp2_with fail
      go_ret2
      exact ⟨_, rfl, Holds32.nil _, Keeps.refl _, fresh_nil _⟩
    · have HD := Lib.hid hd
      clear hd
      have two : (((x : Int) == 48) = true ∧ ¬ (1 : Int) < (s.size : Int)) ∨ ((x : Int) == 48) = false := by
        by_cases cx : x = 48
        · subst cx
          exact Or.inl ⟨rfl, fun h => c ⟨rfl, by omega⟩⟩
        · exact Or.inr (by simp; omega)
      clear c
      rcases two with ⟨e1, e2⟩ | e1
      all_goals
        go_enter Try.func36, Try.ntmps36
        go_upto_block 0 with fail
        clear fx he hne e1
        try clear e2
        go_wp2_with fail
        go_loopg [4, 5] s.size (fun gh so si wr => ∃ k n : Nat, s.size - k = gh ∧ k ≤ s.size ∧ si = .int .i64 (k : Int) ∧ Hid (n = val ((lets s).take k)) ∧ Hid (digs ((lets s).take k) = true) ∧ Holds32 wr so (lo n) ∧ Keeps w wr ∧ Fresh w so)
        case atStart => exact ⟨0, 0, rfl, Nat.zero_le _, rfl, Lib.hid rfl, Lib.hid rfl, by rw [lo_zero]; exact Holds32.nil _, Keeps.refl w, fresh_nil _⟩
        case round =>
          obtain ⟨k, n, rfl, hk, rfl, EV, HDk, hB, hK, hF⟩ := hrel
          by_cases hlt : (k : Int) < (s.size : Int)
          · have hlt2 : k < s.size := by omega
            have hsn := Lib.hid (lets_snoc s k hlt2)
            obtain ⟨y, ey⟩ : ∃ y : Nat, y = (s[k]'hlt2).toNat := ⟨_, rfl⟩
            have fy : ∀ h, (((s[k]'h).toNat : Nat) : Int) = (y : Int) := fun h => by rw [ey]
            have y8 : y < 256 := by rw [ey]; exact UInt8.toNat_lt _
            rw [← ey] at hsn
            clear ey
            by_cases c1 : (y : Int) < 48
            · have E := natB_digs (digs_cut (k := k + 1) (by rw [hsn.out, digs_snoc]; simp; omega))
              rw [HB.out] at E
              have X0 := HX.out
              rw [E] at X0
              simp at X0
              have HK := Lib.hid hK
              subst E X0
              clear hB hK hF EV HDk HX HB HD
              go_wp2_with fail
              go_ret2
              exact ⟨_, rfl, Holds32.nil _, HK.out, fresh_nil _⟩
            · by_cases c2 : 57 < (y : Int)
              · have E := natB_digs (digs_cut (k := k + 1) (by rw [hsn.out, digs_snoc]; simp; omega))
                rw [HB.out] at E
                have X0 := HX.out
                rw [E] at X0
                simp at X0
                have HK := Lib.hid hK
                subst E X0
                clear hB hK hF EV HDk HX HB HD
                go_wp2_with fail
                go_ret2
                exact ⟨_, rfl, Holds32.nil _, HK.out, fresh_nil _⟩
              · have b1 : 48 ≤ y := by omega
                have b2 : y ≤ 57 := by omega
                have hD2 : digs ((lets s).take (k + 1)) = true := by rw [hsn.out, digs_snoc, HDk.out]; simp; omega
                have hV2 : n * 10 + ((y : Int) - 48).toNat = val ((lets s).take (k + 1)) := by rw [hsn.out, val_snoc, ← EV.out]; omega
                have lt1 : ∀ j, ((lets s).take j).length ≤ j := fun j => List.length_take_le j _
                have ln : (lo n).length ≤ 1000 := by
                  have e := lo_ten_pow _ n (by rw [EV.out]; exact val_lt _ HDk.out)
                  have := lt1 k
                  omega
                have ln2 : (lo (n * 10)).length ≤ 2000 := by
                  have e := lo_ten_pow (((lets s).take (k + 1)).length) (n * 10) (Nat.lt_of_le_of_lt (by omega) (val_lt _ hD2))
                  have := lt1 (k + 1)
                  omega
                have ln3 : (lo (((y : Int) - 48).toNat)).length ≤ 2000 := by
                  have e := lo_ten_pow 1 (((y : Int) - 48).toNat) (by omega)
                  omega
                have M := Lib.hid (mul_any n ln)
                have A := Lib.hid (add_any _ _ ln2 ln3)
                have O := of_any y b1 b2
                have HD2 := Lib.hid hD2
                have HV2 := Lib.hid hV2
                have HK := Lib.hid hK
                have HB2 := Lib.hid (show ∀ wq, Keeps wr wq → Holds32 wq _ (lo n) from fun wq q => hB.keeps q)
                have hu := IntWalk.u8_in ((y : Int) - 48) ⟨by omega, by omega⟩
                have hu2 := IntWalk.u64_in ((y : Int) - 48) ⟨by omega, by omega⟩
                have O := Lib.hid O
                clear hB hK hF EV HDk hD2 hV2 ln ln2 ln3 lt1 hsn b1 b2
                go_wp2_with fail
                go_region_with (first
                  | (go_at_call 61; (with_reducible refine (M.out _ _ _ ?_ ?_).mono ?_); (exact HB2.out _ (by first | exact ((Keeps.refl wr).drew.alloc _) | exact ((Keeps.refl wr).alloc _).drew | exact (Keeps.refl wr).alloc _)); (first | exact holds_ten _ | exact (holds_ten _).keeps (Keeps.refl _).drew); rintro e w1 ⟨v1, rfl, g1, g2, g3⟩)
                  | (go_at_call 62; (with_reducible refine (O.out _).mono ?_); rintro e w2 ⟨v2, rfl, q1, q2, q3⟩)
                  | (go_at_call 60; (with_reducible refine (A.out _ _ _ ?_ ?_).mono ?_); exact g1.keeps q2; exact q1; rintro e w3 ⟨v3, rfl, r1, r2, r3⟩))
                all_goals
                  have hkA : Keeps wr w1 := by first | exact ((Keeps.refl wr).drew.alloc _).trans g2 | exact ((Keeps.refl wr).alloc _).drew.trans g2 | exact ((Keeps.refl wr).alloc _).trans g2
                  have HF3 := Lib.hid (r3.later (HK.out.trans (hkA.trans q2)))
                  have HK3 := Lib.hid (HK.out.trans (hkA.trans (q2.trans r2)))
                  have HR := Lib.hid r1
                  clear hkA g1 g2 g3 q1 q2 q3 r1 r2 r3 M A O HB2 HK
                  go_wp2_with fail
                  go_roundg (s.size - (k + 1))
                  case measure => omega
                  case rel => exact ⟨k + 1, _, rfl, hlt2, by congr 1, Lib.hid HV2.out, Lib.hid HD2.out, HR.out, HK3.out, HF3.out⟩
          · obtain rfl : k = s.size := by omega
            rw [lets_all] at EV HDk
            have E := HD.out
            rw [HDk.out] at E
            have X0 := HX.out
            rw [E, if_pos rfl, ← EV.out] at X0
            have HK := Lib.hid hK
            have HB2 := Lib.hid hB
            have HF := Lib.hid hF
            subst E
            subst X0
            clear hB hK hF EV HDk HX HB HD
            go_wp2_with fail
            go_ret2
            exact ⟨_, rfl, HB2.out, HK.out, HF.out⟩
end Go.Proofs.Ytachhphneamfhaa
/- Literal slices; words that find what a slice value holds in the world at hand. -/
namespace Go.Proofs.Ytachhphneamfhaa
open Go.RowKit Go.NatMath Go.NumDigits

theorem lit_cell (w : World) (cs : Array Value) (T : TypeId) (i : Nat) : (w.alloc (.cells cs T)).cell? ⟨w.heap.size, i, none⟩ = cs[i]? := by
  have e := (MapKept.heap_alloc w (.cells cs T)).1
  simp only [World.cell?]
  rw [e]
  rfl
theorem holds_row (w : World) (cs : List Int) (T : TypeId) (hm : cs.length ≤ maxLen) (h : ∀ c ∈ cs, 0 ≤ c ∧ c < 4294967296) :
    Holds32 (w.alloc (.cells (cs.map (fun c => Value.int .u32 c)).toArray T)) (.slice (some ⟨w.heap.size, 0, none⟩) cs.length cs.length) (cs.map Int.toNat) := by
  refine ⟨?_, _, cs.length, cs.length, rfl, by simp, Nat.le_refl _, ⟨hm, fun e => by cases e⟩, Or.inr ⟨w.heap.size, 0, rfl, by rw [World.size_alloc]; omega, fun i hi => ?_⟩⟩
  · intro x hx
    obtain ⟨c, hc, rfl⟩ := List.mem_map.1 hx
    have := h c hc
    omega
  · have h1 := (h (cs[i]) (List.getElem_mem hi)).1
    rw [Nat.zero_add, lit_cell]
    simp [hi, List.getD]
    omega
theorem lit1 (w : World) (T : TypeId) (a : Int) (x : Nat) (h : a = (x : Int) ∧ x < 4294967296) : Holds32 (w.alloc (.cells #[.int .u32 a] T)) (.slice (some ⟨w.heap.size, 0, none⟩) 1 1) [x] := by
  obtain ⟨rfl, h⟩ := h
  have e := holds_row w [(x : Int)] T (show 1 ≤ maxLen from by decide) (by intro c hc; rw [List.mem_singleton] at hc; subst hc; omega)
  exact e
theorem lit2 (w : World) (T : TypeId) (a b : Int) (x y : Nat) (h : (a = (x : Int) ∧ x < 4294967296) ∧ b = (y : Int) ∧ y < 4294967296) : Holds32 (w.alloc (.cells #[.int .u32 a, .int .u32 b] T)) (.slice (some ⟨w.heap.size, 0, none⟩) 2 2) [x, y] := by
  obtain ⟨⟨rfl, h⟩, rfl, k⟩ := h
  have e := holds_row w [(x : Int), (y : Int)] T (show 2 ≤ maxLen from by decide) (by intro c hc; simp at hc; rcases hc with rfl | rfl <;> omega)
  exact e
theorem lit3 (w : World) (T : TypeId) (a b c : Int) (x y z : Nat) (h : (a = (x : Int) ∧ x < 4294967296) ∧ (b = (y : Int) ∧ y < 4294967296) ∧ c = (z : Int) ∧ z < 4294967296) : Holds32 (w.alloc (.cells #[.int .u32 a, .int .u32 b, .int .u32 c] T)) (.slice (some ⟨w.heap.size, 0, none⟩) 3 3) [x, y, z] := by
  obtain ⟨⟨rfl, h⟩, ⟨rfl, k⟩, rfl, l⟩ := h
  have e := holds_row w [(x : Int), (y : Int), (z : Int)] T (show 3 ≤ maxLen from by decide) (by intro c hc; simp at hc; rcases hc with rfl | rfl | rfl <;> omega)
  exact e

/-- The same, where the walk has reckoned the block's number: the newest block, and the one before it. -/
theorem lit1_top (w : World) (b : Nat) (T : TypeId) (a : Int) (x : Nat) (hb : b = w.heap.size) (h : a = (x : Int) ∧ x < 4294967296) : Holds32 (w.alloc (.cells #[.int .u32 a] T)) (.slice (some ⟨b, 0, none⟩) 1 1) [x] := by
  subst hb; exact lit1 w T a x h
theorem lit1_below (w : World) (o : Obj) (b : Nat) (T : TypeId) (a : Int) (x : Nat) (hb : b = w.heap.size) (h : a = (x : Int) ∧ x < 4294967296) : Holds32 ((w.alloc (.cells #[.int .u32 a] T)).alloc o) (.slice (some ⟨b, 0, none⟩) 1 1) [x] := by
  subst hb; exact (lit1 w T a x h).keeps ((Keeps.refl _).alloc _)
theorem lit2_top (w : World) (b' : Nat) (T : TypeId) (a b : Int) (x y : Nat) (hb : b' = w.heap.size) (h : (a = (x : Int) ∧ x < 4294967296) ∧ b = (y : Int) ∧ y < 4294967296) : Holds32 (w.alloc (.cells #[.int .u32 a, .int .u32 b] T)) (.slice (some ⟨b', 0, none⟩) 2 2) [x, y] := by
  subst hb; exact lit2 w T a b x y h

theorem lo_len_pow : ∀ (k n : Nat), n < 4294967296 ^ k → (lo n).length ≤ k := by
  intro k
  induction k with
  | zero => intro n h; have : n = 0 := by simpa using h
            subst this; rw [lo_zero]; exact Nat.le_refl _
  | succ k ih =>
    intro n h
    by_cases h0 : n = 0
    · subst h0; rw [lo_zero]; exact Nat.zero_le _
    · rw [lo_pos h0, List.length_cons]
      refine Nat.succ_le_succ (ih _ ?_)
      rw [Nat.pow_succ] at h
      exact (Nat.div_lt_iff_lt_mul (by decide)).2 h
end Go.Proofs.Ytachhphneamfhaa
/- The laws' small case on fractions comes out right, by package frac's contracts. -/
namespace Go.Proofs.Ytachhphneamfhaa
open Go.RowKit Go.NatMath Go.FracMath Go.NumDigits

/-- A box, made last. -/
theorem box_made (w : World) (va vb : Value) (T : TypeId) : ∃ b W, W = w.alloc (.cells #[va, vb] T) ∧ b = w.heap.size ∧ Box2 W b va vb ∧ Keeps w W := ⟨_, _, rfl, rfl, box_new w va vb T, (Keeps.refl w).alloc _⟩
theorem of_e (K : FracC) (n d m e : Nat) (a b : Int) (ha : a = (n : Int)) (hb : b = (d : Int)) (h1 : n < 18446744073709551616) (h2 : d < 18446744073709551616) (h3 : 0 < d) (h4 : 0 < e) (h : n * e = m * d) (W : World) : Calls Try.prog 27 #[.int .u64 a, .int .u64 b] W (GivesSB W 2 (fr m e) true) := by
  subst ha hb
  rw [← (fr_eq h3 h4).2 h]
  exact of_y K n d W h1 h2 h3
theorem of_0 (K : FracC) (n : Nat) (a : Int) (ha : a = (n : Int)) (h1 : n < 18446744073709551616) (W : World) : Calls Try.prog 27 #[.int .u64 a, .int .u64 0] W (GivesSB W 1 0 false) := by
  subst ha
  exact of_no K n W h1
theorem pow_e (K : FracC) {k : Nat} {a : Rat} (n : Nat) (m : Int) (s : Rat) (hm : m = (n : Int)) (h : a ^ n = s) (v : Value) (W : World) (h1 : HoldsT W v k a) (hk : 1 ≤ k ∧ k ≤ 24) (hn : n ≤ 16) : Calls Try.prog 29 #[v, .int .i64 m] W (GivesSB W (n * k + 1) s true) := by
  subst hm h
  exact pow_g K v W n h1 hk hn
theorem far_e (K : FracC) {k : Nat} {a : Rat} (n : Nat) (m : Int) (hm : m = (n : Int)) (v : Value) (W : World) (h1 : HoldsT W v k a) (hk : 1 ≤ k ∧ k ≤ 24) (hn : 64 < n ∧ n ≤ 1000) : Calls Try.prog 29 #[v, .int .i64 m] W (GivesSB W 1 0 false) := by
  subst hm
  obtain ⟨xs, ys, h1, l1, l2, rfl⟩ := h1
  refine (K.far v _ _ n W (by omega) (by omega) hn.1 hn.2 h1).mono ?_
  rintro e w' ⟨r, rfl, h, k⟩
  exact ⟨r, rfl, ⟨Sz.zero, h⟩, k⟩
theorem sub_e (K : FracC) (a b s : Rat) (h : b + s = a) (hs : 0 ≤ s) {j k : Nat} (v v' : Value) (W : World) (h1 : HoldsT W v j a) (h2 : HoldsT W v' k b) (hj : 1 ≤ j ∧ j ≤ 400) (hk : 1 ≤ k ∧ k ≤ 400) : Calls Try.prog 20 #[v, v'] W (GivesSB W (j + k) s true) := by
  have hle : b ≤ a := by rw [← h]; grind
  have e := sub_y K v v' W h1 h2 hj hk hle
  rw [show a - b = s by rw [← h]; grind] at e
  exact e
theorem sub_z (K : FracC) (a b : Rat) (h : a < b) {j k : Nat} (v v' : Value) (W : World) (h1 : HoldsT W v j a) (h2 : HoldsT W v' k b) (hj : 1 ≤ j ∧ j ≤ 400) (hk : 1 ≤ k ∧ k ≤ 400) : Calls Try.prog 20 #[v, v'] W (GivesSB W 1 0 false) := sub_no K v v' W h1 h2 hj hk h
theorem quo_e (K : FracC) (a b s : Rat) (h : s * b = a) (hb : 0 < b) {j k : Nat} (v v' : Value) (W : World) (h1 : HoldsT W v j a) (h2 : HoldsT W v' k b) (hj : 1 ≤ j ∧ j ≤ 400) (hk : 1 ≤ k ∧ k ≤ 400) : Calls Try.prog 21 #[v, v'] W (GivesSB W (j + k) s true) := by
  have hne : b ≠ 0 := fun g => by rw [g] at hb; exact absurd hb Rat.lt_irrefl
  have e := quo_y K v v' W h1 h2 hj hk hb
  rw [show a / b = s by rw [← h]; grind] at e
  exact e
theorem add_e (K : FracC) (a b s : Rat) (h : a + b = s) {j k : Nat} (v v' : Value) (W : World) (h1 : HoldsT W v j a) (h2 : HoldsT W v' k b) (hj : 1 ≤ j ∧ j ≤ 400) (hk : 1 ≤ k ∧ k ≤ 400) : Calls Try.prog 18 #[v, v'] W (GivesS W (j + k + 1) s) := by
  rw [← h]
  exact add_g K v v' W h1 h2 hj hk
theorem mul_e (K : FracC) (a b s : Rat) (h : a * b = s) {j k : Nat} (v v' : Value) (W : World) (h1 : HoldsT W v j a) (h2 : HoldsT W v' k b) (hj : 1 ≤ j ∧ j ≤ 400) (hk : 1 ≤ k ∧ k ≤ 400) : Calls Try.prog 19 #[v, v'] W (GivesS W (j + k) s) := by
  rw [← h]
  exact mul_g K v v' W h1 h2 hj hk
theorem text_e (K : FracC) (a : Rat) (s : ByteArray) (h : strOfNums (ftx a) = s) {k : Nat} (v : Value) (W : World) (h1 : HoldsT W v k a) (hk : k ≤ 400) : Calls Try.prog 15 #[v] W (fun e w' => e = .returned (.string s) ∧ Keeps W w') := by
  rw [← h]
  exact text_g K v W h1 hk
theorem parse_e (K : FracC) (s : ByteArray) (a : Rat) (n : Nat) (ha : 0 ≤ a) (h : ftx a = lets s) (hn : s.size = n) (hs : n ≤ 900) (W : World) : Calls Try.prog 12 #[.string s] W (GivesSB W (n + 1) a true) := by
  have m := p_mk ha
  rw [h] at m
  have e := parse_g K m.1 W (by omega)
  rw [m.2, hn] at e
  exact e
theorem parse_0 (K : FracC) (s : ByteArray) (n : Nat) (h : pB (lets s) = false) (hn : s.size = n) (hs : n ≤ 900) (W : World) : Calls Try.prog 12 #[.string s] W (GivesSB W (n + 1) 0 false) := by
  have e := parse_g K h W (by omega)
  rw [pV, if_neg (by rw [h]; decide), hn] at e
  exact e
theorem floor_e (K : FracC) (a : Rat) (xs : List Nat) (h : lo (fl a) = xs) {k : Nat} (v : Value) (W : World) (h1 : HoldsT W v k a) (hk : k ≤ 400) : Calls Try.prog 23 #[v] W (fun e w' => ∃ r, e = .returned r ∧ Holds32 w' r xs ∧ Keeps W w') := by
  rw [← h]
  exact floor_g K v W h1 hk
theorem nats_y (xs : List Nat) (v v' : Value) (W : World) (h1 : Holds32 W v xs) (h2 : Holds32 W v' xs) : Calls Try.prog 28 #[v, v'] W (fun e w' => e = .returned (.bool true) ∧ Keeps W w') := by
  have e := ref_nats v v' xs xs W h1 h2
  rw [decide_eq_true rfl] at e
  exact e
theorem right_0 (K : FracC) (W : World) : Calls Try.prog 17 #[.agg #[.slice none 0 0, .slice none 0 0]] W (fun e w' => e = .returned (.bool false) ∧ Keeps W w') :=
  right_l K (xs := []) (ys := []) (b := false) rfl _ W ⟨_, _, rfl, Holds32.nil _, Holds32.nil _⟩ (by decide) (by decide)
theorem ftx_fr {n d : Nat} (h1 : FracMath.up (fr n d) = n) (h2 : dn (fr n d) = d) (h3 : d ≠ 1) : ftx (fr n d) = dg n ++ 47 :: dg d := by rw [dn_more (by rw [h2]; exact h3), h1, h2]
theorem up_fr {n d : Nat} (hd : 0 < d) (h : Nat.gcd n d = 1) : FracMath.up (fr n d) = n ∧ dn (fr n d) = d := by rw [fr_up hd, fr_den hd, h, Nat.div_one, Nat.div_one]; exact ⟨rfl, rfl⟩
theorem ftx_lit {n d : Nat} {l k : List Int} (hd : 1 < d) (h : Nat.gcd n d = 1) (h1 : dg n = l) (h2 : dg d = k) : ftx (fr n d) = l ++ 47 :: k := by
  have e := up_fr (by omega) h
  rw [ftx_fr e.1 e.2 (by omega), h1, h2]
theorem dg_27 : dg 27 = [50, 55] := by rw [dg_great (by decide), dg_small (by decide)]; rfl
theorem ftx_a : ftx (fr 3 2) = [51, 47, 50] := ftx_lit (by decide) (by decide) (dg_small (by decide)) (dg_small (by decide))
theorem ftx_b : ftx (fr 5 6) = [53, 47, 54] := ftx_lit (by decide) (by decide) (dg_small (by decide)) (dg_small (by decide))
theorem ftx_c : ftx (fr 1 6) = [49, 47, 54] := ftx_lit (by decide) (by decide) (dg_small (by decide)) (dg_small (by decide))
theorem ftx_d : ftx (fr 27 8) = [50, 55, 47, 56] := ftx_lit (by decide) (by decide) dg_27 (dg_small (by decide))
theorem ftx_0 : ftx 0 = [48] := by rw [dn_one rfl]; exact dg_small (by decide)
theorem txt_half : pB (lets { data := #[50, 47, 52] }) = false := by decide
theorem fr_lt {n d m e : Nat} (hd : 0 < d) (he : 0 < e) (h : n * e < m * d) : fr n d < fr m e := by
  refine Rat.not_le.1 fun g => ?_
  have h2 : fr m e + (fr n d - fr m e) = fr n d := by grind
  have h3 : 0 ≤ fr n d - fr m e := by grind
  rw [← fr_of h3, fr_add he (dn_pos _), fr_eq (Nat.mul_pos he (dn_pos _)) hd] at h2
  generalize FracMath.up (fr n d - fr m e) = x at h2
  have hy := dn_pos (fr n d - fr m e)
  generalize dn (fr n d - fr m e) = y at h2 hy
  have : n * (e * y) < m * d * y := by rw [← Nat.mul_assoc]; exact Nat.mul_lt_mul_of_pos_right h hy
  have e1 : (m * y + x * e) * d = m * d * y + x * e * d := by grind
  omega
theorem parse_a (K : FracC) (W : World) : Calls Try.prog 12 #[.string { data := #[51, 47, 50] }] W (GivesSB W 4 (fr 3 2) true) :=
  parse_e K { data := #[51, 47, 50] } (fr 3 2) 3 (fr_nonneg _ _) (by rw [ftx_a]; rfl) rfl (by decide) W
theorem parse_b (K : FracC) (W : World) : Calls Try.prog 12 #[.string { data := #[50, 47, 52] }] W (GivesSB W 4 0 false) :=
  parse_0 K { data := #[50, 47, 52] } 3 txt_half rfl (by decide) W
theorem str_e {a : Rat} {l : List Int} {s : ByteArray} (h : ftx a = l) (hs : strOfNums l = s) : strOfNums (ftx a) = s := by rw [h, hs]

set_option maxHeartbeats 8000000 in
set_option maxRecDepth 100000 in
theorem frac_small (K : FracC) (w : World) : Calls Try.prog 10 #[] w fun e w' => e = .returned (.bool true) ∧ Keeps w w' := by
  have B1 : fr 1 3 + fr 1 6 = fr 1 2 := by rw [fr_add (by decide) (by decide)]; exact (fr_eq (by decide) (by decide)).2 (by decide)
  have B2 : fr 3 2 * fr 1 3 = fr 1 2 := by rw [fr_mul]; exact (fr_eq (by decide) (by decide)).2 (by decide)
  have B3 : 0 < fr 1 3 := by decide
  have B4 : fr 3 2 ^ 3 = fr 27 8 := by rw [Rat.pow_succ, Rat.pow_succ, Rat.pow_succ, Rat.pow_zero, Rat.one_mul, fr_mul, fr_mul]
  have B5 : fr 1 2 + fr 1 3 = fr 5 6 := by rw [fr_add (by decide) (by decide)]
  have B6 : fr 1 3 < fr 1 2 := fr_lt (by decide) (by decide) (by decide)
  have B6 := Lib.hid B6
  have B7 : lo (fl (fr 27 8)) = [3] := by have e := up_fr (n := 27) (d := 8) (by decide) (by decide); rw [fl, e.1, e.2, show 27 / 8 = 3 from rfl, lo_pos (by decide), show 3 / 4294967296 = 0 from rfl, lo_zero]
  have B7 := Lib.hid B7
  have B1 := Lib.hid B1
  have B2 := Lib.hid B2
  have B3 := Lib.hid B3
  have B4 := Lib.hid B4
  have B5 := Lib.hid B5
  go_enter Try.func10, Try.ntmps10
  go_upto_region 2 with (first
    | (go_at_call 27; (with_reducible refine (of_e K 6 4 3 2 6 4 rfl rfl (by decide) (by decide) (by decide) (by decide) (by decide) _).mono ?_); rintro e w1 ⟨v, rfl, hv1, hk1⟩; obtain ⟨a1, n1, c1, b1, m1, d1, rfl⟩ := hv1.slices))
  obtain ⟨q1, W1, eW, eq, X1, K1⟩ := box_made w1 (.slice a1 n1 c1) (.slice b1 m1 d1) 24
  rw [← eW, ← eq]
  clear eW eq
  have hv1 := hv1.keeps K1
  go_upto_region 3 with (first
    | (go_at_call 27; (with_reducible refine (of_0 K 1 1 rfl (by decide) _).mono ?_); rintro e w2 ⟨v, rfl, hv2, hk2⟩; obtain ⟨a2, n2, c2, b2, m2, d2, rfl⟩ := hv2.slices))
  obtain ⟨q2, W2, eW, eq, X2, K2⟩ := box_made w2 (.slice a2 n2 c2) (.slice b2 m2 d2) 24
  rw [← eW, ← eq]
  clear eW eq
  have hv2 := hv2.keeps K2
  clear hv2 X2
  go_upto_region 4 with (first
    | (go_at_call 27; (with_reducible refine (of_e K 1 2 1 2 1 2 rfl rfl (by decide) (by decide) (by decide) (by decide) (by decide) _).mono ?_); rintro e w3 ⟨v, rfl, hv3, hk3⟩; obtain ⟨a3, n3, c3, b3, m3, d3, rfl⟩ := hv3.slices))
  obtain ⟨q3, W3, eW, eq, X3, K3⟩ := box_made w3 (.slice a3 n3 c3) (.slice b3 m3 d3) 24
  rw [← eW, ← eq]
  clear eW eq
  have hv3 := hv3.keeps K3
  go_upto_region 5 with (first
    | (go_at_call 27; (with_reducible refine (of_e K 1 3 1 3 1 3 rfl rfl (by decide) (by decide) (by decide) (by decide) (by decide) _).mono ?_); rintro e w4 ⟨v, rfl, hv4, hk4⟩; obtain ⟨a4, n4, c4, b4, m4, d4, rfl⟩ := hv4.slices))
  obtain ⟨q4, W4, eW, eq, X4, K4⟩ := box_made w4 (.slice a4 n4 c4) (.slice b4 m4 d4) 24
  rw [← eW, ← eq]
  clear eW eq
  have hv4 := hv4.keeps K4
  obtain ⟨x3, y3⟩ := (X4.keeps (show Keeps W4 W4 by (focus ((repeat (first | with_reducible exact Keeps.refl _ | with_reducible assumption | with_reducible refine Keeps.alloc ?_ _ | with_reducible refine Keeps.drew ?_ | with_reducible refine Keeps.drewN ?_ _ | with_reducible refine Keeps.trans ?_ (by with_reducible assumption))); done)))).cells
  obtain ⟨x2, y2⟩ := (X3.keeps (show Keeps W3 W4 by (focus ((repeat (first | with_reducible exact Keeps.refl _ | with_reducible assumption | with_reducible refine Keeps.alloc ?_ _ | with_reducible refine Keeps.drew ?_ | with_reducible refine Keeps.drewN ?_ _ | with_reducible refine Keeps.trans ?_ (by with_reducible assumption))); done)))).cells
  go_upto_region 6 with (first
    | (go_at_call 20; (with_reducible refine (sub_z K (fr 1 3) (fr 1 2) B6.out _ _ _ (by (focus (first | with_reducible exact HoldsS.T (by with_reducible assumption) | ((with_reducible refine HoldsS.T (HoldsS.keeps (by with_reducible assumption) ?_)); (focus ((repeat (first | with_reducible exact Keeps.refl _ | with_reducible assumption | with_reducible refine Keeps.alloc ?_ _ | with_reducible refine Keeps.drew ?_ | with_reducible refine Keeps.drewN ?_ _ | with_reducible refine Keeps.trans ?_ (by with_reducible assumption))); done))) | with_reducible assumption | ((with_reducible refine HoldsT.keeps (by with_reducible assumption) ?_); (focus ((repeat (first | with_reducible exact Keeps.refl _ | with_reducible assumption | with_reducible refine Keeps.alloc ?_ _ | with_reducible refine Keeps.drew ?_ | with_reducible refine Keeps.drewN ?_ _ | with_reducible refine Keeps.trans ?_ (by with_reducible assumption))); done))) | with_reducible exact HoldsT.nil _))) (by (focus (first | with_reducible exact HoldsS.T (by with_reducible assumption) | ((with_reducible refine HoldsS.T (HoldsS.keeps (by with_reducible assumption) ?_)); (focus ((repeat (first | with_reducible exact Keeps.refl _ | with_reducible assumption | with_reducible refine Keeps.alloc ?_ _ | with_reducible refine Keeps.drew ?_ | with_reducible refine Keeps.drewN ?_ _ | with_reducible refine Keeps.trans ?_ (by with_reducible assumption))); done))) | with_reducible assumption | ((with_reducible refine HoldsT.keeps (by with_reducible assumption) ?_); (focus ((repeat (first | with_reducible exact Keeps.refl _ | with_reducible assumption | with_reducible refine Keeps.alloc ?_ _ | with_reducible refine Keeps.drew ?_ | with_reducible refine Keeps.drewN ?_ _ | with_reducible refine Keeps.trans ?_ (by with_reducible assumption))); done))) | with_reducible exact HoldsT.nil _))) (by decide) (by decide)).mono ?_); rintro e w5 ⟨v, rfl, hv5, hk5⟩; obtain ⟨a5, n5, c5, b5, m5, d5, rfl⟩ := hv5.slices))
  clear x3 y3
  clear x2 y2
  obtain ⟨q5, W5, eW, eq, X5, K5⟩ := box_made w5 (.slice a5 n5 c5) (.slice b5 m5 d5) 24
  rw [← eW, ← eq]
  clear eW eq
  have hv5 := hv5.keeps K5
  clear hv5 X5
  obtain ⟨x2, y2⟩ := (X3.keeps (show Keeps W3 W5 by (focus ((repeat (first | with_reducible exact Keeps.refl _ | with_reducible assumption | with_reducible refine Keeps.alloc ?_ _ | with_reducible refine Keeps.drew ?_ | with_reducible refine Keeps.drewN ?_ _ | with_reducible refine Keeps.trans ?_ (by with_reducible assumption))); done)))).cells
  obtain ⟨x3, y3⟩ := (X4.keeps (show Keeps W4 W5 by (focus ((repeat (first | with_reducible exact Keeps.refl _ | with_reducible assumption | with_reducible refine Keeps.alloc ?_ _ | with_reducible refine Keeps.drew ?_ | with_reducible refine Keeps.drewN ?_ _ | with_reducible refine Keeps.trans ?_ (by with_reducible assumption))); done)))).cells
  go_upto_region 7 with (first
    | (go_at_call 20; (with_reducible refine (sub_e K (fr 1 2) (fr 1 3) (fr 1 6) B1.out (fr_nonneg _ _) _ _ _ (by (focus (first | with_reducible exact HoldsS.T (by with_reducible assumption) | ((with_reducible refine HoldsS.T (HoldsS.keeps (by with_reducible assumption) ?_)); (focus ((repeat (first | with_reducible exact Keeps.refl _ | with_reducible assumption | with_reducible refine Keeps.alloc ?_ _ | with_reducible refine Keeps.drew ?_ | with_reducible refine Keeps.drewN ?_ _ | with_reducible refine Keeps.trans ?_ (by with_reducible assumption))); done))) | with_reducible assumption | ((with_reducible refine HoldsT.keeps (by with_reducible assumption) ?_); (focus ((repeat (first | with_reducible exact Keeps.refl _ | with_reducible assumption | with_reducible refine Keeps.alloc ?_ _ | with_reducible refine Keeps.drew ?_ | with_reducible refine Keeps.drewN ?_ _ | with_reducible refine Keeps.trans ?_ (by with_reducible assumption))); done))) | with_reducible exact HoldsT.nil _))) (by (focus (first | with_reducible exact HoldsS.T (by with_reducible assumption) | ((with_reducible refine HoldsS.T (HoldsS.keeps (by with_reducible assumption) ?_)); (focus ((repeat (first | with_reducible exact Keeps.refl _ | with_reducible assumption | with_reducible refine Keeps.alloc ?_ _ | with_reducible refine Keeps.drew ?_ | with_reducible refine Keeps.drewN ?_ _ | with_reducible refine Keeps.trans ?_ (by with_reducible assumption))); done))) | with_reducible assumption | ((with_reducible refine HoldsT.keeps (by with_reducible assumption) ?_); (focus ((repeat (first | with_reducible exact Keeps.refl _ | with_reducible assumption | with_reducible refine Keeps.alloc ?_ _ | with_reducible refine Keeps.drew ?_ | with_reducible refine Keeps.drewN ?_ _ | with_reducible refine Keeps.trans ?_ (by with_reducible assumption))); done))) | with_reducible exact HoldsT.nil _))) (by decide) (by decide)).mono ?_); rintro e w6 ⟨v, rfl, hv6, hk6⟩; obtain ⟨a6, n6, c6, b6, m6, d6, rfl⟩ := hv6.slices))
  clear x2 y2
  clear x3 y3
  obtain ⟨q6, W6, eW, eq, X6, K6⟩ := box_made w6 (.slice a6 n6 c6) (.slice b6 m6 d6) 24
  rw [← eW, ← eq]
  clear eW eq
  have hv6 := hv6.keeps K6
  obtain ⟨x2, y2⟩ := (X3.keeps (show Keeps W3 W6 by (focus ((repeat (first | with_reducible exact Keeps.refl _ | with_reducible assumption | with_reducible refine Keeps.alloc ?_ _ | with_reducible refine Keeps.drew ?_ | with_reducible refine Keeps.drewN ?_ _ | with_reducible refine Keeps.trans ?_ (by with_reducible assumption))); done)))).cells
  obtain ⟨x3, y3⟩ := (X4.keeps (show Keeps W4 W6 by (focus ((repeat (first | with_reducible exact Keeps.refl _ | with_reducible assumption | with_reducible refine Keeps.alloc ?_ _ | with_reducible refine Keeps.drew ?_ | with_reducible refine Keeps.drewN ?_ _ | with_reducible refine Keeps.trans ?_ (by with_reducible assumption))); done)))).cells
  go_upto_region 8 with (first
    | (go_at_call 21; (with_reducible refine (quo_e K (fr 1 2) (fr 1 3) (fr 3 2) B2.out B3.out _ _ _ (by (focus (first | with_reducible exact HoldsS.T (by with_reducible assumption) | ((with_reducible refine HoldsS.T (HoldsS.keeps (by with_reducible assumption) ?_)); (focus ((repeat (first | with_reducible exact Keeps.refl _ | with_reducible assumption | with_reducible refine Keeps.alloc ?_ _ | with_reducible refine Keeps.drew ?_ | with_reducible refine Keeps.drewN ?_ _ | with_reducible refine Keeps.trans ?_ (by with_reducible assumption))); done))) | with_reducible assumption | ((with_reducible refine HoldsT.keeps (by with_reducible assumption) ?_); (focus ((repeat (first | with_reducible exact Keeps.refl _ | with_reducible assumption | with_reducible refine Keeps.alloc ?_ _ | with_reducible refine Keeps.drew ?_ | with_reducible refine Keeps.drewN ?_ _ | with_reducible refine Keeps.trans ?_ (by with_reducible assumption))); done))) | with_reducible exact HoldsT.nil _))) (by (focus (first | with_reducible exact HoldsS.T (by with_reducible assumption) | ((with_reducible refine HoldsS.T (HoldsS.keeps (by with_reducible assumption) ?_)); (focus ((repeat (first | with_reducible exact Keeps.refl _ | with_reducible assumption | with_reducible refine Keeps.alloc ?_ _ | with_reducible refine Keeps.drew ?_ | with_reducible refine Keeps.drewN ?_ _ | with_reducible refine Keeps.trans ?_ (by with_reducible assumption))); done))) | with_reducible assumption | ((with_reducible refine HoldsT.keeps (by with_reducible assumption) ?_); (focus ((repeat (first | with_reducible exact Keeps.refl _ | with_reducible assumption | with_reducible refine Keeps.alloc ?_ _ | with_reducible refine Keeps.drew ?_ | with_reducible refine Keeps.drewN ?_ _ | with_reducible refine Keeps.trans ?_ (by with_reducible assumption))); done))) | with_reducible exact HoldsT.nil _))) (by decide) (by decide)).mono ?_); rintro e w7 ⟨v, rfl, hv7, hk7⟩; obtain ⟨a7, n7, c7, b7, m7, d7, rfl⟩ := hv7.slices))
  clear x2 y2
  clear x3 y3
  obtain ⟨q7, W7, eW, eq, X7, K7⟩ := box_made w7 (.slice a7 n7 c7) (.slice b7 m7 d7) 24
  rw [← eW, ← eq]
  clear eW eq
  have hv7 := hv7.keeps K7
  obtain ⟨x2, y2⟩ := (X3.keeps (show Keeps W3 W7 by (focus ((repeat (first | with_reducible exact Keeps.refl _ | with_reducible assumption | with_reducible refine Keeps.alloc ?_ _ | with_reducible refine Keeps.drew ?_ | with_reducible refine Keeps.drewN ?_ _ | with_reducible refine Keeps.trans ?_ (by with_reducible assumption))); done)))).cells
  go_upto_region 9 with (first
    | (go_at_call 21; (with_reducible refine (quo_no K _ _ _ (by (focus (first | with_reducible exact HoldsS.T (by with_reducible assumption) | ((with_reducible refine HoldsS.T (HoldsS.keeps (by with_reducible assumption) ?_)); (focus ((repeat (first | with_reducible exact Keeps.refl _ | with_reducible assumption | with_reducible refine Keeps.alloc ?_ _ | with_reducible refine Keeps.drew ?_ | with_reducible refine Keeps.drewN ?_ _ | with_reducible refine Keeps.trans ?_ (by with_reducible assumption))); done))) | with_reducible assumption | ((with_reducible refine HoldsT.keeps (by with_reducible assumption) ?_); (focus ((repeat (first | with_reducible exact Keeps.refl _ | with_reducible assumption | with_reducible refine Keeps.alloc ?_ _ | with_reducible refine Keeps.drew ?_ | with_reducible refine Keeps.drewN ?_ _ | with_reducible refine Keeps.trans ?_ (by with_reducible assumption))); done))) | with_reducible exact HoldsT.nil _))) (by (focus (first | with_reducible exact HoldsS.T (by with_reducible assumption) | ((with_reducible refine HoldsS.T (HoldsS.keeps (by with_reducible assumption) ?_)); (focus ((repeat (first | with_reducible exact Keeps.refl _ | with_reducible assumption | with_reducible refine Keeps.alloc ?_ _ | with_reducible refine Keeps.drew ?_ | with_reducible refine Keeps.drewN ?_ _ | with_reducible refine Keeps.trans ?_ (by with_reducible assumption))); done))) | with_reducible assumption | ((with_reducible refine HoldsT.keeps (by with_reducible assumption) ?_); (focus ((repeat (first | with_reducible exact Keeps.refl _ | with_reducible assumption | with_reducible refine Keeps.alloc ?_ _ | with_reducible refine Keeps.drew ?_ | with_reducible refine Keeps.drewN ?_ _ | with_reducible refine Keeps.trans ?_ (by with_reducible assumption))); done))) | with_reducible exact HoldsT.nil _))) (by decide) (by decide)).mono ?_); rintro e w8 ⟨v, rfl, hv8, hk8⟩; obtain ⟨a8, n8, c8, b8, m8, d8, rfl⟩ := hv8.slices))
  clear x2 y2
  obtain ⟨q8, W8, eW, eq, X8, K8⟩ := box_made w8 (.slice a8 n8 c8) (.slice b8 m8 d8) 24
  rw [← eW, ← eq]
  clear eW eq
  have hv8 := hv8.keeps K8
  clear hv8 X8
  obtain ⟨x6, y6⟩ := (X7.keeps (show Keeps W7 W8 by (focus ((repeat (first | with_reducible exact Keeps.refl _ | with_reducible assumption | with_reducible refine Keeps.alloc ?_ _ | with_reducible refine Keeps.drew ?_ | with_reducible refine Keeps.drewN ?_ _ | with_reducible refine Keeps.trans ?_ (by with_reducible assumption))); done)))).cells
  go_upto_region 10 with (first
    | (go_at_call 29; (with_reducible refine (pow_e K 3 3 (fr 27 8) rfl B4.out _ _ (by (focus (first | with_reducible exact HoldsS.T (by with_reducible assumption) | ((with_reducible refine HoldsS.T (HoldsS.keeps (by with_reducible assumption) ?_)); (focus ((repeat (first | with_reducible exact Keeps.refl _ | with_reducible assumption | with_reducible refine Keeps.alloc ?_ _ | with_reducible refine Keeps.drew ?_ | with_reducible refine Keeps.drewN ?_ _ | with_reducible refine Keeps.trans ?_ (by with_reducible assumption))); done))) | with_reducible assumption | ((with_reducible refine HoldsT.keeps (by with_reducible assumption) ?_); (focus ((repeat (first | with_reducible exact Keeps.refl _ | with_reducible assumption | with_reducible refine Keeps.alloc ?_ _ | with_reducible refine Keeps.drew ?_ | with_reducible refine Keeps.drewN ?_ _ | with_reducible refine Keeps.trans ?_ (by with_reducible assumption))); done))) | with_reducible exact HoldsT.nil _))) (by decide) (by decide)).mono ?_); rintro e w9 ⟨v, rfl, hv9, hk9⟩; obtain ⟨a9, n9, c9, b9, m9, d9, rfl⟩ := hv9.slices))
  clear x6 y6
  obtain ⟨q9, W9, eW, eq, X9, K9⟩ := box_made w9 (.slice a9 n9 c9) (.slice b9 m9 d9) 24
  rw [← eW, ← eq]
  clear eW eq
  have hv9 := hv9.keeps K9
  obtain ⟨x6, y6⟩ := (X7.keeps (show Keeps W7 W9 by (focus ((repeat (first | with_reducible exact Keeps.refl _ | with_reducible assumption | with_reducible refine Keeps.alloc ?_ _ | with_reducible refine Keeps.drew ?_ | with_reducible refine Keeps.drewN ?_ _ | with_reducible refine Keeps.trans ?_ (by with_reducible assumption))); done)))).cells
  go_upto_region 11 with (first
    | (go_at_call 29; (with_reducible refine (far_e K 65 65 rfl _ _ (by (focus (first | with_reducible exact HoldsS.T (by with_reducible assumption) | ((with_reducible refine HoldsS.T (HoldsS.keeps (by with_reducible assumption) ?_)); (focus ((repeat (first | with_reducible exact Keeps.refl _ | with_reducible assumption | with_reducible refine Keeps.alloc ?_ _ | with_reducible refine Keeps.drew ?_ | with_reducible refine Keeps.drewN ?_ _ | with_reducible refine Keeps.trans ?_ (by with_reducible assumption))); done))) | with_reducible assumption | ((with_reducible refine HoldsT.keeps (by with_reducible assumption) ?_); (focus ((repeat (first | with_reducible exact Keeps.refl _ | with_reducible assumption | with_reducible refine Keeps.alloc ?_ _ | with_reducible refine Keeps.drew ?_ | with_reducible refine Keeps.drewN ?_ _ | with_reducible refine Keeps.trans ?_ (by with_reducible assumption))); done))) | with_reducible exact HoldsT.nil _))) (by decide) (by decide)).mono ?_); rintro e w10 ⟨v, rfl, hv10, hk10⟩; obtain ⟨a10, n10, c10, b10, m10, d10, rfl⟩ := hv10.slices))
  clear x6 y6
  obtain ⟨q10, W10, eW, eq, X10, K10⟩ := box_made w10 (.slice a10 n10 c10) (.slice b10 m10 d10) 24
  rw [← eW, ← eq]
  clear eW eq
  have hv10 := hv10.keeps K10
  clear hv10 X10
  go_upto_region 12 with (first
    | (go_at_call 12; (with_reducible refine (parse_a K _).mono ?_); rintro e w11 ⟨v, rfl, hv11, hk11⟩; obtain ⟨a11, n11, c11, b11, m11, d11, rfl⟩ := hv11.slices))
  obtain ⟨q11, W11, eW, eq, X11, K11⟩ := box_made w11 (.slice a11 n11 c11) (.slice b11 m11 d11) 24
  rw [← eW, ← eq]
  clear eW eq
  have hv11 := hv11.keeps K11
  go_upto_region 13 with (first
    | (go_at_call 12; (with_reducible refine (parse_b K _).mono ?_); rintro e w12 ⟨v, rfl, hv12, hk12⟩; obtain ⟨a12, n12, c12, b12, m12, d12, rfl⟩ := hv12.slices))
  obtain ⟨q12, W12, eW, eq, X12, K12⟩ := box_made w12 (.slice a12 n12 c12) (.slice b12 m12 d12) 24
  rw [← eW, ← eq]
  clear eW eq
  have hv12 := hv12.keeps K12
  clear hv12 X12
  have SK : ∀ W, Keeps W12 W → (W.cell? ⟨q1, 0, none⟩ = some (.slice a1 n1 c1) ∧ W.cell? ⟨q1, 1, none⟩ = some (.slice b1 m1 d1) ∧ W.cell? ⟨q3, 0, none⟩ = some (.slice a3 n3 c3) ∧ W.cell? ⟨q3, 1, none⟩ = some (.slice b3 m3 d3) ∧ W.cell? ⟨q4, 0, none⟩ = some (.slice a4 n4 c4) ∧ W.cell? ⟨q4, 1, none⟩ = some (.slice b4 m4 d4) ∧ W.cell? ⟨q6, 0, none⟩ = some (.slice a6 n6 c6) ∧ W.cell? ⟨q6, 1, none⟩ = some (.slice b6 m6 d6) ∧ W.cell? ⟨q7, 0, none⟩ = some (.slice a7 n7 c7) ∧ W.cell? ⟨q7, 1, none⟩ = some (.slice b7 m7 d7) ∧ W.cell? ⟨q9, 0, none⟩ = some (.slice a9 n9 c9) ∧ W.cell? ⟨q9, 1, none⟩ = some (.slice b9 m9 d9) ∧ W.cell? ⟨q11, 0, none⟩ = some (.slice a11 n11 c11) ∧ W.cell? ⟨q11, 1, none⟩ = some (.slice b11 m11 d11)) := fun W k => ⟨((X1.keeps (show Keeps W1 W12 by (focus ((repeat (first | with_reducible exact Keeps.refl _ | with_reducible assumption | with_reducible refine Keeps.alloc ?_ _ | with_reducible refine Keeps.drew ?_ | with_reducible refine Keeps.drewN ?_ _ | with_reducible refine Keeps.trans ?_ (by with_reducible assumption))); done)))).keeps k).cells.1, ((X1.keeps (show Keeps W1 W12 by (focus ((repeat (first | with_reducible exact Keeps.refl _ | with_reducible assumption | with_reducible refine Keeps.alloc ?_ _ | with_reducible refine Keeps.drew ?_ | with_reducible refine Keeps.drewN ?_ _ | with_reducible refine Keeps.trans ?_ (by with_reducible assumption))); done)))).keeps k).cells.2, ((X3.keeps (show Keeps W3 W12 by (focus ((repeat (first | with_reducible exact Keeps.refl _ | with_reducible assumption | with_reducible refine Keeps.alloc ?_ _ | with_reducible refine Keeps.drew ?_ | with_reducible refine Keeps.drewN ?_ _ | with_reducible refine Keeps.trans ?_ (by with_reducible assumption))); done)))).keeps k).cells.1, ((X3.keeps (show Keeps W3 W12 by (focus ((repeat (first | with_reducible exact Keeps.refl _ | with_reducible assumption | with_reducible refine Keeps.alloc ?_ _ | with_reducible refine Keeps.drew ?_ | with_reducible refine Keeps.drewN ?_ _ | with_reducible refine Keeps.trans ?_ (by with_reducible assumption))); done)))).keeps k).cells.2, ((X4.keeps (show Keeps W4 W12 by (focus ((repeat (first | with_reducible exact Keeps.refl _ | with_reducible assumption | with_reducible refine Keeps.alloc ?_ _ | with_reducible refine Keeps.drew ?_ | with_reducible refine Keeps.drewN ?_ _ | with_reducible refine Keeps.trans ?_ (by with_reducible assumption))); done)))).keeps k).cells.1, ((X4.keeps (show Keeps W4 W12 by (focus ((repeat (first | with_reducible exact Keeps.refl _ | with_reducible assumption | with_reducible refine Keeps.alloc ?_ _ | with_reducible refine Keeps.drew ?_ | with_reducible refine Keeps.drewN ?_ _ | with_reducible refine Keeps.trans ?_ (by with_reducible assumption))); done)))).keeps k).cells.2, ((X6.keeps (show Keeps W6 W12 by (focus ((repeat (first | with_reducible exact Keeps.refl _ | with_reducible assumption | with_reducible refine Keeps.alloc ?_ _ | with_reducible refine Keeps.drew ?_ | with_reducible refine Keeps.drewN ?_ _ | with_reducible refine Keeps.trans ?_ (by with_reducible assumption))); done)))).keeps k).cells.1, ((X6.keeps (show Keeps W6 W12 by (focus ((repeat (first | with_reducible exact Keeps.refl _ | with_reducible assumption | with_reducible refine Keeps.alloc ?_ _ | with_reducible refine Keeps.drew ?_ | with_reducible refine Keeps.drewN ?_ _ | with_reducible refine Keeps.trans ?_ (by with_reducible assumption))); done)))).keeps k).cells.2, ((X7.keeps (show Keeps W7 W12 by (focus ((repeat (first | with_reducible exact Keeps.refl _ | with_reducible assumption | with_reducible refine Keeps.alloc ?_ _ | with_reducible refine Keeps.drew ?_ | with_reducible refine Keeps.drewN ?_ _ | with_reducible refine Keeps.trans ?_ (by with_reducible assumption))); done)))).keeps k).cells.1, ((X7.keeps (show Keeps W7 W12 by (focus ((repeat (first | with_reducible exact Keeps.refl _ | with_reducible assumption | with_reducible refine Keeps.alloc ?_ _ | with_reducible refine Keeps.drew ?_ | with_reducible refine Keeps.drewN ?_ _ | with_reducible refine Keeps.trans ?_ (by with_reducible assumption))); done)))).keeps k).cells.2, ((X9.keeps (show Keeps W9 W12 by (focus ((repeat (first | with_reducible exact Keeps.refl _ | with_reducible assumption | with_reducible refine Keeps.alloc ?_ _ | with_reducible refine Keeps.drew ?_ | with_reducible refine Keeps.drewN ?_ _ | with_reducible refine Keeps.trans ?_ (by with_reducible assumption))); done)))).keeps k).cells.1, ((X9.keeps (show Keeps W9 W12 by (focus ((repeat (first | with_reducible exact Keeps.refl _ | with_reducible assumption | with_reducible refine Keeps.alloc ?_ _ | with_reducible refine Keeps.drew ?_ | with_reducible refine Keeps.drewN ?_ _ | with_reducible refine Keeps.trans ?_ (by with_reducible assumption))); done)))).keeps k).cells.2, ((X11.keeps (show Keeps W11 W12 by (focus ((repeat (first | with_reducible exact Keeps.refl _ | with_reducible assumption | with_reducible refine Keeps.alloc ?_ _ | with_reducible refine Keeps.drew ?_ | with_reducible refine Keeps.drewN ?_ _ | with_reducible refine Keeps.trans ?_ (by with_reducible assumption))); done)))).keeps k).cells.1, ((X11.keeps (show Keeps W11 W12 by (focus ((repeat (first | with_reducible exact Keeps.refl _ | with_reducible assumption | with_reducible refine Keeps.alloc ?_ _ | with_reducible refine Keeps.drew ?_ | with_reducible refine Keeps.drewN ?_ _ | with_reducible refine Keeps.trans ?_ (by with_reducible assumption))); done)))).keeps k).cells.2⟩
  have SK := Lib.hid SK
  clear X1 X3 X4 X6 X7 X9 X11
  obtain ⟨x1, y1, x3, y3, x4, y4, x6, y6, x7, y7, x9, y9, x11, y11⟩ := SK.out W12 (Keeps.refl _)
  go_wp2_with (first
    | (go_at_call 15; (with_reducible refine (text_e K (fr 3 2) { data := #[51, 47, 50] } (str_e ftx_a rfl) _ _ (by (focus (first | with_reducible exact HoldsS.T (by with_reducible assumption) | ((with_reducible refine HoldsS.T (HoldsS.keeps (by with_reducible assumption) ?_)); (focus ((repeat (first | with_reducible exact Keeps.refl _ | with_reducible assumption | with_reducible refine Keeps.alloc ?_ _ | with_reducible refine Keeps.drew ?_ | with_reducible refine Keeps.drewN ?_ _ | with_reducible refine Keeps.trans ?_ (by with_reducible assumption))); done))) | with_reducible assumption | ((with_reducible refine HoldsT.keeps (by with_reducible assumption) ?_); (focus ((repeat (first | with_reducible exact Keeps.refl _ | with_reducible assumption | with_reducible refine Keeps.alloc ?_ _ | with_reducible refine Keeps.drew ?_ | with_reducible refine Keeps.drewN ?_ _ | with_reducible refine Keeps.trans ?_ (by with_reducible assumption))); done))) | with_reducible exact HoldsT.nil _))) (by decide)).mono ?_); rintro e w' ⟨rfl, hk⟩; clear x1 y1 x3 y3 x4 y4 x6 y6 x7 y7 x9 y9 x11 y11; obtain ⟨x1, y1, x3, y3, x4, y4, x6, y6, x7, y7, x9, y9, x11, y11⟩ := SK.out w' (by (focus ((repeat (first | with_reducible exact Keeps.refl _ | with_reducible assumption | with_reducible refine Keeps.alloc ?_ _ | with_reducible refine Keeps.drew ?_ | with_reducible refine Keeps.drewN ?_ _ | with_reducible refine Keeps.trans ?_ (by with_reducible assumption))); done))))
    | (go_at_call 15; (with_reducible refine (text_e K (fr 5 6) { data := #[53, 47, 54] } (str_e ftx_b rfl) _ _ (by (focus (first | with_reducible exact HoldsS.T (by with_reducible assumption) | ((with_reducible refine HoldsS.T (HoldsS.keeps (by with_reducible assumption) ?_)); (focus ((repeat (first | with_reducible exact Keeps.refl _ | with_reducible assumption | with_reducible refine Keeps.alloc ?_ _ | with_reducible refine Keeps.drew ?_ | with_reducible refine Keeps.drewN ?_ _ | with_reducible refine Keeps.trans ?_ (by with_reducible assumption))); done))) | with_reducible assumption | ((with_reducible refine HoldsT.keeps (by with_reducible assumption) ?_); (focus ((repeat (first | with_reducible exact Keeps.refl _ | with_reducible assumption | with_reducible refine Keeps.alloc ?_ _ | with_reducible refine Keeps.drew ?_ | with_reducible refine Keeps.drewN ?_ _ | with_reducible refine Keeps.trans ?_ (by with_reducible assumption))); done))) | with_reducible exact HoldsT.nil _))) (by decide)).mono ?_); rintro e w' ⟨rfl, hk⟩; clear x1 y1 x3 y3 x4 y4 x6 y6 x7 y7 x9 y9 x11 y11; obtain ⟨x1, y1, x3, y3, x4, y4, x6, y6, x7, y7, x9, y9, x11, y11⟩ := SK.out w' (by (focus ((repeat (first | with_reducible exact Keeps.refl _ | with_reducible assumption | with_reducible refine Keeps.alloc ?_ _ | with_reducible refine Keeps.drew ?_ | with_reducible refine Keeps.drewN ?_ _ | with_reducible refine Keeps.trans ?_ (by with_reducible assumption))); done))))
    | (go_at_call 15; (with_reducible refine (text_e K (fr 1 6) { data := #[49, 47, 54] } (str_e ftx_c rfl) _ _ (by (focus (first | with_reducible exact HoldsS.T (by with_reducible assumption) | ((with_reducible refine HoldsS.T (HoldsS.keeps (by with_reducible assumption) ?_)); (focus ((repeat (first | with_reducible exact Keeps.refl _ | with_reducible assumption | with_reducible refine Keeps.alloc ?_ _ | with_reducible refine Keeps.drew ?_ | with_reducible refine Keeps.drewN ?_ _ | with_reducible refine Keeps.trans ?_ (by with_reducible assumption))); done))) | with_reducible assumption | ((with_reducible refine HoldsT.keeps (by with_reducible assumption) ?_); (focus ((repeat (first | with_reducible exact Keeps.refl _ | with_reducible assumption | with_reducible refine Keeps.alloc ?_ _ | with_reducible refine Keeps.drew ?_ | with_reducible refine Keeps.drewN ?_ _ | with_reducible refine Keeps.trans ?_ (by with_reducible assumption))); done))) | with_reducible exact HoldsT.nil _))) (by decide)).mono ?_); rintro e w' ⟨rfl, hk⟩; clear x1 y1 x3 y3 x4 y4 x6 y6 x7 y7 x9 y9 x11 y11; obtain ⟨x1, y1, x3, y3, x4, y4, x6, y6, x7, y7, x9, y9, x11, y11⟩ := SK.out w' (by (focus ((repeat (first | with_reducible exact Keeps.refl _ | with_reducible assumption | with_reducible refine Keeps.alloc ?_ _ | with_reducible refine Keeps.drew ?_ | with_reducible refine Keeps.drewN ?_ _ | with_reducible refine Keeps.trans ?_ (by with_reducible assumption))); done))))
    | (go_at_call 15; (with_reducible refine (text_e K (fr 27 8) { data := #[50, 55, 47, 56] } (str_e ftx_d rfl) _ _ (by (focus (first | with_reducible exact HoldsS.T (by with_reducible assumption) | ((with_reducible refine HoldsS.T (HoldsS.keeps (by with_reducible assumption) ?_)); (focus ((repeat (first | with_reducible exact Keeps.refl _ | with_reducible assumption | with_reducible refine Keeps.alloc ?_ _ | with_reducible refine Keeps.drew ?_ | with_reducible refine Keeps.drewN ?_ _ | with_reducible refine Keeps.trans ?_ (by with_reducible assumption))); done))) | with_reducible assumption | ((with_reducible refine HoldsT.keeps (by with_reducible assumption) ?_); (focus ((repeat (first | with_reducible exact Keeps.refl _ | with_reducible assumption | with_reducible refine Keeps.alloc ?_ _ | with_reducible refine Keeps.drew ?_ | with_reducible refine Keeps.drewN ?_ _ | with_reducible refine Keeps.trans ?_ (by with_reducible assumption))); done))) | with_reducible exact HoldsT.nil _))) (by decide)).mono ?_); rintro e w' ⟨rfl, hk⟩; clear x1 y1 x3 y3 x4 y4 x6 y6 x7 y7 x9 y9 x11 y11; obtain ⟨x1, y1, x3, y3, x4, y4, x6, y6, x7, y7, x9, y9, x11, y11⟩ := SK.out w' (by (focus ((repeat (first | with_reducible exact Keeps.refl _ | with_reducible assumption | with_reducible refine Keeps.alloc ?_ _ | with_reducible refine Keeps.drew ?_ | with_reducible refine Keeps.drewN ?_ _ | with_reducible refine Keeps.trans ?_ (by with_reducible assumption))); done))))
    | (go_at_call 15; (with_reducible refine (text_e K 0 { data := #[48] } (str_e ftx_0 rfl) _ _ (by (focus (first | with_reducible exact HoldsS.T (by with_reducible assumption) | ((with_reducible refine HoldsS.T (HoldsS.keeps (by with_reducible assumption) ?_)); (focus ((repeat (first | with_reducible exact Keeps.refl _ | with_reducible assumption | with_reducible refine Keeps.alloc ?_ _ | with_reducible refine Keeps.drew ?_ | with_reducible refine Keeps.drewN ?_ _ | with_reducible refine Keeps.trans ?_ (by with_reducible assumption))); done))) | with_reducible assumption | ((with_reducible refine HoldsT.keeps (by with_reducible assumption) ?_); (focus ((repeat (first | with_reducible exact Keeps.refl _ | with_reducible assumption | with_reducible refine Keeps.alloc ?_ _ | with_reducible refine Keeps.drew ?_ | with_reducible refine Keeps.drewN ?_ _ | with_reducible refine Keeps.trans ?_ (by with_reducible assumption))); done))) | with_reducible exact HoldsT.nil _))) (by decide)).mono ?_); rintro e w' ⟨rfl, hk⟩; clear x1 y1 x3 y3 x4 y4 x6 y6 x7 y7 x9 y9 x11 y11; obtain ⟨x1, y1, x3, y3, x4, y4, x6, y6, x7, y7, x9, y9, x11, y11⟩ := SK.out w' (by (focus ((repeat (first | with_reducible exact Keeps.refl _ | with_reducible assumption | with_reducible refine Keeps.alloc ?_ _ | with_reducible refine Keeps.drew ?_ | with_reducible refine Keeps.drewN ?_ _ | with_reducible refine Keeps.trans ?_ (by with_reducible assumption))); done))))
    | (go_at_call 18; (with_reducible refine (add_e K (fr 1 2) (fr 1 3) (fr 5 6) B5.out _ _ _ (by (focus (first | with_reducible exact HoldsS.T (by with_reducible assumption) | ((with_reducible refine HoldsS.T (HoldsS.keeps (by with_reducible assumption) ?_)); (focus ((repeat (first | with_reducible exact Keeps.refl _ | with_reducible assumption | with_reducible refine Keeps.alloc ?_ _ | with_reducible refine Keeps.drew ?_ | with_reducible refine Keeps.drewN ?_ _ | with_reducible refine Keeps.trans ?_ (by with_reducible assumption))); done))) | with_reducible assumption | ((with_reducible refine HoldsT.keeps (by with_reducible assumption) ?_); (focus ((repeat (first | with_reducible exact Keeps.refl _ | with_reducible assumption | with_reducible refine Keeps.alloc ?_ _ | with_reducible refine Keeps.drew ?_ | with_reducible refine Keeps.drewN ?_ _ | with_reducible refine Keeps.trans ?_ (by with_reducible assumption))); done))) | with_reducible exact HoldsT.nil _))) (by (focus (first | with_reducible exact HoldsS.T (by with_reducible assumption) | ((with_reducible refine HoldsS.T (HoldsS.keeps (by with_reducible assumption) ?_)); (focus ((repeat (first | with_reducible exact Keeps.refl _ | with_reducible assumption | with_reducible refine Keeps.alloc ?_ _ | with_reducible refine Keeps.drew ?_ | with_reducible refine Keeps.drewN ?_ _ | with_reducible refine Keeps.trans ?_ (by with_reducible assumption))); done))) | with_reducible assumption | ((with_reducible refine HoldsT.keeps (by with_reducible assumption) ?_); (focus ((repeat (first | with_reducible exact Keeps.refl _ | with_reducible assumption | with_reducible refine Keeps.alloc ?_ _ | with_reducible refine Keeps.drew ?_ | with_reducible refine Keeps.drewN ?_ _ | with_reducible refine Keeps.trans ?_ (by with_reducible assumption))); done))) | with_reducible exact HoldsT.nil _))) (by decide) (by decide)).mono ?_); rintro e w' ⟨v, rfl, hs, hk⟩; obtain ⟨sa, sb, sc, sd, se, sf, rfl⟩ := hs.slices; clear x1 y1 x3 y3 x4 y4 x6 y6 x7 y7 x9 y9 x11 y11; obtain ⟨x1, y1, x3, y3, x4, y4, x6, y6, x7, y7, x9, y9, x11, y11⟩ := SK.out w' (by (focus ((repeat (first | with_reducible exact Keeps.refl _ | with_reducible assumption | with_reducible refine Keeps.alloc ?_ _ | with_reducible refine Keeps.drew ?_ | with_reducible refine Keeps.drewN ?_ _ | with_reducible refine Keeps.trans ?_ (by with_reducible assumption))); done))))
    | (go_at_call 14; (with_reducible refine (same_y _ _ _ (by (focus (first | with_reducible assumption | ((with_reducible refine HoldsS.keeps (by with_reducible assumption) ?_); (focus ((repeat (first | with_reducible exact Keeps.refl _ | with_reducible assumption | with_reducible refine Keeps.alloc ?_ _ | with_reducible refine Keeps.drew ?_ | with_reducible refine Keeps.drewN ?_ _ | with_reducible refine Keeps.trans ?_ (by with_reducible assumption))); done)))))) (by (focus (first | with_reducible assumption | ((with_reducible refine HoldsS.keeps (by with_reducible assumption) ?_); (focus ((repeat (first | with_reducible exact Keeps.refl _ | with_reducible assumption | with_reducible refine Keeps.alloc ?_ _ | with_reducible refine Keeps.drew ?_ | with_reducible refine Keeps.drewN ?_ _ | with_reducible refine Keeps.trans ?_ (by with_reducible assumption))); done)))))) rfl).mono ?_); rintro e w' ⟨rfl, hk⟩; clear x1 y1 x3 y3 x4 y4 x6 y6 x7 y7 x9 y9 x11 y11; obtain ⟨x1, y1, x3, y3, x4, y4, x6, y6, x7, y7, x9, y9, x11, y11⟩ := SK.out w' (by (focus ((repeat (first | with_reducible exact Keeps.refl _ | with_reducible assumption | with_reducible refine Keeps.alloc ?_ _ | with_reducible refine Keeps.drew ?_ | with_reducible refine Keeps.drewN ?_ _ | with_reducible refine Keeps.trans ?_ (by with_reducible assumption))); done))))
    | (go_at_call 23; (with_reducible refine (floor_e K (fr 27 8) [3] B7.out _ _ (by (focus (first | with_reducible exact HoldsS.T (by with_reducible assumption) | ((with_reducible refine HoldsS.T (HoldsS.keeps (by with_reducible assumption) ?_)); (focus ((repeat (first | with_reducible exact Keeps.refl _ | with_reducible assumption | with_reducible refine Keeps.alloc ?_ _ | with_reducible refine Keeps.drew ?_ | with_reducible refine Keeps.drewN ?_ _ | with_reducible refine Keeps.trans ?_ (by with_reducible assumption))); done))) | with_reducible assumption | ((with_reducible refine HoldsT.keeps (by with_reducible assumption) ?_); (focus ((repeat (first | with_reducible exact Keeps.refl _ | with_reducible assumption | with_reducible refine Keeps.alloc ?_ _ | with_reducible refine Keeps.drew ?_ | with_reducible refine Keeps.drewN ?_ _ | with_reducible refine Keeps.trans ?_ (by with_reducible assumption))); done))) | with_reducible exact HoldsT.nil _))) (by decide)).mono ?_); rintro e w' ⟨r, rfl, hr, hk⟩; clear x1 y1 x3 y3 x4 y4 x6 y6 x7 y7 x9 y9 x11 y11; obtain ⟨x1, y1, x3, y3, x4, y4, x6, y6, x7, y7, x9, y9, x11, y11⟩ := SK.out w' (by (focus ((repeat (first | with_reducible exact Keeps.refl _ | with_reducible assumption | with_reducible refine Keeps.alloc ?_ _ | with_reducible refine Keeps.drew ?_ | with_reducible refine Keeps.drewN ?_ _ | with_reducible refine Keeps.trans ?_ (by with_reducible assumption))); done))))
    | (go_at_call 28; (with_reducible refine (nats_y [3] _ _ _ (by (focus (first | with_reducible assumption | with_reducible exact Holds32.nil _ | ((with_reducible refine Holds32.keeps (by with_reducible assumption) ?_); (focus ((repeat (first | with_reducible exact Keeps.refl _ | with_reducible assumption | with_reducible refine Keeps.alloc ?_ _ | with_reducible refine Keeps.drew ?_ | with_reducible refine Keeps.drewN ?_ _ | with_reducible refine Keeps.trans ?_ (by with_reducible assumption))); done))) | ((with_reducible refine lit1_top _ _ _ _ _ ?b (by decide)); (case b => first | rfl | simp [World.size_alloc])) | ((with_reducible refine lit1_below _ _ _ _ _ _ ?b (by decide)); (case b => first | rfl | simp [World.size_alloc])) | ((with_reducible refine lit2_top _ _ _ _ _ _ _ ?b (by decide)); (case b => first | rfl | simp [World.size_alloc]))))) (by (focus (first | with_reducible assumption | with_reducible exact Holds32.nil _ | ((with_reducible refine Holds32.keeps (by with_reducible assumption) ?_); (focus ((repeat (first | with_reducible exact Keeps.refl _ | with_reducible assumption | with_reducible refine Keeps.alloc ?_ _ | with_reducible refine Keeps.drew ?_ | with_reducible refine Keeps.drewN ?_ _ | with_reducible refine Keeps.trans ?_ (by with_reducible assumption))); done))) | ((with_reducible refine lit1_top _ _ _ _ _ ?b (by decide)); (case b => first | rfl | simp [World.size_alloc])) | ((with_reducible refine lit1_below _ _ _ _ _ _ ?b (by decide)); (case b => first | rfl | simp [World.size_alloc])) | ((with_reducible refine lit2_top _ _ _ _ _ _ _ ?b (by decide)); (case b => first | rfl | simp [World.size_alloc])))))).mono ?_); rintro e w' ⟨rfl, hk⟩; clear x1 y1 x3 y3 x4 y4 x6 y6 x7 y7 x9 y9 x11 y11; obtain ⟨x1, y1, x3, y3, x4, y4, x6, y6, x7, y7, x9, y9, x11, y11⟩ := SK.out w' (by (focus ((repeat (first | with_reducible exact Keeps.refl _ | with_reducible assumption | with_reducible refine Keeps.alloc ?_ _ | with_reducible refine Keeps.drew ?_ | with_reducible refine Keeps.drewN ?_ _ | with_reducible refine Keeps.trans ?_ (by with_reducible assumption))); done))))
    | (go_at_call 22; (with_reducible refine (cmp_g K _ _ _ (by (focus (first | with_reducible exact HoldsS.T (by with_reducible assumption) | ((with_reducible refine HoldsS.T (HoldsS.keeps (by with_reducible assumption) ?_)); (focus ((repeat (first | with_reducible exact Keeps.refl _ | with_reducible assumption | with_reducible refine Keeps.alloc ?_ _ | with_reducible refine Keeps.drew ?_ | with_reducible refine Keeps.drewN ?_ _ | with_reducible refine Keeps.trans ?_ (by with_reducible assumption))); done))) | with_reducible assumption | ((with_reducible refine HoldsT.keeps (by with_reducible assumption) ?_); (focus ((repeat (first | with_reducible exact Keeps.refl _ | with_reducible assumption | with_reducible refine Keeps.alloc ?_ _ | with_reducible refine Keeps.drew ?_ | with_reducible refine Keeps.drewN ?_ _ | with_reducible refine Keeps.trans ?_ (by with_reducible assumption))); done))) | with_reducible exact HoldsT.nil _))) (by (focus (first | with_reducible exact HoldsS.T (by with_reducible assumption) | ((with_reducible refine HoldsS.T (HoldsS.keeps (by with_reducible assumption) ?_)); (focus ((repeat (first | with_reducible exact Keeps.refl _ | with_reducible assumption | with_reducible refine Keeps.alloc ?_ _ | with_reducible refine Keeps.drew ?_ | with_reducible refine Keeps.drewN ?_ _ | with_reducible refine Keeps.trans ?_ (by with_reducible assumption))); done))) | with_reducible assumption | ((with_reducible refine HoldsT.keeps (by with_reducible assumption) ?_); (focus ((repeat (first | with_reducible exact Keeps.refl _ | with_reducible assumption | with_reducible refine Keeps.alloc ?_ _ | with_reducible refine Keeps.drew ?_ | with_reducible refine Keeps.drewN ?_ _ | with_reducible refine Keeps.trans ?_ (by with_reducible assumption))); done))) | with_reducible exact HoldsT.nil _))) (by decide) (by decide) (cmpR_lt B6.out)).mono ?_); rintro e w' ⟨rfl, hk⟩; clear x1 y1 x3 y3 x4 y4 x6 y6 x7 y7 x9 y9 x11 y11; obtain ⟨x1, y1, x3, y3, x4, y4, x6, y6, x7, y7, x9, y9, x11, y11⟩ := SK.out w' (by (focus ((repeat (first | with_reducible exact Keeps.refl _ | with_reducible assumption | with_reducible refine Keeps.alloc ?_ _ | with_reducible refine Keeps.drew ?_ | with_reducible refine Keeps.drewN ?_ _ | with_reducible refine Keeps.trans ?_ (by with_reducible assumption))); done))))
    | (go_at_call 22; (with_reducible refine (cmp_g K _ _ _ (by (focus (first | with_reducible exact HoldsS.T (by with_reducible assumption) | ((with_reducible refine HoldsS.T (HoldsS.keeps (by with_reducible assumption) ?_)); (focus ((repeat (first | with_reducible exact Keeps.refl _ | with_reducible assumption | with_reducible refine Keeps.alloc ?_ _ | with_reducible refine Keeps.drew ?_ | with_reducible refine Keeps.drewN ?_ _ | with_reducible refine Keeps.trans ?_ (by with_reducible assumption))); done))) | with_reducible assumption | ((with_reducible refine HoldsT.keeps (by with_reducible assumption) ?_); (focus ((repeat (first | with_reducible exact Keeps.refl _ | with_reducible assumption | with_reducible refine Keeps.alloc ?_ _ | with_reducible refine Keeps.drew ?_ | with_reducible refine Keeps.drewN ?_ _ | with_reducible refine Keeps.trans ?_ (by with_reducible assumption))); done))) | with_reducible exact HoldsT.nil _))) (by (focus (first | with_reducible exact HoldsS.T (by with_reducible assumption) | ((with_reducible refine HoldsS.T (HoldsS.keeps (by with_reducible assumption) ?_)); (focus ((repeat (first | with_reducible exact Keeps.refl _ | with_reducible assumption | with_reducible refine Keeps.alloc ?_ _ | with_reducible refine Keeps.drew ?_ | with_reducible refine Keeps.drewN ?_ _ | with_reducible refine Keeps.trans ?_ (by with_reducible assumption))); done))) | with_reducible assumption | ((with_reducible refine HoldsT.keeps (by with_reducible assumption) ?_); (focus ((repeat (first | with_reducible exact Keeps.refl _ | with_reducible assumption | with_reducible refine Keeps.alloc ?_ _ | with_reducible refine Keeps.drew ?_ | with_reducible refine Keeps.drewN ?_ _ | with_reducible refine Keeps.trans ?_ (by with_reducible assumption))); done))) | with_reducible exact HoldsT.nil _))) (by decide) (by decide) (cmpR_eq (a := fr 3 2) rfl)).mono ?_); rintro e w' ⟨rfl, hk⟩; clear x1 y1 x3 y3 x4 y4 x6 y6 x7 y7 x9 y9 x11 y11; obtain ⟨x1, y1, x3, y3, x4, y4, x6, y6, x7, y7, x9, y9, x11, y11⟩ := SK.out w' (by (focus ((repeat (first | with_reducible exact Keeps.refl _ | with_reducible assumption | with_reducible refine Keeps.alloc ?_ _ | with_reducible refine Keeps.drew ?_ | with_reducible refine Keeps.drewN ?_ _ | with_reducible refine Keeps.trans ?_ (by with_reducible assumption))); done))))
    | (go_at_call 17; (with_reducible refine (right_0 K _).mono ?_); rintro e w' ⟨rfl, hk⟩; clear x1 y1 x3 y3 x4 y4 x6 y6 x7 y7 x9 y9 x11 y11; obtain ⟨x1, y1, x3, y3, x4, y4, x6, y6, x7, y7, x9, y9, x11, y11⟩ := SK.out w' (by (focus ((repeat (first | with_reducible exact Keeps.refl _ | with_reducible assumption | with_reducible refine Keeps.alloc ?_ _ | with_reducible refine Keeps.drew ?_ | with_reducible refine Keeps.drewN ?_ _ | with_reducible refine Keeps.trans ?_ (by with_reducible assumption))); done))))
    | (go_at_call 17; (with_reducible refine (right_y K _ _ (by (focus (first | with_reducible assumption | ((with_reducible refine HoldsS.keeps (by with_reducible assumption) ?_); (focus ((repeat (first | with_reducible exact Keeps.refl _ | with_reducible assumption | with_reducible refine Keeps.alloc ?_ _ | with_reducible refine Keeps.drew ?_ | with_reducible refine Keeps.drewN ?_ _ | with_reducible refine Keeps.trans ?_ (by with_reducible assumption))); done)))))) (by decide)).mono ?_); rintro e w' ⟨rfl, hk⟩; clear x1 y1 x3 y3 x4 y4 x6 y6 x7 y7 x9 y9 x11 y11; obtain ⟨x1, y1, x3, y3, x4, y4, x6, y6, x7, y7, x9, y9, x11, y11⟩ := SK.out w' (by (focus ((repeat (first | with_reducible exact Keeps.refl _ | with_reducible assumption | with_reducible refine Keeps.alloc ?_ _ | with_reducible refine Keeps.drew ?_ | with_reducible refine Keeps.drewN ?_ _ | with_reducible refine Keeps.trans ?_ (by with_reducible assumption))); done)))))
  go_ret
  exact ⟨rfl, by (focus ((repeat (first | with_reducible exact Keeps.refl _ | with_reducible assumption | with_reducible refine Keeps.alloc ?_ _ | with_reducible refine Keeps.drew ?_ | with_reducible refine Keeps.drewN ?_ _ | with_reducible refine Keeps.trans ?_ (by with_reducible assumption))); done))⟩
end Go.Proofs.Ytachhphneamfhaa
/- Have the laws' fractions few digits? -/
namespace Go.Proofs.Ytachhphneamfhaa
open Go.RowKit Go.NatMath Go.FracMath

theorem few_all (a b c d : Option Addr) (n n' m m' c1 c2 c3 c4 : Nat) (w : World) :
    Calls Try.prog 11 #[.agg #[.slice a n c1, .slice b n' c2], .agg #[.slice c m c3, .slice d m' c4]] w fun e w' => e = .returned (.bool (decide ((n ≤ 12 ∧ n' ≤ 12) ∧ m ≤ 12 ∧ m' ≤ 12))) ∧ Keeps w w' := by
  generalize hR : decide ((n ≤ 12 ∧ n' ≤ 12) ∧ m ≤ 12 ∧ m' ≤ 12) = R
  by_cases h1 : n ≤ 12
  · have g1 : (n : Int) ≤ 12 := by omega
    by_cases h2 : n' ≤ 12
    · have g2 : (n' : Int) ≤ 12 := by omega
      by_cases h3 : m ≤ 12
      · have g3 : (m : Int) ≤ 12 := by omega
        by_cases h4 : m' ≤ 12
        · have g4 : (m' : Int) ≤ 12 := by omega
          obtain rfl : R = true := by rw [← hR]; exact decide_eq_true ⟨⟨h1, h2⟩, h3, h4⟩
          clear hR h1 h2 h3 h4
          go_enter Try.func11, Try.ntmps11
          go_wp2_with fail
          go_ret
          exact ⟨rfl, by (focus ((repeat (first | with_reducible exact Keeps.refl _ | with_reducible assumption | with_reducible refine Keeps.alloc ?_ _ | with_reducible refine Keeps.drew ?_ | with_reducible refine Keeps.drewN ?_ _ | with_reducible refine Keeps.trans ?_ (by with_reducible assumption))); done))⟩
        · have g4 : ¬ (m' : Int) ≤ 12 := by omega
          obtain rfl : R = false := by rw [← hR]; exact decide_eq_false (fun h => h4 h.2.2)
          clear hR h1 h2 h3 h4
          go_enter Try.func11, Try.ntmps11
          go_wp2_with fail
          go_ret
          exact ⟨rfl, by (focus ((repeat (first | with_reducible exact Keeps.refl _ | with_reducible assumption | with_reducible refine Keeps.alloc ?_ _ | with_reducible refine Keeps.drew ?_ | with_reducible refine Keeps.drewN ?_ _ | with_reducible refine Keeps.trans ?_ (by with_reducible assumption))); done))⟩
      · have g3 : ¬ (m : Int) ≤ 12 := by omega
        obtain rfl : R = false := by rw [← hR]; exact decide_eq_false (fun h => h3 h.2.1)
        clear hR h1 h2 h3
        go_enter Try.func11, Try.ntmps11
        go_wp2_with fail
        go_ret
        exact ⟨rfl, by (focus ((repeat (first | with_reducible exact Keeps.refl _ | with_reducible assumption | with_reducible refine Keeps.alloc ?_ _ | with_reducible refine Keeps.drew ?_ | with_reducible refine Keeps.drewN ?_ _ | with_reducible refine Keeps.trans ?_ (by with_reducible assumption))); done))⟩
    · have g2 : ¬ (n' : Int) ≤ 12 := by omega
      obtain rfl : R = false := by rw [← hR]; exact decide_eq_false (fun h => h2 h.1.2)
      clear hR h1 h2
      go_enter Try.func11, Try.ntmps11
      go_wp2_with fail
      go_ret
      exact ⟨rfl, by (focus ((repeat (first | with_reducible exact Keeps.refl _ | with_reducible assumption | with_reducible refine Keeps.alloc ?_ _ | with_reducible refine Keeps.drew ?_ | with_reducible refine Keeps.drewN ?_ _ | with_reducible refine Keeps.trans ?_ (by with_reducible assumption))); done))⟩
  · have g1 : ¬ (n : Int) ≤ 12 := by omega
    obtain rfl : R = false := by rw [← hR]; exact decide_eq_false (fun h => h1 h.1.1)
    clear hR h1
    go_enter Try.func11, Try.ntmps11
    go_wp2_with fail
    go_ret
    exact ⟨rfl, by (focus ((repeat (first | with_reducible exact Keeps.refl _ | with_reducible assumption | with_reducible refine Keeps.alloc ?_ _ | with_reducible refine Keeps.drew ?_ | with_reducible refine Keeps.drewN ?_ _ | with_reducible refine Keeps.trans ?_ (by with_reducible assumption))); done))⟩
theorem few_F {v v' : Value} {xs ys zs ts : List Nat} {w : World} {b : Bool} (h1 : HoldsF w v xs ys) (h2 : HoldsF w v' zs ts) (hb : decide ((xs.length ≤ 12 ∧ ys.length ≤ 12) ∧ zs.length ≤ 12 ∧ ts.length ≤ 12) = b) :
    Calls Try.prog 11 #[v, v'] w fun e w' => e = .returned (.bool b) ∧ Keeps w w' := by
  obtain ⟨_, _, rfl, ⟨_, a, n, c1, rfl, rfl, _⟩, ⟨_, b1, n', c2, rfl, rfl, _⟩⟩ := h1
  obtain ⟨_, _, rfl, ⟨_, c, m, c3, rfl, rfl, _⟩, ⟨_, d, m', c4, rfl, rfl, _⟩⟩ := h2
  rw [← hb]
  exact few_all a b1 c d _ _ _ _ c1 c2 c3 c4 w
end Go.Proofs.Ytachhphneamfhaa
/- A struct's block: what it holds, behind calls and behind stores. -/
namespace Go.Proofs.Ytachhphneamfhaa
open Go.RowKit

/-- Block b holds just these cells. -/
def Blk (w : World) (b : Nat) (cs : Array Value) (T : TypeId) : Prop := w.heap[b]? = some (.cells cs T (0, 0))
theorem Blk.new (w : World) (cs : Array Value) (T : TypeId) : Blk (w.alloc (.cells cs T)) w.heap.size cs T := (MapKept.heap_alloc w (.cells cs T)).1
theorem Blk.lt {w : World} {b : Nat} {cs : Array Value} {T : TypeId} (h : Blk w b cs T) : b < w.heap.size := lt_of_block h
theorem Blk.keeps {w w' : World} {b : Nat} {cs : Array Value} {T : TypeId} (h : Blk w b cs T) (k : Keeps w w') : Blk w' b cs T := (k.block b h.lt).trans h
theorem Blk.cell {w : World} {b : Nat} {cs : Array Value} {T : TypeId} (h : Blk w b cs T) (i : Nat) : w.cell? ⟨b, i, none⟩ = cs[i]? := by
  unfold Blk at h
  simp [World.cell?, h]
theorem Blk.free {w : World} {b : Nat} {cs : Array Value} {T : TypeId} (h : Blk w b cs T) (i : Nat) : w.frozen? ⟨b, i, none⟩ = false := by
  unfold Blk at h
  simp [World.frozen?, h]
theorem Blk.set0 {w : World} {b : Nat} {x y : Value} {T : TypeId} (h : Blk w b #[x, y] T) (u : Value) : Blk (w.setCell ⟨b, 0, none⟩ u) b #[u, y] T := by
  have hlt := h.lt
  have h' : w.heap[b] = .cells #[x, y] T := by simpa [Blk, Array.getElem?_eq_getElem hlt] using h
  show (w.heap.modify b _)[b]? = _
  rw [Array.getElem?_eq_getElem (by simpa using hlt), Array.getElem_modify_self, h']
  rfl
theorem Blk.set1 {w : World} {b : Nat} {x y : Value} {T : TypeId} (h : Blk w b #[x, y] T) (u : Value) : Blk (w.setCell ⟨b, 1, none⟩ u) b #[x, u] T := by
  have hlt := h.lt
  have h' : w.heap[b] = .cells #[x, y] T := by simpa [Blk, Array.getElem?_eq_getElem hlt] using h
  show (w.heap.modify b _)[b]? = _
  rw [Array.getElem?_eq_getElem (by simpa using hlt), Array.getElem_modify_self, h']
  rfl
/-- A block of the call's own is written: all that was there is as it was. -/
theorem put_keeps {W w : World} (h : Keeps W w) {q i : Nat} (hq : W.heap.size ≤ q) (u : Value) : Keeps W (w.setCell ⟨q, i, none⟩ u) := Below.setCell h (p := ⟨q, i, none⟩) hq u
/-- What stood in the block was no digit: so digits are as they were. -/
theorem Holds32.put {w : World} {b i : Nat} {cs : Array Value} {T : TypeId} {a : Option Addr} {n c : Nat} {v : Value} {xs : List Nat} (h : Holds32 w v xs) (hb : Blk w b cs T) (hc : cs[i]? = some (.slice a n c)) (u : Value) : Holds32 (w.setCell ⟨b, i, none⟩ u) v xs := by
  obtain ⟨h0, ao, len, cap, rfl, h2, h3, h4, h5⟩ := h
  refine ⟨h0, ao, len, cap, rfl, h2, h3, h4, ?_⟩
  rcases h5 with h5 | ⟨g, off, h6, h7, h8⟩
  · exact Or.inl h5
  · refine Or.inr ⟨g, off, h6, ?_, fun j hj => ?_⟩
    · rw [show (w.setCell ⟨b, i, none⟩ u).heap.size = w.heap.size from by simp [World.setCell]]; exact h7
    · by_cases e : (⟨g, off + j, none⟩ : Addr) = ⟨b, i, none⟩
      · have := h8 j hj
        rw [e, hb.cell, hc] at this
        cases this
      · rw [← h8 j hj]
        by_cases e2 : g = b
        · subst e2
          have e3 : off + j ≠ i := fun x => e (by rw [x])
          have hl := hb.lt
          unfold Blk at hb
          have h' : w.heap[g] = .cells cs T := by simpa [Array.getElem?_eq_getElem hl] using hb
          have : (w.setCell ⟨g, i, none⟩ u).heap[g]? = some (.cells (cs.setIfInBounds i u) T) := by
            show (w.heap.modify g _)[g]? = _
            rw [Array.getElem?_eq_getElem (by simpa using hl), Array.getElem_modify_self, h']
            rfl
          simp only [World.cell?, this, hb]
          rw [Array.getElem?_setIfInBounds_ne (Ne.symm e3)]
        · exact World.cell?_of_block (Below.heap_setCell w ⟨b, i, none⟩ u g e2)
end Go.Proofs.Ytachhphneamfhaa
/- Fractions that are laid into a variable of their own. -/
namespace Go.Proofs.Ytachhphneamfhaa
open Go.RowKit Go.NatMath Go.FracMath

theorem Blk.two {w : World} {b : Nat} {x y : Value} {T : TypeId} (h : Blk w b #[x, y] T) : w.cell? ⟨b, 0, none⟩ = some x ∧ w.cell? ⟨b, 1, none⟩ = some y ∧ w.frozen? ⟨b, 0, none⟩ = false ∧ w.frozen? ⟨b, 1, none⟩ = false := ⟨h.cell 0, h.cell 1, h.free 0, h.free 1⟩
theorem Blk.newd (w : World) (cs : Array Value) (T : TypeId) : Blk (w.alloc (.cells cs T)).drew w.heap.size cs T := (Blk.new w cs T).keeps (Keeps.refl _).drew
theorem Blk.box {w : World} {b : Nat} {x y : Value} {T : TypeId} (h : Blk w b #[x, y] T) : Box2 w b x y := ⟨h.lt, h.cell 0, h.cell 1⟩
theorem HoldsS.put {w : World} {b i : Nat} {cs : Array Value} {T : TypeId} {a : Option Addr} {n c : Nat} {v : Value} {k : Nat} {q : Rat} (h : HoldsS w v k q) (hb : Blk w b cs T) (hc : cs[i]? = some (.slice a n c)) (u : Value) : HoldsS (w.setCell ⟨b, i, none⟩ u) v k q := by
  obtain ⟨s, h0, vn, vd, e, h1, h2⟩ := h
  exact ⟨s, h0, vn, vd, e, h1.put hb hc u, h2.put hb hc u⟩
/-- Both cells of a block of its own are written: what is known of the fraction, and of the rest. -/
theorem laid_in {w W : World} {b : Nat} {a a' d d' : Option Addr} {n n' c c' m m' e e' : Nat} {T : TypeId} {k : Nat} {q : Rat} (hb : Blk w b #[.slice a n c, .slice a' n' c'] T) (h : HoldsS w (.agg #[.slice d m e, .slice d' m' e']) k q) (hk : Keeps W w) (hl : W.heap.size ≤ b) :
    Box2 ((w.setCell ⟨b, 0, none⟩ (.slice d m e)).setCell ⟨b, 1, none⟩ (.slice d' m' e')) b (.slice d m e) (.slice d' m' e') ∧ HoldsS ((w.setCell ⟨b, 0, none⟩ (.slice d m e)).setCell ⟨b, 1, none⟩ (.slice d' m' e')) (.agg #[.slice d m e, .slice d' m' e']) k q ∧ Keeps W ((w.setCell ⟨b, 0, none⟩ (.slice d m e)).setCell ⟨b, 1, none⟩ (.slice d' m' e')) :=
  ⟨((hb.set0 _).set1 _).box, (h.put hb (i := 0) rfl _).put (hb.set0 _) (i := 1) rfl _, (Below.setCell (Below.setCell hk (p := ⟨b, 0, none⟩) hl _) (p := ⟨b, 1, none⟩) hl _)⟩
end Go.Proofs.Ytachhphneamfhaa
/- Rows of digits that are reckoned with in their own place, and long division: plain lemmas; no program is named here. -/
namespace Go.NatMath

theorem nv_put {os : List Nat} (i d : Nat) (hi : i < os.length) : nv (os.set i d) + 4294967296 ^ i * os.getD i 0 = nv os + 4294967296 ^ i * d := by
  induction os generalizing i with
  | nil => simp at hi
  | cons x xs ih =>
    cases i with
    | zero => simp [nv]; omega
    | succ i =>
      have h := ih i (by simpa using hi)
      simp only [List.set_cons_succ, nv, Nat.pow_succ]
      have e1 : 4294967296 ^ i * 4294967296 * (x :: xs).getD (i + 1) 0 = 4294967296 * (4294967296 ^ i * xs.getD i 0) := by
        rw [Nat.mul_comm (4294967296 ^ i), Nat.mul_assoc]; rfl
      have e2 : 4294967296 ^ i * 4294967296 * d = 4294967296 * (4294967296 ^ i * d) := by rw [Nat.mul_comm (4294967296 ^ i), Nat.mul_assoc]
      rw [e1, e2]
      omega

/-- A digit more of a sum in place. -/
theorem add_next {ys m : List Nat} {k c t N d c2 : Nat} (hk : k < m.length) (h : nv m + 4294967296 ^ k * c = N + t * nv (ys.take k)) (e : c + ys.getD k 0 * t + m.getD k 0 = d + 4294967296 * c2) :
    nv (m.set k d) + 4294967296 ^ (k + 1) * c2 = N + t * nv (ys.take (k + 1)) := by
  have h1 := nv_put k d hk
  rw [nv_take_succ, Nat.mul_add, Nat.pow_succ, Nat.mul_assoc]
  have e2 : 4294967296 ^ k * c + 4294967296 ^ k * (ys.getD k 0 * t) + 4294967296 ^ k * m.getD k 0 = 4294967296 ^ k * d + 4294967296 ^ k * (4294967296 * c2) := by
    rw [← Nat.mul_add, ← Nat.mul_add, ← Nat.mul_add, e]
  have e3 : t * (4294967296 ^ k * ys.getD k 0) = 4294967296 ^ k * (ys.getD k 0 * t) := by rw [Nat.mul_left_comm, Nat.mul_comm t]
  rw [e3]
  omega
/-- A carry is handed on by a digit. -/
theorem carry_next {m : List Nat} {k c N d c2 : Nat} (hk : k < m.length) (h : nv m + 4294967296 ^ k * c = N) (e : c + m.getD k 0 = d + 4294967296 * c2) :
    nv (m.set k d) + 4294967296 ^ (k + 1) * c2 = N := by
  have h1 := nv_put k d hk
  rw [Nat.pow_succ, Nat.mul_assoc]
  have e2 : 4294967296 ^ k * c + 4294967296 ^ k * m.getD k 0 = 4294967296 ^ k * d + 4294967296 ^ k * (4294967296 * c2) := by
    rw [← Nat.mul_add, ← Nat.mul_add, e]
  omega
/-- A digit more of a difference in place. -/
theorem take_next {ys m : List Nat} {k c t N d c2 : Nat} (hk : k < m.length) (h : nv m + t * nv (ys.take k) = N + 4294967296 ^ k * c) (e : c + ys.getD k 0 * t + d = m.getD k 0 + 4294967296 * c2) :
    nv (m.set k d) + t * nv (ys.take (k + 1)) = N + 4294967296 ^ (k + 1) * c2 := by
  have h1 := nv_put k d hk
  rw [nv_take_succ, Nat.mul_add, Nat.pow_succ, Nat.mul_assoc]
  have e2 : 4294967296 ^ k * c + 4294967296 ^ k * (ys.getD k 0 * t) + 4294967296 ^ k * d = 4294967296 ^ k * m.getD k 0 + 4294967296 ^ k * (4294967296 * c2) := by
    rw [← Nat.mul_add, ← Nat.mul_add, ← Nat.mul_add, e]
  have e3 : t * (4294967296 ^ k * ys.getD k 0) = 4294967296 ^ k * (ys.getD k 0 * t) := by rw [Nat.mul_left_comm, Nat.mul_comm t]
  rw [e3]
  omega
/-- What is owed is handed on by a digit. -/
theorem owe_next {m : List Nat} {k c N M d c2 : Nat} (hk : k < m.length) (h : nv m + M = N + 4294967296 ^ k * c) (e : c + d = m.getD k 0 + 4294967296 * c2) :
    nv (m.set k d) + M = N + 4294967296 ^ (k + 1) * c2 := by
  have h1 := nv_put k d hk
  rw [Nat.pow_succ, Nat.mul_assoc]
  have e2 : 4294967296 ^ k * c + 4294967296 ^ k * d = 4294967296 ^ k * m.getD k 0 + 4294967296 ^ k * (4294967296 * c2) := by
    rw [← Nat.mul_add, ← Nat.mul_add, e]
  omega
/-- A digit less of a quotient by one digit in place. -/
theorem div_next {m : List Nat} {k r b N q r2 : Nat} (hk : k < m.length) (h : N + b * nv (m.take (k + 1)) = b * nv m + 4294967296 ^ (k + 1) * r + nv (m.take (k + 1))) (e : r * 4294967296 + m.getD k 0 = b * q + r2) :
    N + b * nv ((m.set k q).take k) = b * nv (m.set k q) + 4294967296 ^ k * r2 + nv ((m.set k q).take k) := by
  have h1 := nv_put k q hk
  have h2 : (m.set k q).take k = m.take k := by rw [List.take_set_of_le (Nat.le_refl _)]
  rw [h2]
  rw [nv_take_succ, Nat.mul_add, Nat.pow_succ, Nat.mul_assoc] at h
  have e2 : 4294967296 ^ k * (4294967296 * r) + 4294967296 ^ k * m.getD k 0 = 4294967296 ^ k * (b * q) + 4294967296 ^ k * r2 := by
    rw [← Nat.mul_add, ← Nat.mul_add, Nat.mul_comm 4294967296 r, e]
  have h3 : b * nv (m.set k q) + b * (4294967296 ^ k * m.getD k 0) = b * nv m + b * (4294967296 ^ k * q) := by rw [← Nat.mul_add, ← Nat.mul_add, h1]
  have e3 : b * (4294967296 ^ k * q) = 4294967296 ^ k * (b * q) := Nat.mul_left_comm _ _ _
  omega

theorem pow_pos32 (k : Nat) : 0 < 4294967296 ^ k := Nat.pow_pos (by decide)

/-- Of n digits a carry that isn't there, or is. -/
theorem fits_not {m : List Nat} {n c S : Nat} (hm : ∀ x ∈ m, x < 4294967296) (hn : m.length = n) (h : nv m + 4294967296 ^ n * c = S) (hS : S < 4294967296 ^ n) : c = 0 ∧ nv m = S := by
  rcases Nat.eq_zero_or_pos c with h0 | h0
  · subst h0; exact ⟨rfl, by omega⟩
  · have := Nat.mul_le_mul_left (4294967296 ^ n) h0
    omega
theorem fits_once {m : List Nat} {n c S : Nat} (hm : ∀ x ∈ m, x < 4294967296) (hn : m.length = n) (h : nv m + 4294967296 ^ n * c = S) (hS : 4294967296 ^ n ≤ S) (hS2 : S < 2 * 4294967296 ^ n) : c = 1 ∧ nv m + 4294967296 ^ n = S := by
  have h1 := nv_lt hm
  rw [hn] at h1
  have hc : c < 2 := by
    rcases Nat.lt_or_ge c 2 with g | g
    · exact g
    · have := Nat.mul_le_mul_left (4294967296 ^ n) g
      omega
  rcases c with _ | _ | c
  · omega
  · exact ⟨rfl, by omega⟩
  · omega

/-- The first guess of a quotient's digit: never too small, and at most 2 too great. -/
theorem guess_ok {P D high top s g : Nat} (h1 : high * 4294967296 ^ s ≤ P) (h2 : P < (high + 1) * 4294967296 ^ s) (h3 : top * 4294967296 ^ s ≤ D) (h4 : D < (top + 1) * 4294967296 ^ s) (ht : 2147483648 ≤ top) (hP : P < 4294967296 * D) (hg : g = min (high / top) 4294967295) :
    P / D ≤ g ∧ g * D < P + 2 * D := by
  have hs := pow_pos32 s
  have hD : 0 < D := Nat.lt_of_lt_of_le (Nat.mul_pos (by omega) hs) h3
  constructor
  · have a1 : P / D < 4294967296 := by rw [Nat.div_lt_iff_lt_mul hD]; exact hP
    have a2 : P / D * top * 4294967296 ^ s < (high + 1) * 4294967296 ^ s := by
      rw [Nat.mul_assoc]
      exact Nat.lt_of_le_of_lt (Nat.le_trans (Nat.mul_le_mul_left _ h3) (Nat.div_mul_le_self P D)) h2
    have a3 := Nat.lt_of_mul_lt_mul_right a2
    have a4 : P / D ≤ high / top := by rw [Nat.le_div_iff_mul_le (by omega)]; omega
    omega
  · have b0 : g ≤ high / top := by omega
    have b1 : g ≤ 4294967295 := by omega
    have b2 : g * top ≤ high := Nat.le_trans (Nat.mul_le_mul_right _ b0) (Nat.div_mul_le_self _ _)
    have b3 : g * (top * 4294967296 ^ s) ≤ P := by rw [← Nat.mul_assoc]; exact Nat.le_trans (Nat.mul_le_mul_right _ b2) h1
    have b4 : g * D ≤ g * (top * 4294967296 ^ s) + g * 4294967296 ^ s := by
      rw [← Nat.mul_add]; refine Nat.mul_le_mul_left _ ?_; rw [Nat.add_mul, Nat.one_mul] at h4; omega
    have b5 : g * 4294967296 ^ s ≤ 4294967295 * 4294967296 ^ s := Nat.mul_le_mul_right _ b1
    have b6 : 2147483648 * 4294967296 ^ s ≤ top * 4294967296 ^ s := Nat.mul_le_mul_right _ ht
    omega

/-- How it stands with a guess, of which i steps down were taken. -/
def GuessAt (P D n i g N : Nat) (short : Bool) : Prop :=
  P / D ≤ g ∧ (if short then N + g * D = P + 4294967296 ^ n ∧ g * D < P + (2 - i) * D else N + g * D = P)
theorem guess_end {P D n i g N : Nat} (hD : 0 < D) (h : GuessAt P D n i g N false) : g = P / D ∧ N = P % D := by
  obtain ⟨h1, h2⟩ := h
  simp only [Bool.false_eq_true, if_false] at h2
  have h3 : g ≤ P / D := by rw [Nat.le_div_iff_mul_le hD]; omega
  have h4 : g = P / D := Nat.le_antisymm h3 h1
  have h5 := Nat.div_add_mod P D
  rw [← h4, Nat.mul_comm] at h5
  exact ⟨h4, by omega⟩
theorem guess_not {P D n g N : Nat} (hN : N < 4294967296 ^ n) (h : GuessAt P D n 2 g N true) : False := by
  obtain ⟨h1, h2⟩ := h
  simp only [if_true] at h2
  omega
/-- The first try. -/
theorem guess_first {P D n g c : Nat} {m : List Nat} (hm : ∀ x ∈ m, x < 4294967296) (hn : m.length = n) (h1 : P / D ≤ g) (h2 : g * D < P + 2 * D) (hP : P < 4294967296 ^ n) (hD : 2 * D ≤ 4294967296 ^ n)
    (h : nv m + g * D = P + 4294967296 ^ n * c) : GuessAt P D n 0 g (nv m) (decide (0 < c)) := by
  have h5 := nv_lt hm
  rw [hn] at h5
  have hp := pow_pos32 n
  refine ⟨h1, ?_⟩
  rcases Nat.lt_or_ge c 2 with k | k
  · rcases (show c = 0 ∨ c = 1 from by omega) with rfl | rfl
    · simp at h ⊢; omega
    · simp at h ⊢; omega
  · have := Nat.mul_le_mul_left (4294967296 ^ n) k
    omega
/-- A step down. -/
theorem guess_step {P D n g c i N : Nat} {m : List Nat} (hD : 0 < D) (hi : i < 2) (hm : ∀ x ∈ m, x < 4294967296) (hn : m.length = n) (h : GuessAt P D n i g N true) (hN : N < 4294967296 ^ n) (hD2 : D ≤ 4294967296 ^ n)
    (e : nv m + 4294967296 ^ n * c = N + D) : 0 < g ∧ GuessAt P D n (i + 1) (g - 1) (nv m) (!decide (0 < c)) := by
  obtain ⟨h1, h2⟩ := h
  simp only [if_true] at h2
  obtain ⟨h2, h3⟩ := h2
  have h5 := nv_lt hm
  rw [hn] at h5
  have hg : P / D < g := by
    rw [Nat.div_lt_iff_lt_mul hD]; omega
  have hg0 : 0 < g := Nat.lt_of_le_of_lt (Nat.zero_le _) hg
  obtain ⟨f, rfl⟩ : ∃ f, g = f + 1 := ⟨g - 1, by omega⟩
  refine ⟨by omega, by omega, ?_⟩
  rw [Nat.add_sub_cancel]
  rw [Nat.add_mul, Nat.one_mul] at h2 h3
  have h6 : (2 - i) * D = (2 - (i + 1)) * D + D := by
    rw [show 2 - i = 2 - (i + 1) + 1 from by omega, Nat.add_mul, Nat.one_mul]
  rcases Nat.lt_or_ge c 2 with k | k
  · rcases (show c = 0 ∨ c = 1 from by omega) with rfl | rfl
    · rw [Nat.mul_zero] at e
      rw [show (!decide (0 < 0)) = true from rfl, if_pos rfl]; omega
    · rw [Nat.mul_one] at e
      rw [show (!decide (0 < 1)) = false from rfl, if_neg (by decide)]; omega
  · have := Nat.mul_le_mul_left (4294967296 ^ n) k
    omega

theorem nv_split (xs : List Nat) (k : Nat) (hk : k ≤ xs.length) : nv xs = nv (xs.take k) + 4294967296 ^ k * nv (xs.drop k) := by
  conv => lhs; rw [← List.take_append_drop k xs]
  rw [nv_append, List.length_take, Nat.min_eq_left hk]
theorem nv_drop_next (xs : List Nat) (k : Nat) (hk : k < xs.length) : nv (xs.drop k) = xs.getD k 0 + 4294967296 * nv (xs.drop (k + 1)) := by
  rw [List.drop_eq_getElem_cons hk, nv]
  simp [List.getD, hk]
end Go.NatMath
/- A part of a row of the call's own, reckoned with in place: the contract of package nat's addTimes. -/
namespace Go.Proofs.Ytachhphneamfhaa
open Go.RowKit Go.NatMath

/-- From w to w' block G alone was written, and no memory made. -/
def Only (G : Nat) (w w' : World) : Prop :=
  w'.heap.size = w.heap.size ∧ (∀ W, Keeps W w → W.heap.size ≤ G → Keeps W w') ∧ (∀ H, H ≠ G → w'.heap[H]? = w.heap[H]?)
theorem Only.refl (G : Nat) (w : World) : Only G w w := ⟨rfl, fun _ h _ => h, fun _ _ => rfl⟩
theorem Only.trans {G : Nat} {a b c : World} (h : Only G a b) (k : Only G b c) : Only G a c :=
  ⟨k.1.trans h.1, fun W x y => k.2.1 W (h.2.1 W x y) y, fun H x => (k.2.2 H x).trans (h.2.2 H x)⟩
theorem Only.set {G : Nat} {a b : World} (h : Only G a b) (i : Nat) (v : Value) : Only G a (b.setCell ⟨G, i, none⟩ v) :=
  ⟨by rw [← h.1]; simp [World.setCell], fun W x y => keeps_set (h.2.1 W x y) y, fun H x => (Below.heap_setCell _ _ _ _ x).trans (h.2.2 H x)⟩
theorem Only.drewN {G : Nat} {a b : World} (h : Only G a b) (n : Nat) : Only G a (b.drewN n) := ⟨h.1, fun W x y => (h.2.1 W x y).drewN n, h.2.2⟩
theorem Only.holds {G : Nat} {w w' : World} (k : Only G w w') {v : Value} {xs : List Nat} (h : Holds32 w v xs) (ha : xs.length = 0 ∨ Apart G v) : Holds32 w' v xs := by
  obtain ⟨h1, ao, len, cap, rfl, h3, h4, h5, h6⟩ := h
  refine ⟨h1, ao, len, cap, rfl, h3, h4, h5, ?_⟩
  rcases h6 with h6 | ⟨b, off, h7, h8, h9⟩
  · exact Or.inl h6
  · subst h7
    rcases ha with ha | ha
    · exact Or.inl (by omega)
    have hne := ha b off len cap rfl
    refine Or.inr ⟨b, off, rfl, by rw [k.1]; exact h8, fun j hj => ?_⟩
    rw [← h9 j hj]
    simp only [World.cell?, k.2.2 b hne]
theorem Only.row {G : Nat} {w w' : World} (k : Only G w w') {H : Nat} {os : List Nat} (h : Row32 w H os) (hn : H ≠ G) : Row32 w' H os := ⟨h.1, (k.2.2 H hn).trans h.2⟩
theorem Only.keeps {G : Nat} {W w w' : World} (k : Only G w w') (h : Keeps W w) (hG : W.heap.size ≤ G) : Keeps W w' := k.2.1 W h hG

theorem getD_mid (pre mid post : List Nat) (i : Nat) (hi : i < mid.length) : (pre ++ mid ++ post).getD (pre.length + i) 0 = mid.getD i 0 := by
  simp only [List.getD_eq_getElem?_getD]
  rw [List.append_assoc, List.getElem?_append_right (by omega), Nat.add_sub_cancel_left, List.getElem?_append_left hi]
theorem set_mid (pre mid post : List Nat) (i d : Nat) (hi : i < mid.length) : (pre ++ mid ++ post).set (pre.length + i) d = pre ++ mid.set i d ++ post := by
  rw [List.append_assoc, List.set_append_right _ _ (by omega), Nat.add_sub_cancel_left, List.set_append_left _ _ hi, List.append_assoc]
theorem Row32.mid {w : World} {G off : Nat} {pre mid post : List Nat} (h : Row32 w G (pre ++ mid ++ post)) (ho : pre.length = off) (i : Nat) (hi : i < mid.length) : w.cell? ⟨G, off + i, none⟩ = some (.int .u32 ((mid.getD i 0 : Nat) : Int)) := by
  rw [← ho, h.cell _ (by simp; omega), getD_mid _ _ _ _ hi]
theorem Row32.midset {w : World} {G off : Nat} {pre mid post : List Nat} (h : Row32 w G (pre ++ mid ++ post)) (ho : pre.length = off) (i d : Nat) (hi : i < mid.length) (hd : d < 4294967296) : Row32 (w.setCell ⟨G, off + i, none⟩ (.int .u32 (d : Int))) G (pre ++ mid.set i d ++ post) := by
  rw [← ho, ← set_mid _ _ _ _ _ hi]; exact h.set _ _ hd
theorem Row32.midlt {w : World} {G : Nat} {pre mid post : List Nat} (h : Row32 w G (pre ++ mid ++ post)) : ∀ x ∈ mid, x < 4294967296 := fun x hx => h.1 x (by simp [hx])
theorem Row32.midgetD {w : World} {G : Nat} {pre mid post : List Nat} (h : Row32 w G (pre ++ mid ++ post)) (i : Nat) : mid.getD i 0 < 4294967296 := by
  by_cases hi : i < mid.length
  · have := h.midlt (mid[i]) (List.getElem_mem hi); simpa [List.getD, hi] using this
  · simp [List.getD, hi]

/-- What addTimes and takeTimes leave: the part's new digits, and whether one is carried. -/
def InPlace (w : World) (G : Nat) (pre post : List Nat) (n : Nat) (P : List Nat → Nat → Prop) (e : Ending) (w' : World) : Prop :=
  ∃ (m : List Nat) (c : Nat), e = .returned (.bool (decide (0 < c))) ∧ m.length = n ∧ Row32 w' G (pre ++ m ++ post) ∧ Only G w w' ∧ P m c

def AddAtIn (w : World) (G : Nat) (pre mid post ys : List Nat) (t : Nat) (s7 s13 : Value) (wr : World) : Prop :=
  ∃ (k c : Nat) (m : List Nat), s13 = .int .i64 (k : Int) ∧ s7 = .int .u64 (c : Int) ∧ k ≤ ys.length ∧ c < 4294967296 ∧ m.length = mid.length ∧ Row32 wr G (pre ++ m ++ post) ∧ Only G w wr ∧ nv m + 4294967296 ^ k * c = nv mid + t * nv (ys.take k)
def CarryAtIn (w : World) (G : Nat) (pre mid post ys : List Nat) (t : Nat) (s7 s10 : Value) (wr : World) : Prop :=
  ∃ (k c : Nat) (m : List Nat), s10 = .int .i64 (k : Int) ∧ s7 = .int .u64 (c : Int) ∧ k ≤ mid.length ∧ c < 4294967296 ∧ m.length = mid.length ∧ Row32 wr G (pre ++ m ++ post) ∧ Only G w wr ∧ nv m + 4294967296 ^ k * c = nv mid + t * nv ys

set_option maxHeartbeats 1000000 in
theorem nat_addTimes (G off cap t : Nat) (vb : Value) (pre mid post ys : List Nat) (w : World) (ho : pre.length = off) (hm : pre.length + mid.length ≤ 1000000) (h : Row32 w G (pre ++ mid ++ post)) (hb : Holds32 w vb ys) (ha : ys.length = 0 ∨ Apart G vb) (hl : ys.length ≤ mid.length) (ht : t < 4294967296) :
    Calls Try.prog 53 #[.slice (some ⟨G, off, none⟩) mid.length cap, vb, .int .u32 t] w (InPlace w G pre post mid.length (fun m c => nv m + 4294967296 ^ mid.length * c = nv mid + t * nv ys)) := by
  have hb9 := Lib.hid hb
  obtain ⟨_, bo, len, cap2, rfl, h2, h3, h4, h5⟩ := hb
  subst h2
  have hm1 : mid.length ≤ 1000000 := by omega
  have H := Lib.hid h
  have HA := Lib.hid ha
  have HO := Lib.hid ho
  clear h ha h5 h4 hm ho
  go_enter Try.func53, Try.ntmps53
  go_wp2_with fail
  go_loopw [7, 13] (fun s7 s13 wr => AddAtIn w G pre mid post ys t s7 s13 wr) (fun _ s13 _ => ys.length - (intOf s13).toNat)
  case atStart => exact ⟨0, 0, mid, rfl, rfl, Nat.zero_le _, by omega, rfl, H.out, Only.refl _ _, by simp [nv]⟩
  case round =>
    obtain ⟨k, c, m, rfl, rfl, hk, hc, hml, hR, hO, hI⟩ := hrel
    by_cases g1 : (k : Int) < (ys.length : Int)
    · have hkm : k < m.length := by omega
      have hB := hO.holds hb9.out HA.out
      obtain ⟨_, ao', len', cap', e1, e2, e3, e4, e5⟩ := hB
      cases e1
      rcases e5 with e5 | ⟨b, boff, rfl, h6, h7⟩
      · omega
      · have cy := h7 k (by omega)
        have hy := hb9.out.lt k
        have cx := hR.mid HO.out k hkm
        have hx := hR.midgetD k
        have fx := hR.free (off + k)
        have hN := fun d c2 e => add_next (c2 := c2) (d := d) hkm hI e
        obtain ⟨x, ex⟩ : ∃ x, x = m.getD k 0 := ⟨_, rfl⟩
        obtain ⟨y, ey⟩ : ∃ y, y = ys.getD k 0 := ⟨_, rfl⟩
        rw [← ex] at cx hx
        rw [← ey] at cy hy
        rw [← ex, ← ey] at hN
        have hp : y * t ≤ 4294967295 * 4294967295 := Nat.mul_le_mul (by omega) (by omega)
        have v1 : IntKind.u64.wrap ((y : Int) * (t : Int)) = ((y * t : Nat) : Int) := by rw [IntKind.wrap_u64, Int.natCast_mul]; rw [← Int.natCast_mul]; omega
        obtain ⟨p, ep⟩ : ∃ p, p = y * t := ⟨_, rfl⟩
        rw [← ep] at v1 hN hp
        obtain ⟨d, ed⟩ : ∃ d, d = (c + p + x) % 4294967296 := ⟨_, rfl⟩
        obtain ⟨c2, ec2⟩ : ∃ c2, c2 = (c + p + x) / 4294967296 := ⟨_, rfl⟩
        have f1 : ((c : Int) + ((p : Int) + (x : Int))) % 4294967296 = (d : Int) := by omega
        have f2 : ((c : Int) + ((p : Int) + (x : Int))) / 4294967296 = (c2 : Int) := by omega
        have hd : d < 4294967296 := by omega
        have hc2 : c2 < 4294967296 := by omega
        have HN := Lib.hid (hN d c2 (by omega))
        have HR := Lib.hid hR
        have HOO := Lib.hid hO
        have HML := Lib.hid hml
        have HKM := Lib.hid hkm
        clear hN hR hO hI hml hkm ex ey ep ed ec2 h7 e4
        go_wp2_with fail
        go_roundw
        case rel => exact ⟨k + 1, c2, m.set k d, by go_num, rfl, by omega, hc2, by rw [List.length_set]; exact HML.out, HR.out.midset HO.out k d HKM.out hd, HOO.out.set _ _, HN.out⟩
        case measure => simp [intOf]; omega
    · obtain rfl : k = ys.length := by omega
      rw [List.take_of_length_le (Nat.le_refl _)] at hI
      have HR := Lib.hid hR
      have HOO := Lib.hid hO
      have HML := Lib.hid hml
      have HI := Lib.hid hI
      clear hR hO hml hI
      go_wp2_with fail
      go_loopw [7, 10] (fun s7 s10 wr => CarryAtIn w G pre mid post ys t s7 s10 wr) (fun _ s10 _ => mid.length - (intOf s10).toNat)
      case atStart => exact ⟨ys.length, c, m, rfl, rfl, hl, hc, HML.out, HR.out, HOO.out, HI.out⟩
      case round =>
        clear HR HOO HML HI hc
        obtain ⟨k, c, m, rfl, rfl, hk, hc, hml, hR, hO, hI⟩ := hrel
        by_cases g2 : (k : Int) < (mid.length : Int)
        · by_cases g3 : (0 : Int) < (c : Int)
          · have hkm : k < m.length := by omega
            have cx := hR.mid HO.out k hkm
            have hx := hR.midgetD k
            have fx := hR.free (off + k)
            have hN := fun d c2 e => carry_next (c2 := c2) (d := d) hkm hI e
            obtain ⟨x, ex⟩ : ∃ x, x = m.getD k 0 := ⟨_, rfl⟩
            rw [← ex] at cx hx
            rw [← ex] at hN
            obtain ⟨d, ed⟩ : ∃ d, d = (c + x) % 4294967296 := ⟨_, rfl⟩
            obtain ⟨c2, ec2⟩ : ∃ c2, c2 = (c + x) / 4294967296 := ⟨_, rfl⟩
            have f1 : ((c : Int) + (x : Int)) % 4294967296 = (d : Int) := by omega
            have f2 : ((c : Int) + (x : Int)) / 4294967296 = (c2 : Int) := by omega
            have hd : d < 4294967296 := by omega
            have hc2 : c2 < 4294967296 := by omega
            have HN := Lib.hid (hN d c2 (by omega))
            have HR := Lib.hid hR
            have HOO := Lib.hid hO
            have HML := Lib.hid hml
            have HKM := Lib.hid hkm
            clear hN hR hO hI hml hkm ex ed ec2
            go_wp2_with fail
            go_roundw
            case rel => exact ⟨k + 1, c2, m.set k d, by go_num, rfl, by omega, hc2, by rw [List.length_set]; exact HML.out, HR.out.midset HO.out k d HKM.out hd, HOO.out.set _ _, HN.out⟩
            case measure => simp [intOf]; omega
          · obtain rfl : c = 0 := by omega
            have HR := Lib.hid hR
            have HOO := Lib.hid hO
            have HML := Lib.hid hml
            have HI := Lib.hid (show nv m + 4294967296 ^ mid.length * 0 = nv mid + t * nv ys by rw [Nat.mul_zero] at hI ⊢; exact hI)
            clear hR hO hml hI
            go_wp2_with fail
            go_ret
            exact ⟨m, 0, rfl, HML.out, HR.out, HOO.out, HI.out⟩
        · obtain rfl : k = mid.length := by omega
          have HR := Lib.hid hR
          have HOO := Lib.hid hO
          have HML := Lib.hid hml
          have HI := Lib.hid hI
          clear hR hO hml hI
          go_wp2_with fail
          go_ret
          exact ⟨m, c, by congr 2, HML.out, HR.out, HOO.out, HI.out⟩
end Go.Proofs.Ytachhphneamfhaa
