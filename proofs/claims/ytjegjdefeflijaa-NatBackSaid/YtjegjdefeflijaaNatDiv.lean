/- The contract of the document's own DivMod: bit by bit. -/
import Derived.Test.YtjegjdefeflijaaNatMul
set_option linter.unusedVariables false
set_option linter.unusedSimpArgs false
namespace Go.Proofs.Ytjegjdefeflijaa
open Go.RowKit Go.NatMath

/-- With j bits left: the rest so far, and the quotient so far. -/
def DivAt (A B j R Q : Nat) : Prop := R = A / 2 ^ j % B ∧ Q = 2 ^ j * (A / 2 ^ j / B)
theorem halves (A i : Nat) : A / 2 ^ i = 2 * (A / 2 ^ (i + 1)) + A / 2 ^ i % 2 := by
  rw [Nat.pow_succ, ← Nat.div_div_eq_div_mul]; omega
theorem div_yes {A B i R Q : Nat} (hB : 0 < B) (h : DivAt A B (i + 1) R Q) (hb : B ≤ 2 * R + A / 2 ^ i % 2) : DivAt A B i (2 * R + A / 2 ^ i % 2 - B) (Q + 2 ^ i) ∧ R < B := by
  obtain ⟨h1, h2⟩ := h
  have e := halves A i
  generalize A / 2 ^ (i + 1) = a at *
  have hbit : A / 2 ^ i % 2 < 2 := Nat.mod_lt _ (by omega)
  generalize A / 2 ^ i % 2 = b at *
  have hR : R < B := by rw [h1]; exact Nat.mod_lt _ hB
  have ha := Nat.div_add_mod a B
  rw [← h1] at ha
  have e2 : A / 2 ^ i = (2 * R + b - B) + B * (2 * (a / B) + 1) := by rw [e, Nat.mul_add, Nat.mul_left_comm]; omega
  refine ⟨⟨?_, ?_⟩, hR⟩
  · rw [e2, Nat.add_mul_mod_self_left, Nat.mod_eq_of_lt (by omega)]
  · rw [e2, Nat.add_mul_div_left _ _ hB, Nat.div_eq_of_lt (by omega), Nat.zero_add, Nat.mul_add, Nat.mul_one, h2, Nat.pow_succ, Nat.mul_assoc]
theorem div_no {A B i R Q : Nat} (hB : 0 < B) (h : DivAt A B (i + 1) R Q) (hb : ¬ B ≤ 2 * R + A / 2 ^ i % 2) : DivAt A B i (2 * R + A / 2 ^ i % 2) Q ∧ R < B := by
  obtain ⟨h1, h2⟩ := h
  have e := halves A i
  generalize A / 2 ^ (i + 1) = a at *
  generalize A / 2 ^ i % 2 = b at *
  have hR : R < B := by rw [h1]; exact Nat.mod_lt _ hB
  have ha := Nat.div_add_mod a B
  rw [← h1] at ha
  have e2 : A / 2 ^ i = (2 * R + b) + B * (2 * (a / B)) := by rw [e, Nat.mul_left_comm]; omega
  refine ⟨⟨?_, ?_⟩, hR⟩
  · rw [e2, Nat.add_mul_mod_self_left, Nat.mod_eq_of_lt (by omega)]
  · rw [e2, Nat.add_mul_div_left _ _ hB, Nat.div_eq_of_lt (by omega), Nat.zero_add, h2, Nat.pow_succ, Nat.mul_assoc]
theorem div_top {A B j : Nat} (h : A < 2 ^ j) : DivAt A B j 0 0 := by simp [DivAt, Nat.div_eq_of_lt h]
theorem div_bottom {A B R Q : Nat} (h : DivAt A B 0 R Q) : R = A % B ∧ Q = A / B := by simpa [DivAt] using h

theorem digit_of {xs : List Nat} (hx : ∀ x ∈ xs, x < 4294967296) (k : Nat) : nv xs / 4294967296 ^ k % 4294967296 = xs.getD k 0 := by
  induction k generalizing xs with
  | zero =>
    cases xs with
    | nil => simp [nv]
    | cons x xs => have := hx x (List.mem_cons_self ..); simp [nv]; omega
  | succ k ih =>
    cases xs with
    | nil => simp [nv]
    | cons x xs =>
      have h1 := hx x (List.mem_cons_self ..)
      have e : (x + 4294967296 * nv xs) / 4294967296 = nv xs := by omega
      rw [nv, Nat.pow_succ, Nat.mul_comm (4294967296 ^ k), ← Nat.div_div_eq_div_mul, e]
      exact ih (fun y hy => hx y (List.mem_cons_of_mem _ hy))
theorem pow_split (i : Nat) : 2 ^ i = 4294967296 ^ (i / 32) * 2 ^ (i % 32) := by
  rw [show 4294967296 = 2 ^ 32 from rfl, ← Nat.pow_mul, ← Nat.pow_add, Nat.div_add_mod]
theorem bit_at {xs : List Nat} (hx : ∀ x ∈ xs, x < 4294967296) (i : Nat) : nv xs / 2 ^ i % 2 = xs.getD (i / 32) 0 / 2 ^ (i % 32) % 2 := by
  have h := digit_of hx (i / 32)
  rw [pow_split, ← Nat.div_div_eq_div_mul]
  generalize nv xs / 4294967296 ^ (i / 32) = n at *
  have hr : i % 32 < 32 := Nat.mod_lt _ (by omega)
  generalize i % 32 = r at *
  generalize xs.getD (i / 32) 0 = x at *
  have e : n = 2 ^ r * (2 ^ (31 - r) * 2 * (n / 4294967296)) + x := by
    have e1 : 2 ^ r * (2 ^ (31 - r) * 2) = 4294967296 := by
      rw [← Nat.pow_succ, ← Nat.pow_add, show r + (31 - r).succ = 32 from by omega]
    rw [← Nat.mul_assoc, e1, ← h, Nat.div_add_mod]
  conv => lhs; rw [e]
  rw [Nat.mul_add_div (Nat.two_pow_pos r), Nat.mul_right_comm, Nat.mul_comm _ 2, Nat.mul_add_mod]
theorem or_bit {os : List Nat} (ho : ∀ x ∈ os, x < 4294967296) {i m : Nat} (hi : i / 32 < os.length) (h : nv os = 2 ^ (i + 1) * m) :
    os.getD (i / 32) 0 ||| 2 ^ (i % 32) = os.getD (i / 32) 0 + 2 ^ (i % 32) ∧ os.getD (i / 32) 0 + 2 ^ (i % 32) < 4294967296 ∧ nv (os.set (i / 32) (os.getD (i / 32) 0 + 2 ^ (i % 32))) = nv os + 2 ^ i := by
  have hd := digit_of ho (i / 32)
  have hs := nv_set (os := os) (i / 32) (os.getD (i / 32) 0 + 2 ^ (i % 32)) hi
  have hr : i % 32 < 32 := Nat.mod_lt _ (by omega)
  have e1 : nv os / 4294967296 ^ (i / 32) = 2 ^ (i % 32 + 1) * m := by
    rw [h, Nat.pow_succ, pow_split i, Nat.mul_assoc, Nat.mul_assoc, Nat.mul_div_cancel_left _ (Nat.pow_pos (by omega)), Nat.pow_succ, Nat.mul_assoc]
  rw [e1] at hd
  rw [Nat.mul_add, ← pow_split] at hs
  generalize i % 32 = r at *
  have e2 : 4294967296 = 2 ^ (r + 1) * 2 ^ (31 - r) := by rw [← Nat.pow_add, show r + 1 + (31 - r) = 32 from by omega]
  have e3 : os.getD (i / 32) 0 = 2 ^ (r + 1) * (m % 2 ^ (31 - r)) := by rw [← hd, e2, Nat.mul_mod_mul_left]
  have e4 : 2 ^ (r + 1) * (m % 2 ^ (31 - r)) + 2 ^ (r + 1) ≤ 4294967296 := by
    rw [e2, ← Nat.mul_succ]
    exact Nat.mul_le_mul_left _ (Nat.mod_lt _ (Nat.two_pow_pos _))
  have e5 : 2 ^ r < 2 ^ (r + 1) := Nat.pow_lt_pow_right (by omega) (by omega)
  refine ⟨?_, ?_, by omega⟩
  · rw [e3, ← Nat.two_pow_add_eq_or_of_lt e5]
  · rw [e3]; omega

theorem lo_len {n : Nat} {ys : List Nat} (hy : ∀ x ∈ ys, x < 4294967296) (h : n ≤ nv ys) : (lo n).length ≤ ys.length := len_le hy (rt_lo n) (by rw [nv_lo]; exact h)
theorem lo_len2 {n : Nat} {ys : List Nat} (hy : ∀ x ∈ ys, x < 4294967296) (h : n ≤ 2 * nv ys + 1) : (lo n).length ≤ ys.length + 1 := by
  have h2 := lo_len (n := n) (ys := 1 :: ys) (by intro x hx; rcases List.mem_cons.1 hx with e | e; omega; exact hy x e) (by rw [nv]; omega)
  simpa using h2
theorem lo_len1 (n : Nat) (h : n < 4294967296) : (lo n).length ≤ 1 := by
  have h2 := lo_len (n := n) (ys := [4294967295]) (by simp) (by simp [nv]; omega)
  simpa using h2
theorem u32_and1 (n : Int) : bits .and .u32 n 1 = n % 2 := by
  have h1 : (BitVec.ofInt 32 1).toNat = 2 ^ 1 - 1 := by decide
  have key : (BitVec.ofInt 32 n &&& BitVec.ofInt 32 1).toNat = (n % ((2 ^ 32 : Nat) : Int)).toNat % 2 ^ 1 := by
    rw [BitVec.toNat_and, BitVec.toNat_ofInt, h1, Nat.and_two_pow_sub_one_eq_mod]
  show IntKind.u32.wrap ((BitVec.ofInt 32 n &&& BitVec.ofInt 32 1).toNat : Nat) = n % 2
  rw [key, IntKind.wrap_u32]
  omega
theorem u32_bit (x j : Nat) : bits .and .u32 ((x : Int) / 2 ^ j) 1 = ((x / 2 ^ j % 2 : Nat) : Int) := by
  rw [u32_and1, Int.natCast_emod, Int.natCast_ediv, Int.natCast_pow]; rfl

theorem Row32.keeps {w w' : World} {G : Nat} {os : List Nat} (h : Row32 w G os) (k : Keeps w w') : Row32 w' G os := ⟨h.1, (Below.block k G h.size).trans h.2⟩
theorem u32_or_bit (o s : Nat) (hs : s < 32) (h : o ||| 2 ^ s = o + 2 ^ s) (hl : o + 2 ^ s < 4294967296) : bits .or .u32 (o : Int) ((2 : Int) ^ s % 4294967296) = ((o + 2 ^ s : Nat) : Int) := by
  have e : (2 : Int) ^ s % 4294967296 = ((2 ^ s : Nat) : Int) := by
    have : ((2 ^ s : Nat) : Int) = (2 : Int) ^ s := by simp
    have h0 := Nat.two_pow_pos s
    rw [← this]
    generalize 2 ^ s = z at *
    omega
  rw [e]
  have h1 : (BitVec.ofInt 32 (o : Int)).toNat = o := by
    rw [BitVec.ofInt_natCast, BitVec.toNat_ofNat]; exact Nat.mod_eq_of_lt (by omega)
  have h2 : (BitVec.ofInt 32 ((2 ^ s : Nat) : Int)).toNat = 2 ^ s := by
    rw [BitVec.ofInt_natCast, BitVec.toNat_ofNat]; exact Nat.mod_eq_of_lt (by omega)
  show IntKind.u32.wrap ((BitVec.ofInt 32 (o : Int) ||| BitVec.ofInt 32 ((2 ^ s : Nat) : Int)).toNat : Int) = _
  rw [BitVec.toNat_or, h1, h2, h, IntKind.wrap_u32]
  omega

/-- v does not lead to block G. -/
def Apart (G : Nat) (v : Value) : Prop := ∀ b off l c, v = .slice (some ⟨b, off, none⟩) l c → b ≠ G
theorem Fresh.apart {w : World} {G : Nat} {v : Value} (h : Fresh w v) (hG : G < w.heap.size) : Apart G v := fun b off l c e => by have := h b off l c e; omega
theorem Holds32.set {w : World} {v : Value} {xs : List Nat} {G i : Nat} {u : Value} (h : Holds32 w v xs) (ha : Apart G v) : Holds32 (w.setCell ⟨G, i, none⟩ u) v xs := by
  obtain ⟨h1, ao, len, cap, rfl, h3, h4, h5, h6⟩ := h
  refine ⟨h1, ao, len, cap, rfl, h3, h4, h5, ?_⟩
  rcases h6 with h6 | ⟨b, off, h7, h8, h9⟩
  · exact Or.inl h6
  · subst h7
    have hne := ha b off len cap rfl
    refine Or.inr ⟨b, off, rfl, by simpa [World.setCell] using h8, fun j hj => ?_⟩
    rw [← h9 j hj]
    have e : (w.setCell ⟨G, i, none⟩ u).heap[b]? = w.heap[b]? := Below.heap_setCell _ _ _ _ hne
    simp only [World.cell?, e]

/-- A call gives two slices of these digits, and this bool. -/
def Gives3 (w : World) (qs rs : List Nat) (b : Bool) (e : Ending) (w' : World) : Prop := ∃ q r, e = .returned (.tuple #[q, r, .bool b]) ∧ Holds32 w' q qs ∧ Holds32 w' r rs ∧ Keeps w w' ∧ Fresh w q ∧ Fresh w r

set_option maxHeartbeats 1000000 in
set_option maxRecDepth 100000 in
theorem ref_divmod_in (va vb : Value) (xs0 ys0 : List Nat) (lx : xs0.length ≤ 10000) (ly : ys0.length ≤ 10000) (hB : 0 < tv ys0) (w : World) (ha : Holds32 w va xs0) (hb : Holds32 w vb ys0) :
    Calls Try.prog 14 #[va, vb] w (Gives3 w (lo (tv xs0 / tv ys0)) (lo (tv xs0 % tv ys0)) true) := by
  obtain ⟨ao, cap, xs, T1, H1, n1, _, l1⟩ := ref_taken_as va xs0 w ha
  obtain ⟨bo, cap2, ys, T2, H2, n2, r2, l2⟩ := ref_taken_as vb ys0 w hb
  rw [← n1, ← n2]
  rw [← n2] at hB
  have lx1 : xs.length ≤ 10000 := by omega
  have ly1 : ys.length ≤ 10000 := by omega
  have y0 : ((ys.length : Int) == 0) = false := by
    have : ys.length ≠ 0 := by intro e; rw [List.eq_nil_of_length_eq_zero e] at hB; exact absurd hB (by decide)
    simp; intro e; exact this (by rw [e]; rfl)
  have hmk := run_make_row' (P := Try.prog) 22 41 (.int .u32 0) 4 Try.underlying22 info32 rfl .i64 .i64 xs.length (by omega) (by omega)
  have HH1 := Lib.hid H1
  have HH2 := Lib.hid H2
  have HB := Lib.hid hB
  have R2 := Lib.hid r2
  clear ha hb n1 n2 H1 H2 l1 l2 lx ly hB r2
  go_enter Try.func14, Try.ntmps14
  go_upto_block 0 with (first
    | (go_at_call 38; (with_reducible refine T1.mono ?_); rintro e w' ⟨rfl, rfl⟩)
    | (go_at_call 38; (with_reducible refine T2.mono ?_); rintro e w' ⟨rfl, rfl⟩))
  clear T1 T2
  have hR := row_made w xs.length
  have hK := (Keeps.refl w).alloc (.cells (madeCells #[.int .u32 0] xs.length) 41)
  generalize w.alloc (.cells (madeCells #[.int .u32 0] xs.length) 41) = w0 at hR hK ⊢
  clear hmk
  go_wp2_with fail
  go_loopw [10, 11] (fun sr si wr => ∃ (j R : Nat) (os : List Nat), si = .int .i64 ((j : Int) - 1) ∧ j ≤ 32 * xs.length ∧ Row32 wr w.heap.size os ∧ Keeps w wr ∧ os.length = xs.length ∧ Holds32 wr sr (lo R) ∧ Apart w.heap.size sr ∧ DivAt (nv xs) (nv ys) j R (nv os) ∧ R < nv ys) (fun _ si _ => (intOf si + 1).toNat)
  case atStart => exact ⟨32 * xs.length, 0, _, by congr 1, Nat.le_refl _, hR, hK, by simp, (by rw [lo_zero]; exact Holds32.nil _), (fun b off l c e => by cases e), by rw [nv_zeros]; exact div_top (by have := nv_lt HH1.out.1; rw [Nat.pow_mul]; exact this), HB.out⟩
  case round =>
    clear hR hK w0
    obtain ⟨j, R, os, rfl, hj, hR, hK, hl, hr, hp, hD, hlt⟩ := hrel
    by_cases g : (1 : Int) ≤ (j : Int)
    · obtain ⟨i, rfl⟩ : ∃ i, j = i + 1 := ⟨j - 1, by omega⟩
      have iq : i / 32 < xs.length := by omega
      obtain ⟨h1, ao', len', cap', e1, e2, e3, e4, e5⟩ := HH1.out
      cases e1
      rcases e5 with e5 | ⟨b, off, rfl, h6, h7⟩
      · omega
      · have cx := (hK.cell h6).trans (h7 (i / 32) iq)
        have hbit := bit_at h1 i
        have hx := HH1.out.lt (i / 32)
        obtain ⟨x, ex⟩ : ∃ x, x = xs.getD (i / 32) 0 := ⟨_, rfl⟩
        rw [← ex] at cx hbit hx
        have e0 : ((i + 1 : Nat) : Int) - 1 = (i : Int) := by omega
        have i0 : (0 : Int) ≤ (i : Int) := by omega
        have HIQ : (i : Int) / 32 < (xs.length : Int) := by omega
        obtain ⟨q, eq⟩ : ∃ q, q = i / 32 := ⟨_, rfl⟩
        obtain ⟨s, es⟩ : ∃ s, s = i % 32 := ⟨_, rfl⟩
        have f1 : (i : Int) / 32 = (q : Int) := by omega
        have f2 : (i : Int) % 32 = (s : Int) := by omega
        have s1 : s < 32 := by omega
        rw [← eq] at cx
        have HR := Lib.hid hR
        have HK := Lib.hid hK
        have HL := Lib.hid hl
        have HRR := Lib.hid hr
        have HP := Lib.hid hp
        have HD := Lib.hid hD
        have HBIT := Lib.hid hbit
        have ES := Lib.hid es
        have EQ := Lib.hid eq
        clear hR hK hl hr hp hD hbit h7 h1 ex es eq
        obtain ⟨bt, ebt⟩ : ∃ bt, bt = x / 2 ^ s % 2 := ⟨_, rfl⟩
        have hbt : bt ≤ 1 := by have : x / 2 ^ s % 2 < 2 := Nat.mod_lt _ (by omega); omega
        have hbt2 : bt < 18446744073709551616 := by omega
        have f3 : bits .and .u32 ((x : Int) / 2 ^ s) 1 = (bt : Int) := by rw [ebt]; exact u32_bit x s
        have HB2 := Lib.hid (show bt = nv xs / 2 ^ i % 2 from by rw [HBIT.out, ebt, ES.out])
        have l0 := lo_len (n := R) HH2.out.1 (by omega)
        have l1 : (lo bt).length ≤ 100000 := by have := lo_len1 bt (by omega); omega
        have l2 := lo_len2 (n := R + R) HH2.out.1 (by omega)
        have l3 := lo_len2 (n := R + R + bt) HH2.out.1 (by omega)
        have A1 := ref_add _ _ (lo R) (lo R) (by omega) (by omega) wr HRR.out HRR.out
        rw [tv_lo] at A1
        have l2 : (lo (R + R)).length ≤ 100000 := by omega
        clear ebt
        go_upto_region 12 with (first
            | (go_at_call 27; (with_reducible refine A1.mono ?_); rintro e wa ⟨v1, rfl, hv1, hk1, hf1⟩)
            | (go_at_call 23; (with_reducible refine (ref_of bt hbt2 _).mono ?_); rintro e wb ⟨v2, rfl, hv2, hk2, hf2⟩)
            | (go_at_call 27; (with_reducible refine (ref_add v1 v2 (lo (R + R)) (lo bt) l2 l1 _ (hv1.keeps hk2) hv2).mono ?_); rintro e wc ⟨v3, rfl, hv3, hk3, hf3⟩))
        rw [tv_lo, tv_lo] at hv3
        have kc := (hk1.trans hk2).trans hk3
        have hRc := HR.out.keeps kc
        have hKc := HK.out.trans kc
        have pc := hf3.apart (G := w.heap.size) (by have := HR.out.size; have := (hk1.trans hk2).size; omega)
        have C := ref_cmp _ _ (lo (R + R + bt)) ys wc hv3 (HH2.out.keeps hKc)
        rw [tv_lo, show tv ys = nv ys from if_pos R2.out] at C
        have e2R : 2 * R + nv xs / 2 ^ i % 2 = R + R + bt := by rw [← HB2.out]; omega
        have HRc := Lib.hid hRc
        have HKc := Lib.hid hKc
        have HV3 := Lib.hid hv3
        have HPc := Lib.hid pc
        have E2R := Lib.hid e2R
        clear hv1 hv2 hv3 hk1 hk2 hk3 hf1 hf2 hf3 kc hRc hKc pc A1 e2R HR HK HRR HP
        by_cases hge : nv ys ≤ R + R + bt
        · have hcv := cmp_not hge
          generalize cmpN (R + R + bt) (nv ys) = cv at C hcv
          have S := ref_sub _ _ (lo (R + R + bt)) ys (by omega) wc HV3.out (HH2.out.keeps HKc.out)
          rw [tv_lo, show tv ys = nv ys from if_pos R2.out, if_pos hge, show decide (nv ys ≤ R + R + bt) = true from decide_eq_true hge] at S
          obtain ⟨hD2, hRlt⟩ := div_yes HB.out HD.out (by rw [E2R.out]; exact hge)
          rw [E2R.out] at hD2
          have hlt2 : R + R + bt - nv ys < nv ys := by omega
          have hiq2 : i / 32 < os.length := by rw [HL.out]; exact iq
          obtain ⟨o1, o2, o3⟩ := or_bit HRc.out.1 hiq2 HD.out.2
          rw [← o3] at hD2
          have HD2 := Lib.hid hD2
          clear hD2 o3 hge
          rw [← EQ.out, ← ES.out] at o1 o2
          go_upto_region 15 with (first
            | (go_at_call 25; (with_reducible refine C.mono ?_); rintro e w' ⟨rfl, rfl⟩)
            | (go_at_call 12; (with_reducible refine S.mono ?_); rintro e wd ⟨v4, rfl, hv4, hk4, hf4⟩))
          have hRd := HRc.out.keeps hk4
          have hq : q < os.length := by rw [HL.out, EQ.out]; exact iq
          have hce := hRd.cell q hq
          have hfr := hRd.free q
          obtain ⟨o, eo⟩ : ∃ o, o = os.getD q 0 := ⟨_, rfl⟩
          rw [← eo] at hce o1 o2
          have HRd := Lib.hid hRd
          have HKd := Lib.hid (HKc.out.trans hk4)
          have HV4 := Lib.hid hv4
          have HPd := Lib.hid (hf4.apart (G := w.heap.size) HRc.out.size)
          have O1 := Lib.hid o1
          have EO := Lib.hid eo
          have hq2 : (q : Int) < (xs.length : Int) := by have := HL.out; omega
          clear hRd hk4 hv4 hf4 C S o1 eo hq
          go_wp2_with fail
          go_roundw
          case rel =>
            have hd := HD2.out
            rw [← EQ.out, ← ES.out, ← EO.out] at hd
            rw [u32_or_bit o s s1 O1.out o2]
            exact ⟨i, R + R + bt - nv ys, os.set q (o + 2 ^ s), rfl, by omega, HRd.out.set q _ o2, keeps_set HKd.out (Nat.le_refl _), by rw [List.length_set]; exact HL.out, HV4.out.set HPd.out, HPd.out, hd, hlt2⟩
          case measure => simp [intOf]
        · have hcv := cmp_neg (show R + R + bt < nv ys by omega)
          rw [hcv] at C
          obtain ⟨hD2, hRlt⟩ := div_no HB.out HD.out (by rw [E2R.out]; exact hge)
          rw [E2R.out] at hD2
          have HD2 := Lib.hid hD2
          have hlt2 : R + R + bt < nv ys := by omega
          clear hD2 hge hcv
          go_wp2_with (first
            | (go_at_call 25; (with_reducible refine C.mono ?_); rintro e w' ⟨rfl, rfl⟩))
          go_roundw
          case rel => exact ⟨i, R + R + bt, os, rfl, by omega, HRc.out, HKc.out, HL.out, HV3.out, HPc.out, HD2.out, hlt2⟩
          case measure => simp [intOf]
    · obtain rfl : j = 0 := by omega
      obtain ⟨e1, e2⟩ := div_bottom hD
      have L1 := ref_low _ os (by omega) wr (hR.holds xs.length hl (by omega))
      rw [e2] at L1
      have l0 := lo_len (n := R) HH2.out.1 (by omega)
      have L2 := fun wq (k : Keeps wr wq) => ref_low u10 (lo R) (by omega) wq (hr.keeps k)
      rw [nv_lo, e1] at L2
      have HK := Lib.hid hK
      clear hR hK hl hr hp hD hlt e1 e2 hj l0
      go_wp2_with (first
        | (go_at_call 40; (with_reducible refine L1.mono ?_); rintro e wa ⟨v1, rfl, hv1, hk1, hf1⟩)
        | (go_at_call 40; (with_reducible refine (L2 _ hk1).mono ?_); rintro e wb ⟨v2, rfl, hv2, hk2, hf2⟩))
      have V1 := Lib.hid (hv1.keeps hk2)
      have V2 := Lib.hid hv2
      have KK := Lib.hid ((HK.out.trans hk1).trans hk2)
      have F1 := Lib.hid (hf1.later HK.out)
      have F2 := Lib.hid (hf2.later (HK.out.trans hk1))
      clear hv1 hv2 hk1 hk2 hf1 hf2 L1 L2
      go_wp2_with fail
      go_ret3
      exact ⟨v1, v2, rfl, V1.out, V2.out, KK.out, F1.out, F2.out⟩
end Go.Proofs.Ytjegjdefeflijaa
