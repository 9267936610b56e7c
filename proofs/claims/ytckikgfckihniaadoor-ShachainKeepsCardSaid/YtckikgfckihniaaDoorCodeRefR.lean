/- The document's own reader. -/
import Derived.Test.YtckikgfckihniaaDoorCodeRef
import Derived.Test.YtckikgfckihniaaDoorRowN
import Derived.Test.YtckikgfckihniaaDoorRowCut
set_option linter.unusedVariables false
set_option linter.unusedSimpArgs false
set_option maxRecDepth 10000
namespace Go.Proofs.YtckikgfckihniaaDoor
open Go.RowKit Go.HashMath Go.CodeMath

section
variable {S T : Nat → Prop} {w w' : World} {g : Nat} {sv : Value} {s : St}
theorem RdC.cell0 (h : RdC S w g sv s) : w.cell? ⟨g, 0, none⟩ = some sv := by simp [World.cell?, h.2.1]
theorem RdC.cell1 (h : RdC S w g sv s) : w.cell? ⟨g, 1, none⟩ = some (.bool (!s.isSome)) := by simp [World.cell?, h.2.1]
theorem RdC.free (h : RdC S w g sv s) (i : Nat) : w.frozen? ⟨g, i, none⟩ = false := by simp [World.frozen?, h.2.1]
theorem RdC.lasts (h : RdC S w g sv s) (k : Mut T w w') (hd : ∀ i, S i → ¬ T i) : RdC S w' g sv s := by
  obtain ⟨h1, h2, h3, h4, h5⟩ := h
  exact ⟨h1, (k.block g (lt_of_block h2) (hd g h1)).trans h2, k.holds8 h3 (Or.inr fun b off l c e => hd b (h4 _ l c e).1), h4, fun i hi => Nat.lt_of_lt_of_le (h5 i hi) k.size⟩
theorem RdC.keeps (h : RdC S w g sv s) (k : Keeps w w') : RdC S w' g sv s := h.lasts (Mut.of k fun _ => False) (fun _ _ q => q)
theorem RdC.put {xs ys : List Nat} {v1 : Value} (h : RdC S w g sv (some xs)) (hv : Holds8 w v1 ys) (ho : ∀ a l c, v1 = .slice (some a) l c → S a.block ∧ a.block ≠ g) : RdC S (w.setCell ⟨g, 0, none⟩ v1) g v1 (some ys) ∧ Mut S w (w.setCell ⟨g, 0, none⟩ v1) := by
  have hW : Wrt g w (w.setCell ⟨g, 0, none⟩ v1) := (Wrt.refl g w).set 0 v1
  refine ⟨⟨h.1, ?_, hW.holds8 hv fun b off l c e => (ho _ l c e).2, ho, fun i hi => Nat.lt_of_lt_of_le (h.2.2.2.2 i hi) hW.size⟩, Mut.wrt hW h.1⟩
  simp [World.setCell, Array.getElem?_modify, h.2.1]
/-- Behind a failure. -/
theorem RdC.failed (h : RdC S w g sv s) (hW : Wrt g w w') (hc : w'.heap[g]? = some (.cells #[.slice none 0 0, .bool true] 92 (0, 0))) : RdC S w' g (.slice none 0 0) none ∧ Mut S w w' :=
  ⟨⟨h.1, hc, Holds8.nil w', (fun a l c e => by cases e), fun i hi => Nat.lt_of_lt_of_le (h.2.2.2.2 i hi) hW.size⟩, Mut.wrt hW h.1⟩
theorem numO_left (s : St) : numO s = readN 9 0 1 (leftO s) := by
  cases s with
  | none => rfl
  | some xs => rfl
end
theorem ref8_fail (g : Nat) (sv : Value) (b : Bool) (w : World) (h : w.heap[g]? = some (.cells #[sv, .bool b] 92 (0, 0))) :
    Calls Tryd.prog 65 #[.pointer (some ⟨g, 0, none⟩)] w (fun e w' => e = .returned (.tuple #[]) ∧ w'.heap[g]? = some (.cells #[.slice none 0 0, .bool true] 92 (0, 0)) ∧ Wrt g w w') := by
  have HH := Lib.hid h
  have c0 : w.cell? ⟨g, 0, none⟩ = some sv := by simp [World.cell?, h]
  have c1 : w.cell? ⟨g, 1, none⟩ = some (.bool b) := by simp [World.cell?, h]
  have f0 : w.frozen? ⟨g, 0, none⟩ = false := by simp [World.frozen?, h]
  have f1 : w.frozen? ⟨g, 1, none⟩ = false := by simp [World.frozen?, h]
  clear h
  go_enter Tryd.func65, Tryd.ntmps65
  go_wp2_with fail
  go_end0
  refine ⟨rfl, ?_, ((Wrt.refl g w).set 1 _).set 0 _⟩
  simp [World.setCell, Array.getElem?_modify, HH.out]
/-- Digits that are read: so many, what they are, what the next one counts. -/
def NumAt (W : World) (xs : List Nat) (sn sb si : Value) (wr : World) : Prop := ∃ (i n : Nat) (m : Int), i ≤ 9 ∧ i ≤ xs.length ∧ sn = .int .i64 (n : Int) ∧ sb = .int .i64 m ∧ si = .int .i64 (i : Int) ∧ (i < 9 → m = ((128 ^ i : Nat) : Int)) ∧ n < 128 ^ i ∧ readN (9 - i) n (128 ^ i) (xs.drop i) = readN 9 0 1 xs ∧ W = wr
theorem readN_at {xs : List Nat} {i n : Nat} (hi : i < 9) (hl : i < xs.length) : readN (9 - i) n (128 ^ i) (xs.drop i) = if xs.getD i 0 = 0 ∧ 0 < i then none else if xs.getD i 0 < 128 then some (n + xs.getD i 0 % 128 * 128 ^ i, xs.drop (i + 1)) else readN (9 - (i + 1)) (n + xs.getD i 0 % 128 * 128 ^ i) (128 ^ (i + 1)) (xs.drop (i + 1)) := by
  rw [List.drop_eq_getElem_cons hl, show 9 - i = (9 - (i + 1)) + 1 by omega, readN, show xs[i] = xs.getD i 0 by simp [List.getD, hl], Nat.pow_succ, Nat.mul_comm 128]
  have e : (9 - (i + 1) < 8) = (0 < i) := by apply propext; omega
  simp only [e]
theorem pow128 {i : Nat} (hi : i < 9) : 128 ^ i ≤ 72057594037927936 ∧ 0 < 128 ^ i :=
  ⟨Nat.le_trans (Nat.pow_le_pow_right (by decide) (by omega : i ≤ 8)) (by decide), Nat.pow_pos (by decide)⟩
theorem pow128' {i : Nat} (hi : i + 1 < 9) : 128 ^ i ≤ 562949953421312 := Nat.le_trans (Nat.pow_le_pow_right (by decide) (by omega : i ≤ 7)) (by decide)
theorem dig_le {d m n : Nat} (hn : n < m) : n + d % 128 * m < m * 128 := by
  have h1 : d % 128 ≤ 127 := by omega
  have h2 : d % 128 * m ≤ 127 * m := Nat.mul_le_mul_right m h1
  omega
set_option maxHeartbeats 2000000 in
set_option maxRecDepth 100000 in
theorem ref8_num (S : Nat → Prop) (g : Nat) (sv : Value) (s : St) (w : World) (h : RdC S w g sv s) :
    Calls Tryd.prog 44 #[.pointer (some ⟨g, 0, none⟩)] w (fun e w' => e = .returned (.int .i64 (natO (numO s) : Int)) ∧ (∃ sv', RdC S w' g sv' (restO (numO s))) ∧ Mut S w w') := by
  have HH := Lib.hid h
  have c0 := h.cell0
  have f0 := h.free 0
  have hx := h.2.2.1.1
  obtain ⟨_, ao, len, cap, rfl, hlen, hlc, hcm, hcell⟩ := h.2.2.1
  rw [numO_left]
  have HS := Lib.hid (show ∀ ys, leftO s = ys → 0 < ys.length → s = some ys from fun ys e hp => by
    cases s with
    | none => subst e; cases hp
    | some zs => rw [← e]; rfl)
  obtain ⟨xs, exs⟩ : ∃ xs, xs = leftO s := ⟨_, rfl⟩
  rw [← exs] at hlen hcell hx ⊢
  have EXS := Lib.hid exs
  have FL := Lib.hid (ref8_fail g _ _ w h.2.1)
  subst hlen
  have hmx : xs.length ≤ 9223372036854775807 := by have := hcm.1; unfold maxLen at this; omega
  clear h exs
  go_enter Tryd.func44, Tryd.ntmps44
  go_wp2_with fail
  go_loopw [3, 4, 5] (fun sn sb si wr => NumAt w xs sn sb si wr) (fun _ _ si _ => 9 - (intOf si).toNat)
  case atStart => exact ⟨0, 0, 1, by omega, by omega, rfl, rfl, rfl, fun _ => rfl, by decide, rfl, rfl⟩
  case round =>
    obtain ⟨i, n, m, hi, hil, rfl, rfl, rfl, hm, hn, hr, rfl⟩ := hrel
    have i0 : (0 : Int) ≤ (i : Int) := by omega
    have i9 : (i : Int) ≤ 9 := by omega
    by_cases g1 : i < xs.length
    · by_cases g2 : i < 9
      · obtain ⟨b, off, rfl, hbs, hcell⟩ : ∃ b off, ao = some ⟨b, off, none⟩ ∧ b < w.heap.size ∧ ∀ i, i < xs.length → w.cell? ⟨b, off + i, none⟩ = some (.int .u8 ((xs.getD i 0 : Nat) : Int)) := by
          rcases hcell with h | h
          · omega
          · exact h
        have cl := hcell i g1
        have hd : xs.getD i 0 < 256 := HH.out.2.2.1.lt i |> fun q => by rw [← EXS.out] at q; exact q
        rw [readN_at g2 g1] at hr
        have P8 := pow128 g2
        obtain rfl := hm g2
        have DL := dig_le (d := xs.getD i 0) hn
        generalize xs.getD i 0 = d at *
        obtain ⟨p, ep⟩ : ∃ p, p = 128 ^ i := ⟨_, rfl⟩
        rw [← ep] at hn hr P8 DL
        have hp2 : ((128 ^ i : Nat) : Int) = (p : Int) := by rw [ep]
        rw [hp2]
        obtain ⟨q, eq⟩ : ∃ q, q = d % 128 := ⟨_, rfl⟩
        rw [← eq] at hr DL
        have hq : q ≤ 127 := by omega
        obtain ⟨qp, eqp⟩ : ∃ x, x = q * p := ⟨_, rfl⟩
        rw [← eqp] at hr DL
        have hqp : qp ≤ 127 * p := by rw [eqp]; exact Nat.mul_le_mul_right p hq
        have d0 : (0 : Int) ≤ (d : Int) := by omega
        have d1 : (d : Int) ≤ 255 := by omega
        have t1 : IntKind.i64.wrap (d : Int) = (d : Int) := IntWalk.i64_in _ (by omega)
        have t2 : (d : Int) % 128 = (q : Int) := by omega
        have t3 : (q : Int) * (p : Int) = (qp : Int) := by rw [eqp, Int.natCast_mul]
        have p0 : (0 : Int) ≤ (p : Int) := by omega
        have p1 : (p : Int) ≤ 72057594037927936 := by omega
        have q0 : (0 : Int) ≤ (qp : Int) := by omega
        have q1 : (qp : Int) ≤ 9151314442816847872 := by omega
        have n0 : (0 : Int) ≤ (n : Int) := by omega
        have n1 : (n : Int) ≤ 72057594037927935 := by omega
        have b1 : (i : Int) < (xs.length : Int) := by omega
        have b2 : (i : Int) < 9 := by omega
        have l1 : (xs.length : Int) ≤ 9223372036854775807 := by omega
        have HR := Lib.hid hr
        have EP := Lib.hid ep
        have FR := Lib.hid (show n + qp < p * 128 from DL)
        have GB := Lib.hid (show i < 9 ∧ i < xs.length from ⟨g2, g1⟩)
        have CUT := fun W => run_cutFrom (P := Tryd.prog) (ao := some ⟨b, off, none⟩) (len := xs.length) (cap := cap) Tryd.underlying25 elem8s siz8s (i + 1) g1 W
        have CE : ((i + 1 : Nat) : Int) = (i : Int) + 1 := by omega
        rw [CE] at CUT
        obtain ⟨va, vn, vc, ev1⟩ : ∃ va vn vc, Value.slice va vn vc = sliced (some ⟨b, off, none⟩) (i + 1) xs.length cap 1 := ⟨_, _, _, rfl⟩
        rw [← ev1] at CUT
        have EV := Lib.hid ev1
        by_cases g3 : d = 0 ∧ 0 < i
        · obtain ⟨rfl, g3⟩ := g3
          have g4 : (0 : Int) < (i : Int) := by omega
          have g5 : decide (0 < i) = true := decide_eq_true g3
          rw [if_pos ⟨rfl, g3⟩] at HR
          clear hn hr P8 DL hp2 hqp hq eqp ep ev1 CE hcm hmx hlc hil hi hm hd eq CUT hcell t2 t3
          go_wp2_with (go_at_call 65; (with_reducible refine FL.out.mono ?_); rintro e w' ⟨rfl, hc, hw⟩)
          go_ret
          rw [← HR.out]
          exact ⟨rfl, ⟨_, (HH.out.failed hw hc).1⟩, (HH.out.failed hw hc).2⟩
        · rw [if_neg g3] at HR
          have hc : (d = 0 ∧ i = 0) ∨ (0 < d ∧ d < 128) ∨ 128 ≤ d := by omega
          rcases hc with ⟨hd0, hi0⟩ | ⟨hd0, hd1⟩ | hd0
          · have u1 : ((d : Int) == 0) = true := by rw [beq_iff_eq]; omega
            have u2 : ¬ (0 : Int) < (i : Int) := by omega
            have u3 : decide (0 < i) = false := decide_eq_false (by omega)
            have u4 : (d : Int) < 128 := by omega
            rw [if_pos (by omega)] at HR
            clear hn hr P8 DL hp2 hqp hq eqp ep ev1 CE hcm hmx hlc hil hi hm hd eq hcell g3 hd0 hi0
            go_wp2_with fail
            go_ret
            rw [← HR.out]
            have HA := HH.out
            rw [HS.out xs EXS.out.symm (by have := GB.out; omega)] at HA
            have HP := RdC.put HA (v1 := .slice va vn vc) (ys := xs.drop (i + 1)) (by rw [EV.out]; have := HA.2.2.1; exact this.cutFrom (i + 1) (by have := GB.out; omega)) (fun a l c e => by rw [EV.out] at e; obtain ⟨y, ey, eb⟩ := sliced_at e; have := HA.2.2.2.1 y _ _ (by rw [ey]); rw [eb] at this; exact this)
            exact ⟨congrArg (fun z => Ending.returned (.int .i64 z)) (Int.natCast_add n qp).symm, ⟨_, HP.1⟩, HP.2⟩
          · have u1 : ((d : Int) == 0) = false := by rw [beq_eq_false_iff_ne]; omega
            have u4 : (d : Int) < 128 := by omega
            rw [if_pos hd1] at HR
            clear hn hr P8 DL hp2 hqp hq eqp ep ev1 CE hcm hmx hlc hil hi hm hd eq hcell g3 hd0 hd1
            go_wp2_with fail
            go_ret
            rw [← HR.out]
            have HA := HH.out
            rw [HS.out xs EXS.out.symm (by have := GB.out; omega)] at HA
            have HP := RdC.put HA (v1 := .slice va vn vc) (ys := xs.drop (i + 1)) (by rw [EV.out]; have := HA.2.2.1; exact this.cutFrom (i + 1) (by have := GB.out; omega)) (fun a l c e => by rw [EV.out] at e; obtain ⟨y, ey, eb⟩ := sliced_at e; have := HA.2.2.2.1 y _ _ (by rw [ey]); rw [eb] at this; exact this)
            exact ⟨congrArg (fun z => Ending.returned (.int .i64 z)) (Int.natCast_add n qp).symm, ⟨_, HP.1⟩, HP.2⟩
          · have u1 : ((d : Int) == 0) = false := by rw [beq_eq_false_iff_ne]; omega
            have u4 : ¬ (d : Int) < 128 := by omega
            rw [if_neg (by omega)] at HR
            clear hn hr P8 DL hp2 hqp hq eqp ep ev1 CE hcm hmx hlc hil hi hm hd eq hcell g3 hd0 CUT
            go_wp2_with fail
            go_roundw
            case rel => exact ⟨i + 1, n + qp, _, by have := GB.out; omega, by have := GB.out; omega, by rw [Int.natCast_add], rfl, by go_num, fun h => by have := pow128' h; rw [← EP.out] at this; (first | rw [IntWalk.wrap64_in _ (by omega)] | rw [IntWalk.i64_in _ (by omega)] | skip); rw [Nat.pow_succ, ← EP.out]; omega, by rw [Nat.pow_succ, ← EP.out]; exact FR.out, HR.out, rfl⟩
            case measure => have := GB.out; simp [intOf] <;> omega
      · have u1 : ¬ (i : Int) < 9 := by omega
        have b1 : (i : Int) < (xs.length : Int) := by omega
        have hr : readN 9 0 1 xs = none := by rw [← hr, show 9 - i = 0 by omega, readN]
        have HR := Lib.hid hr
        clear hr hm hn hcell hcm hlc hil hi hmx
        go_wp2_with (go_at_call 65; (with_reducible refine FL.out.mono ?_); rintro e w' ⟨rfl, hc, hw⟩)
        go_ret
        rw [HR.out]
        exact ⟨rfl, ⟨_, (HH.out.failed hw hc).1⟩, (HH.out.failed hw hc).2⟩
    · have b1 : ¬ (i : Int) < (xs.length : Int) := by omega
      have hr : readN 9 0 1 xs = none := by rw [← hr, List.drop_of_length_le (by omega), readN_nil]
      have HR := Lib.hid hr
      clear hr hm hn hcell hcm hlc hil hi hmx
      go_wp2_with (go_at_call 65; (with_reducible refine FL.out.mono ?_); rintro e w' ⟨rfl, hc, hw⟩)
      go_ret
      rw [HR.out]
      exact ⟨rfl, ⟨_, (HH.out.failed hw hc).1⟩, (HH.out.failed hw hc).2⟩
theorem own8_none (w : World) (B : Nat) : Own8 w B (.slice none 0 0) [] := own8_nil w B
theorem takeO_some {n : Nat} {xs : List Nat} (h : n ≤ xs.length) : takeO n (some xs) = some (xs.take n, xs.drop n) := if_pos h
theorem takeO_none {n : Nat} {xs : List Nat} (h : ¬ n ≤ xs.length) : takeO n (some xs) = none := if_neg h
/-- A row of the call's own lasts where another block is written. -/
theorem Own8.set_other {w : World} {B g i : Nat} {v u : Value} {xs : List Nat} (h : Own8 w B v xs) (hg : g < B) : Own8 (w.setCell ⟨g, i, none⟩ u) B v xs := by
  obtain ⟨⟨h1, h2⟩, h3⟩ := h
  refine ⟨⟨h1, ?_⟩, h3⟩
  rcases h2 with h2 | ⟨q, cap, cur, e, hq, hr, ht⟩
  · exact Or.inl h2
  · refine Or.inr ⟨q, cap, cur, e, hq, ?_, ht⟩
    have : q ≠ g := by omega
    simp [World.setCell, Array.getElem?_modify, Ne.symm this, hr]
set_option maxHeartbeats 1000000 in
set_option maxRecDepth 100000 in
theorem ref8_next (S : Nat → Prop) (g : Nat) (sv : Value) (s : St) (n : Nat) (w : World) (h : RdC S w g sv s) (hn : n < 9223372036854775808) (hl : (leftO s).length ≤ 140737488355328) :
    Calls Tryd.prog 66 #[.pointer (some ⟨g, 0, none⟩), .int .i64 (n : Int)] w (fun e w' => ∃ y, e = .returned y ∧ Own8 w' w.heap.size y (rowO (takeO n s)) ∧ (∃ sv', RdC S w' g sv' (restO (takeO n s))) ∧ Mut S w w') := by
  have HH := Lib.hid h
  have FL := Lib.hid (ref8_fail g _ _ w h.2.1)
  have HL := Lib.hid hl
  have n0 : (0 : Int) ≤ (n : Int) := by omega
  have n1 : (n : Int) ≤ 9223372036854775807 := by omega
  cases s with
  | none =>
    have c1 : w.cell? ⟨g, 1, none⟩ = some (.bool true) := h.cell1
    clear h hn hl
    go_enter Tryd.func66, Tryd.ntmps66
    go_wp2_with (go_at_call 65; (with_reducible refine FL.out.mono ?_); rintro e w' ⟨rfl, hc, hw⟩)
    go_ret
    exact ⟨_, rfl, own8_nil _ _, ⟨_, (HH.out.failed hw hc).1⟩, (HH.out.failed hw hc).2⟩
  | some xs =>
    have c1 : w.cell? ⟨g, 1, none⟩ = some (.bool false) := h.cell1
    have c0 := h.cell0
    have f0 := h.free 0
    have hh : Holds8 w sv xs := h.2.2.1
    have HX := Lib.hid hh
    obtain ⟨_, ao, len, cap, rfl, hlen, hlc, hcm, hcell⟩ := hh
    subst hlen
    have hmx : xs.length ≤ 140737488355328 := hl
    by_cases g1 : n ≤ xs.length
    · have b1 : ¬ (n : Int) > (xs.length : Int) := by omega
      rw [takeO_some g1]
      have CU := fun W => run_cutUpto (P := Tryd.prog) (ao := ao) (len := xs.length) (cap := cap) Tryd.underlying25 elem8s siz8s n (by omega) W
      have CF := fun W => run_cutFrom (P := Tryd.prog) (ao := ao) (len := xs.length) (cap := cap) Tryd.underlying25 elem8s siz8s n g1 W
      obtain ⟨ua, un, uc, eu⟩ : ∃ va vn vc, Value.slice va vn vc = sliced ao 0 n cap 1 := ⟨_, _, _, rfl⟩
      obtain ⟨va, vn, vc, ev⟩ : ∃ va vn vc, Value.slice va vn vc = sliced ao n xs.length cap 1 := ⟨_, _, _, rfl⟩
      rw [← eu] at CU
      rw [← ev] at CF
      have U8 := Lib.hid (show Holds8 w (.slice ua un uc) (xs.take n) by rw [eu]; exact HX.out.cutUpto n g1)
      have V8 := Lib.hid (show Holds8 w (.slice va vn vc) (xs.drop n) by rw [ev]; exact HX.out.cutFrom n g1)
      have VO := Lib.hid (show ∀ a l c, Value.slice va vn vc = .slice (some a) l c → S a.block ∧ a.block ≠ g from fun a l c e => by rw [ev] at e; obtain ⟨y, ey, eb⟩ := sliced_at e; have := HH.out.2.2.2.1 y _ _ (by rw [ey]); rw [eb] at this; exact this)
      have OW := Lib.hid (fun (c : Array Value) (hc : c = (vals8 []).toArray) => own_lit8 w w.heap.size (Nat.le_refl _) [] (by simp) (by simp) hc (n := 0) rfl)
      have GL := Lib.hid (lt_of_block h.2.1)
      have LT := Lib.hid (show ([] : List Nat).length + (xs.take n).length ≤ 140737488355328 by rw [List.length_take]; simp; omega)
      have CU := Lib.hid CU
      have CF := Lib.hid CF
      clear h hn hl hcell hcm hlc eu ev g1 hmx
      have cu := CU.out
      have gl := GL.out
      go_enter Tryd.func66, Tryd.ntmps66
      go_wp2_with (at_builtin; refine wpList_append8h rfl (.tmp 21) (.tmp 27) rfl w.heap.size _ _ [] _ (by rfl) (OW.out _ rfl) (by rfl) (U8.out.keeps ((Keeps.refl w).alloc _)) LT.out ((Keeps.refl w).alloc _).size ?_)
      intro v2 w2 ho2 hb2 hg2
      have K2 := Lib.hid (show Keeps w w2 from Below.trans ((Keeps.refl w).alloc _) hb2)
      have O2 := Lib.hid (show Own8 w2 w.heap.size v2 (xs.take n) from ho2)
      have R2 := HH.out.keeps K2.out
      have c2 := R2.cell0
      have f2 := R2.free 0
      have R2 := Lib.hid R2
      have cf := CF.out
      clear hb2 hg2 ho2 c0 c1 f0 cu
      go_wp2_with fail
      go_ret
      have HP := RdC.put R2.out (v1 := .slice va vn vc) (ys := xs.drop n) (V8.out.keeps K2.out) VO.out
      exact ⟨_, rfl, O2.out.set_other GL.out, ⟨_, HP.1⟩, (Mut.of K2.out S).trans HP.2⟩
    · have b1 : (n : Int) > (xs.length : Int) := by omega
      rw [takeO_none g1]
      clear h hn hl hcell hcm hlc g1 hmx
      go_enter Tryd.func66, Tryd.ntmps66
      go_wp2_with (go_at_call 65; (with_reducible refine FL.out.mono ?_); rintro e w' ⟨rfl, hc, hw⟩)
      go_ret
      exact ⟨_, rfl, own8_nil _ _, ⟨_, (HH.out.failed hw hc).1⟩, (HH.out.failed hw hc).2⟩
end Go.Proofs.YtckikgfckihniaaDoor
