/- The contract of package nat's Text. -/
import Derived.Test.YtjegjdefeflijaaNatArith
import Derived.Test.YtjegjdefeflijaaNatTextMath
import Derived.Test.YtjegjdefeflijaaNatGcd
import Derived.Laws.BytesArg
import Derived.Deep.LoopGhost
set_option linter.unusedVariables false
set_option linter.unusedSimpArgs false
namespace Go.Proofs.Ytjegjdefeflijaa
open Go.RowKit Go.NatMath Go.NumDigits

theorem Row32.bare3 {w : World} {G : Nat} {m p : List Nat} (h : Row32 w G ([] ++ m ++ p)) : Row32 w G (m ++ p) := by rw [List.nil_append] at h; exact h
theorem info8 : (Try.prog.info? 5).map (fun i => (i.zero, i.size, i.bytes)) = some (some (.int .u8 0), 1, 1) := by kernel_rfl

/-- A board of letters of the call's own, of which those from k on are 'done'. -/
def Board8 (wr : World) (B total k : Nat) (done : List Int) : Prop :=
  k + done.length = total ∧ ∃ cs : Array Value, wr.heap[B]? = some (.cells cs 5 (0, 0)) ∧ cs.size = total ∧ ∀ i, i < done.length → cs[k + i]? = some (.int .u8 (done.getD i 0))
theorem board8_new (w : World) (n : Nat) : Board8 (w.alloc (.cells (madeCells #[.int .u8 0] n) 5)) w.heap.size n n [] := by
  refine ⟨rfl, _, (MapKept.heap_alloc w _).1, by simp [madeCells], fun i hi => by simp at hi⟩
theorem row_setCell {w : World} {b k : Nat} {cs : Array Value} {u : Value} {t : TypeId} (h : w.heap[b]? = some (.cells cs t (0, 0))) : (w.setCell ⟨b, k, none⟩ u).heap[b]? = some (.cells (cs.setIfInBounds k u) t (0, 0)) := by
  simp [World.setCell, Array.getElem?_modify, h]
theorem Board8.put {wr : World} {B total k : Nat} {done : List Int} (h : Board8 wr B total (k + 1) done) (c : Int) : Board8 (wr.setCell ⟨B, k, none⟩ (.int .u8 c)) B total k (c :: done) := by
  obtain ⟨hl, cs, h0, hs, hd⟩ := h
  refine ⟨by simp; omega, _, row_setCell h0, by simpa using hs, fun i hi => ?_⟩
  rcases i with _ | i
  · rw [Nat.add_zero, Array.getElem?_setIfInBounds_self_of_lt (by omega)]; rfl
  · have := hd i (by simpa using hi)
    rw [Array.getElem?_setIfInBounds_ne (by omega)]
    rw [show k + (i + 1) = k + 1 + i from by omega, this]
    simp
theorem Board8.room {wr : World} {B total k : Nat} {done : List Int} (h : Board8 wr B total (k + 1) done) : ∃ u, wr.cell? ⟨B, k, none⟩ = some u ∧ wr.frozen? ⟨B, k, none⟩ = false := by
  obtain ⟨hl, cs, h0, hs, hd⟩ := h
  exact ⟨cs[k]'(by omega), by simp [World.cell?, h0, show k < cs.size from by omega], by simp [World.frozen?, h0]⟩
theorem Board8.only {wr w' : World} {B G total k : Nat} {done : List Int} (h : Board8 wr B total k done) (o : Only G wr w') (hn : B ≠ G) : Board8 w' B total k done := by
  obtain ⟨hl, cs, h0, hs, hd⟩ := h
  exact ⟨hl, cs, (o.2.2 B hn).trans h0, hs, hd⟩
theorem Board8.letter {wr : World} {B total k : Nat} {c : Int} {done : List Int} (h : Board8 wr B total k (c :: done)) : wr.cell? ⟨B, k, none⟩ = some (.int .u8 c) ∧ Board8 wr B total (k + 1) done := by
  obtain ⟨hl, cs, h0, hs, hd⟩ := h
  have h1 := hd 0 (by simp)
  rw [Nat.add_zero] at h1
  refine ⟨by simp only [World.cell?, h0]; simpa using h1, by rw [List.length_cons] at hl; omega, cs, h0, hs, fun i hi => ?_⟩
  have := hd (i + 1) (by simpa using hi)
  rw [show k + 1 + i = k + (i + 1) from by omega, this]
  simp
theorem Board8.text {wr : World} {B total k : Nat} {done : List Int} (h : Board8 wr B total k done) (len cap : Nat) (e : len = done.length) :
    (convert 55 9 (.slice (some ⟨B, k, none⟩) len cap)).run Try.prog wr = .ok (.string (strOfNums done)) wr := by
  obtain ⟨hl, cs, h0, hs, hd⟩ := h
  refine run_convert_bytes_arg wr 55 5 Try.underlying55 Try.underlying5 B k len cap done e.symm (fun i hi => ?_) 9 Try.underlying9
  have := hd i (by omega)
  simp only [World.cell?, h0]
  exact this
theorem lo_take {m : List Nat} (hx : ∀ x ∈ m, x < 4294967296) : ∃ k, k ≤ m.length ∧ lo (nv m) = m.take k := by
  have step : ∀ k, k ≤ m.length → Noughts m k → ∃ k, k ≤ m.length ∧ Noughts m k ∧ rt (m.take k) = true := by
    intro k
    induction k with
    | zero => intro h1 h2; exact ⟨0, h1, h2, rfl⟩
    | succ k ih =>
      intro h1 h2
      cases hr : rt (m.take (k + 1))
      · exact ih (by omega) (noughts_down h1 h2 hr).2
      · exact ⟨k + 1, h1, h2, hr⟩
  obtain ⟨k, h1, h2, h3⟩ := step m.length (Nat.le_refl _) (fun i hi => by have : ¬ i < m.length := (by omega); simp [List.getD, this])
  exact ⟨k, h1, noughts_len hx h2 h3⟩

def LayIn (w : World) (G B N n total : Nat) (A : Nat) (s3 s5 : Value) (wr : World) : Prop :=
  ∃ (kk p : Nat) (done : List Int) (junk : List Nat), s3 = .slice (some ⟨G, 0, none⟩) (lo A).length n ∧ s5 = .int .i64 (p : Int) ∧ Row32 wr G (lo A ++ junk) ∧ (lo A ++ junk).length = n ∧ Board8 wr B total p done ∧ done.length = 9 * kk ∧ LayAt N A done ∧ Keeps w wr
def GroupIn (w : World) (B N total A kk : Nat) (s5 s6 s27 : Value) (w2 wr : World) : Prop :=
  ∃ (j p r : Nat) (done : List Int), s27 = .int .i64 (j : Int) ∧ s5 = .int .i64 (p : Int) ∧ s6 = .int .u32 (r : Int) ∧ j ≤ 9 ∧ Board8 wr B total p done ∧ done.length = 9 * kk + j ∧ r < 10 ^ (9 - j) ∧ LayAt N (A * 10 ^ (9 - j) + r) done ∧ Only B w2 wr
def StripIn (B N total : Nat) (s5 : Value) (wr : World) : Prop :=
  ∃ (p : Nat) (done : List Int), s5 = .int .i64 (p : Int) ∧ Board8 wr B total p done ∧ digs done = true ∧ val done = N

set_option maxHeartbeats 2000000 in
set_option maxRecDepth 100000 in
theorem nat_text (v : Value) (xs0 : List Nat) (lx : xs0.length ≤ 1000) (w : World) (h : Holds32 w v xs0) :
    Calls Try.prog 32 #[v] w (fun e w' => e = .returned (.string (strOfNums (dg (tv xs0)))) ∧ Keeps w w') := by
  obtain ⟨ao, cap, xs, T, H, n1, r1, l1⟩ := own_counted_all v xs0 w h
  rw [← n1]
  have lx1 : xs.length ≤ 1000 := by omega
  have P := own_copied ao xs.length cap xs w H (by omega)
  have HN := nv_lt H.1
  have e1 := lo_nv H.1 r1
  obtain ⟨N, en⟩ : ∃ N, N = nv xs := ⟨_, rfl⟩
  rw [← en] at HN e1 ⊢
  by_cases hz : N = 0
  · have z0 : xs.length = 0 := by rw [← e1, hz, lo_zero]; rfl
    rw [z0] at T P
    rw [hz, dg_small (by decide)]
    have E : ({ data := #[48] } : ByteArray) = strOfNums [48 + ((0 : Nat) : Int)] := rfl
    rw [← E]
    clear E H h n1 r1 l1 lx lx1 HN e1 en hz z0
    go_enter Try.func32, Try.ntmps32
    go_wp2_with (first
      | (go_at_call 35; (with_reducible refine (T _ (Keeps.refl _)).mono ?_); rintro e w' ⟨rfl, rfl⟩)
      | (go_at_call 34; (with_reducible refine (P).mono ?_); rintro e w' ⟨rfl, hr, hk⟩))
    go_ret
    exact ⟨rfl, hk⟩
  · have hx0 : xs.length ≠ 0 := by intro e; rw [List.eq_nil_of_length_eq_zero e] at en; exact hz en
    obtain ⟨n, enn⟩ : ∃ n, n = xs.length := ⟨_, rfl⟩
    rw [← enn] at T P HN hx0 lx1
    have z0 : ((n : Int) == 0) = false := by simp [hx0]
    have hmk := run_make_row' (P := Try.prog) 55 5 (.int .u8 0) 1 Try.underlying55 info8 rfl .i64 .i64 (10 * n + 9) (by omega) (by omega)
    rw [show ((10 * n + 9 : Nat) : Int) = 10 * (n : Int) + 9 from by omega] at hmk
    have HNN := Lib.hid HN
    have HZ := Lib.hid hz
    have E1 := Lib.hid e1
    have ENN := Lib.hid enn
    clear H h n1 r1 l1 lx HN e1 en hz enn
    go_enter Try.func32, Try.ntmps32
    go_upto_region 5 with (first
      | (go_at_call 35; (with_reducible refine (T _ (Keeps.refl _)).mono ?_); rintro e w' ⟨rfl, rfl⟩)
      | (go_at_call 34; (with_reducible refine (P).mono ?_); rintro e w1 ⟨rfl, hr, hk⟩))
    have hG : w.heap.size < w1.heap.size := hr.size
    have hb := board8_new w1 (10 * n + 9)
    have hk2 := (Keeps.refl w1).alloc (.cells (madeCells #[.int .u8 0] (10 * n + 9)) 5)
    have hr2 := hr.keeps hk2
    generalize w1.alloc (.cells (madeCells #[.int .u8 0] (10 * n + 9)) 5) = w2 at hb hk2 hr2 ⊢
    have HB := Lib.hid hb
    have HR := Lib.hid hr2
    have HK := Lib.hid (hk.trans hk2)
    clear hmk T P hr hk hb hk2 hr2
    go_wp2_with fail
    go_loopg [3, 5] N (fun gh s3 s5 wr => ∃ A : Nat, A = gh ∧ LayIn w w.heap.size w1.heap.size N n (10 * n + 9) A s3 s5 wr)
    case atStart =>
      have l := E1.out
      exact ⟨N, rfl, 0, _, [], [], by rw [l, ← ENN.out], rfl, by rw [l, List.append_nil]; exact HR.out, by rw [l, List.append_nil, ← ENN.out], HB.out, rfl, lay_start N, HK.out⟩
    case round =>
      clear HB HR HK E1
      obtain ⟨A, rfl, kk, p, done, junk, rfl, rfl, hR, hRl, hB, hdl, hL, hK⟩ := hrel
      by_cases hz : A = 0
      · have e0 : (lo A).length = 0 := lo_length_zero.2 hz
        rw [hz] at hL
        obtain ⟨v1, v2⟩ := lay_end hL
        rw [e0]
        have HB := Lib.hid hB
        have V1 := Lib.hid v1
        have V2 := Lib.hid v2
        have HK := Lib.hid hK
        clear hR hRl hB hdl hL hK hz e0 v1 v2
        go_wp2_with fail
        go_loop [5] (fun s5 => StripIn w1.heap.size N (10 * n + 9) s5 wr) (fun s5 => 10 * n + 9 - (intOf s5).toNat)
        case atStart => exact ⟨p, done, rfl, HB.out, V1.out, V2.out⟩
        case round =>
          clear HB V1 V2
          obtain ⟨p, done, rfl, hB, v1, v2⟩ := hrel
          cases done with
          | nil => exact (HZ.out (by rw [← v2]; rfl)).elim
          | cons c l =>
            obtain ⟨b1, b2⟩ := hB.letter
            obtain ⟨s1, s2⟩ := strip v1 v2
            have hp : p + (l.length + 1) = 10 * n + 9 := by have := hB.1; rw [List.length_cons] at this; exact this
            by_cases hc : c = 48
            · obtain ⟨d1, d2⟩ := s1 hc
              have t1 : (c == 48) = true := by simp [hc]
              have B2 := Lib.hid b2
              have D1 := Lib.hid d1
              have D2 := Lib.hid d2
              have HP := Lib.hid hp
              have p1 : p < 10 * n + 9 := by omega
              clear hB v1 v2 b2 s1 s2 d1 d2 hc hp
              go_wp2_with fail
              go_round
              case rel => exact ⟨p + 1, l, by go_num, B2.out, D1.out, D2.out⟩
              case measure => simp [intOf]; omega
            · have t1 : (c == 48) = false := by simp [hc]
              have E := Lib.hid (s2 hc)
              have f6 := hB.text (10 * n + 9 - p) (10 * n + 9 - p) (by rw [List.length_cons]; omega)
              rw [← E.out] at f6
              have p1 : p < 10 * n + 9 := by omega
              have f7 : ¬ (10 * n + 9 = p) := by omega
              clear hB v1 v2 b2 s1 s2 hc hp
              go_wp2_with fail
              go_ret
              exact ⟨rfl, HK.out⟩
      · have e0 : (0 : Int) < ((lo A).length : Int) := by
          have : (lo A).length ≠ 0 := fun e => hz (lo_length_zero.1 e)
          omega
        have hlA : (lo A).length ≤ 1000 := by rw [List.length_append] at hRl; omega
        have D := nat_divide w.heap.size 0 n 1000000000 [] (lo A) junk wr rfl (by simp; omega) (by simpa using hR) (by decide) (by decide)
        rw [show ((1000000000 : Nat) : Int) = 1000000000 from rfl] at D
        have hroom := lay_room hL (Nat.pos_of_ne_zero hz) hdl HNN.out
        obtain ⟨la, ela⟩ : ∃ la, la = (lo A).length := ⟨_, rfl⟩
        rw [← ela] at D e0 hlA ⊢
        have HRL := Lib.hid hRl
        have HB := Lib.hid hB
        have HDL := Lib.hid hdl
        have HL := Lib.hid hL
        have HK := Lib.hid hK
        have HA0 := Lib.hid (Nat.pos_of_ne_zero hz)
        have ELA := Lib.hid ela
        clear hR hRl hB hdl hL hK hz ela
        go_upto_region 8 with (go_at_call 44; (with_reducible refine (D).mono ?_); rintro e w3 ⟨m, r, rfl, hm, hr, ho, hd, hrz⟩)
        rw [nv_lo] at hd
        have hrow := hr.bare3
        have hrl : (m ++ junk).length = n := by have := HRL.out; rw [List.length_append] at this ⊢; have := ELA.out; omega
        have hm7 := (hrow.holds n hrl (by omega)).take la (by rw [List.length_append] at hrl; have := ELA.out; omega)
        rw [List.take_append_of_le_length (by have := ELA.out; omega), List.take_of_length_le (by have := ELA.out; omega)] at hm7
        have T4 := own_trim _ _ _ m w3 hm7
        obtain ⟨q, hq1, hq2⟩ := lo_take (m := m) hr.midlt
        have hA2 : nv m = A / 1000000000 := by rw [hd, Nat.mul_add_div (by decide), Nat.div_eq_of_lt hrz]; omega
        have hA3 : A = nv m * 1000000000 + r := by omega
        have hAlt : A / 1000000000 < A := Nat.div_lt_self HA0.out (by decide)
        have hcut : m ++ junk = lo (nv m) ++ (m.drop q ++ junk) := by rw [hq2, ← List.append_assoc, List.take_append_drop]
        rw [hcut] at hrow hrl
        have HROW := Lib.hid hrow
        have HRL2 := Lib.hid hrl
        have HB3 := Lib.hid (HB.out.only ho (by omega))
        have HK3 := Lib.hid (ho.keeps HK.out (Nat.le_refl _))
        have HA2 := Lib.hid hA2
        have HA3 := Lib.hid hA3
        have HALT := Lib.hid hAlt
        obtain ⟨M, eM⟩ : ∃ M, M = nv m := ⟨_, rfl⟩
        rw [← eM] at T4
        have EM := Lib.hid eM
        clear D hm hr ho hd hrow hrl hm7 hq1 hq2 hA2 hA3 hAlt hcut eM
        go_wp2_with (go_at_call 37; (with_reducible refine (T4).mono ?_); rintro e w' ⟨rfl, rfl⟩)
        go_loopw [5, 6, 27] (fun s5 s6 s27 wr2 => GroupIn w w1.heap.size N (10 * n + 9) M kk s5 s6 s27 w3 wr2) (fun _ _ s27 _ => 9 - (intOf s27).toNat)
        case atStart => exact ⟨0, p, r, done, rfl, rfl, rfl, by omega, HB3.out, HDL.out, hrz, by have a := HL.out; rw [HA3.out, ← EM.out] at a; exact a, Only.refl _ _⟩
        case round =>
          clear HB3
          obtain ⟨j, p2, r2, done2, rfl, rfl, rfl, hj, hB, hdl, hr2, hL, hO⟩ := hrel
          by_cases g : (j : Int) < 9
          · obtain ⟨g1, g2, g3⟩ := group_next M r2 j (by omega) hr2
            have hL2 := lay_digit hL
            rw [g1, g2] at hL2
            have hp := hB.1
            obtain ⟨p3, rfl⟩ : ∃ p3, p2 = p3 + 1 := ⟨p2 - 1, by omega⟩
            obtain ⟨u, hc, hf⟩ := hB.room
            have f1 : (r2 : Int) % 10 = ((r2 % 10 : Nat) : Int) := by omega
            have f2 : (r2 : Int) / 10 = ((r2 / 10 : Nat) : Int) := by omega
            have hdl2 : ((48 + ((r2 % 10 : Nat) : Int)) :: done2).length = 9 * kk + (j + 1) := by rw [List.length_cons, hdl]; omega
            have hB2 := hB.put (48 + ((r2 % 10 : Nat) : Int))
            have d1 : r2 % 10 < 10 := Nat.mod_lt _ (by decide)
            have r3 : r2 < 4294967296 := by
              have : 10 ^ (9 - j) ≤ 10 ^ 9 := Nat.pow_le_pow_right (by decide) (by omega)
              omega
            generalize r2 % 10 = d at *
            generalize r2 / 10 = q at *
            have HB2 := Lib.hid hB2
            have HDL2 := Lib.hid hdl2
            have HL2 := Lib.hid hL2
            have HO := Lib.hid hO
            have HG3 := Lib.hid g3
            have pb : p3 < 10 * n + 9 := by omega
            clear hB hdl hr2 hL hO g1 g2 g3 hL2 hdl2 hB2 hp
            go_wp2_with fail
            go_roundw
            case rel => exact ⟨j + 1, p3, q, _, by go_num, by go_num, by first | rfl | rw [f2], by omega, HB2.out, HDL2.out, HG3.out, HL2.out, HO.out.set _ _⟩
            case measure => simp [intOf]; omega
          · obtain rfl : j = 9 := by omega
            have hr0 : r2 = 0 := by simpa using hr2
            rw [hr0] at hL
            have HB4 := Lib.hid hB
            have HDL4 := Lib.hid hdl
            have HL4 := Lib.hid hL
            have HO := Lib.hid hO
            clear hB hdl hr2 hL hO hr0
            go_wp2_with fail
            go_roundg (A / 1000000000)
            case measure => exact HALT.out
            case rel => exact ⟨A / 1000000000, rfl, kk + 1, p2, done2, _, by rw [EM.out, HA2.out], rfl, by rw [← HA2.out]; exact HO.out.row HROW.out (by omega), by rw [← HA2.out]; exact HRL2.out, HB4.out, by rw [HDL4.out]; omega, by have a := HL4.out; rw [EM.out, HA2.out] at a; simpa using a, HO.out.keeps HK3.out (by omega)⟩
end Go.Proofs.Ytjegjdefeflijaa
