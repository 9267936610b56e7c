/- The contract of the closure that looks for a quotient's digit. -/
import Derived.Test.YtjegjdefeflijaaNatSubMul
import Derived.Test.YtjegjdefeflijaaNatOftenMath
set_option linter.unusedVariables false
set_option linter.unusedSimpArgs false
namespace Go.Proofs.Ytjegjdefeflijaa
open Go.RowKit Go.NatMath

theorem u64_high (r x : Nat) (hr : r < 4294967296) (hx : x < 4294967296) : bits .or .u64 ((r : Int) * 4294967296) (x : Int) = ((r * 4294967296 + x : Nat) : Int) := by
  rw [u64_or_low r x hr hx]; omega

def DigitIn (w : World) (G : Nat) (pre part post ds : List Nat) (e : Ending) (w' : World) : Prop :=
  ∃ m : List Nat, e = .returned (.int .u32 ((nv part / nv ds : Nat) : Int)) ∧ m.length = part.length ∧ Row32 w' G (pre ++ m ++ post) ∧ Only G w w' ∧ nv m = nv part % nv ds
def GuessIn (w : World) (G : Nat) (pre part post ds : List Nat) (s9 s10 s40 : Value) (wr : World) : Prop :=
  ∃ (i g : Nat) (sb : Bool) (m : List Nat), s40 = .int .i64 (i : Int) ∧ s9 = .int .u32 (g : Int) ∧ s10 = .bool sb ∧ i ≤ 2 ∧ g < 4294967296 ∧ m.length = part.length ∧ Row32 wr G (pre ++ m ++ post) ∧ Only G w wr ∧ GuessAt (nv part) (nv ds) part.length i g (nv m) sb

set_option maxHeartbeats 2000000 in
set_option maxRecDepth 100000 in
theorem often_digit (G L cap at' s bR bS bT bD : Nat) (dv : Value) (pre part post ds : List Nat) (w : World) (hat : pre.length = at') (hps : part.length = s + 2) (hL : pre.length + part.length + post.length = L) (hLc : L ≤ cap) (hLm : L ≤ 100000)
    (cR : w.cell? ⟨bR, 0, none⟩ = some (.slice (some ⟨G, 0, none⟩) L cap)) (cS : w.cell? ⟨bS, 0, none⟩ = some (.int .i64 ((s + 1 : Nat) : Int))) (cT : w.cell? ⟨bT, 0, none⟩ = some (.int .u64 ((ds.getD s 0 : Nat) : Int))) (cD : w.cell? ⟨bD, 0, none⟩ = some dv)
    (nD : bD ≠ G) (hrow : Row32 w G (pre ++ part ++ post)) (hd : Holds32 w dv ds) (hap : ds.length = 0 ∨ Apart G dv) (hdl : ds.length = s + 1) (h31 : 2147483648 ≤ ds.getD s 0) (hP : nv part < 4294967296 * nv ds) :
    Calls Try.prog 52 #[.int .i64 (at' : Int), .pointer (some ⟨bR, 0, none⟩), .pointer (some ⟨bS, 0, none⟩), .pointer (some ⟨bT, 0, none⟩), .pointer (some ⟨bD, 0, none⟩)] w (DigitIn w G pre part post ds) := by
  have hp1 := hrow.midlt
  have hd1 := hd.1
  obtain ⟨a1, a2⟩ := top_two hp1 hps
  obtain ⟨a3, a4⟩ := top_one hd1 hdl
  have cx := hrow.mid hat (s + 1) (by omega)
  have cy := hrow.mid hat s (by omega)
  have hx := hrow.midgetD (s + 1)
  have hy := hrow.midgetD s
  have ht := hd.lt s
  obtain ⟨x, ex⟩ : ∃ x, x = part.getD (s + 1) 0 := ⟨_, rfl⟩
  obtain ⟨y, ey⟩ : ∃ y, y = part.getD s 0 := ⟨_, rfl⟩
  obtain ⟨t, et⟩ : ∃ t, t = ds.getD s 0 := ⟨_, rfl⟩
  rw [← ex] at cx hx a1 a2
  rw [← ey] at cy hy a1 a2
  rw [← et] at cT ht h31 a3 a4
  have f0 := u64_high x y hx hy
  obtain ⟨high, eh⟩ : ∃ high, high = x * 4294967296 + y := ⟨_, rfl⟩
  rw [← eh] at f0 a1 a2
  have hh : high < 18446744073709551616 := by omega
  have f1 : (high : Int) / (t : Int) = ((high / t : Nat) : Int) := by simp
  obtain ⟨q, eq⟩ : ∃ q, q = high / t := ⟨_, rfl⟩
  rw [← eq] at f1
  have hD0 : 0 < nv ds := by
    have := pow_pos32 s
    exact Nat.lt_of_lt_of_le (Nat.mul_pos (by omega) this) a3
  obtain ⟨g, hg⟩ : ∃ g, g = min (high / t) 4294967295 := ⟨_, rfl⟩
  obtain ⟨b1, b2⟩ := guess_ok a1 a2 a3 a4 h31 hP hg
  rw [← eq] at hg
  have q1 : q < 18446744073709551616 := by
    have := Nat.div_le_self high t
    omega
  have hg2 : g < 4294967296 := by omega
  have hDp : 2 * nv ds ≤ 4294967296 ^ part.length := by
    have q := nv_lt hd1
    rw [hdl] at q
    rw [hps, show s + 2 = s + 1 + 1 from rfl, Nat.pow_succ]
    omega
  have hPp := nv_lt hp1
  have fm : min (q : Int) 4294967295 = (g : Int) := by omega
  have eL : at' + (s + 1) + 1 - at' = s + 2 := by omega
  have tz : ((t : Int) == 0) = false := by simp; omega
  have CX := Lib.hid cx
  have CY := Lib.hid cy
  have F := Lib.hid (fun m c k1 k2 k3 => guess_first (m := m) (c := c) k1 k2 b1 b2 hPp hDp k3)
  have HRow := Lib.hid hrow
  have HD := Lib.hid hd
  have HAP := Lib.hid hap
  have HAT := Lib.hid hat
  have HPS := Lib.hid hps
  have HL := Lib.hid hL
  have HDL := Lib.hid hdl
  have HD0 := Lib.hid hD0
  have HDP := Lib.hid hDp
  have ND := Lib.hid nD
  have HG := Lib.hid hg
  have CD := Lib.hid cD
  have l1 : at' + (s + 2) ≤ L := by omega
  clear hp1 hd1 a1 a2 a3 a4 ex ey et eh hrow hd hap hat hps hL hdl hD0 hDp nD hg cD b1 b2 hPp hP cx cy eq
  have cx := CX.out
  have cy := CY.out
  have cD := CD.out
  go_enter Try.func52, Try.ntmps52
  go_wp2_with fail
  go_quiet (fail)
  have cD2 : (w.drewN nq).cell? ⟨bD, 0, none⟩ = some dv := cD
  have cT2 : (w.drewN nq).cell? ⟨bT, 0, none⟩ = some (.int .u64 (t : Int)) := cT
  have hO : Only G w (w.drewN nq) := (Only.refl G w).drewN nq
  have hR : Row32 (w.drewN nq) G (pre ++ part ++ post) := HRow.out.drewN nq
  have hDD : Holds32 (w.drewN nq) dv ds := HD.out.keeps ((Keeps.refl w).drewN nq)
  clear cx cy cD cR cS cT
  generalize w.drewN nq = W2 at cD2 cT2 hO hR hDD ⊢
  have HO := Lib.hid hO
  have HR := Lib.hid hR
  have HDD := Lib.hid hDD
  clear hO hR hDD
  have hps := HPS.out
  have hdl := HDL.out
  have hL := HL.out
  have A := nat_takeTimes G at' (cap - at') g dv pre part post ds W2 HAT.out (by omega) HR.out HDD.out HAP.out (by omega) hg2
  rw [hps] at A
  clear hps hdl hL
  go_upto_region 5 with (go_at_call 36; (with_reducible refine (A).mono ?_); rintro e w3 ⟨m, c, rfl, hm, hr, ho, he⟩)
  have hg0 := F.out m c hr.midlt (by rw [hm, HPS.out]) (by rw [HPS.out]; exact he)
  have HG0 := Lib.hid hg0
  have HM0 := Lib.hid hm
  have HR0 := Lib.hid hr
  have HO0 := Lib.hid (HO.out.trans ho)
  have hne := ND.out
  have cD3 : w3.cell? ⟨bD, 0, none⟩ = some dv := by simp only [World.cell?] at cD2 ⊢; rw [ho.2.2 bD hne]; exact cD2
  have HD3 := Lib.hid (ho.holds HDD.out HAP.out)
  clear A hg0 hm hr ho he hne cD2 cT2 HO HR HDD F f0 f1 fm eL
  have DC := Lib.hid (show ∀ wr, Only G w3 wr → wr.cell? ⟨bD, 0, none⟩ = some dv by
    intro wr k
    have hne := ND.out
    simp only [World.cell?] at cD3 ⊢
    rw [k.2.2 bD hne]; exact cD3)
  clear cD3
  generalize decide (0 < c) = sb at *
  have HO1 := Lib.hid (Only.refl G w3)
  go_wp2_with fail
  go_loopw [9, 10, 40] (fun s9 s10 s40 wr => GuessIn w3 G pre part post ds s9 s10 s40 wr) (fun _ _ s40 _ => 2 - (intOf s40).toNat)
  case atStart => exact ⟨0, g, sb, m, rfl, rfl, rfl, by omega, hg2, by rw [HPS.out]; exact HM0.out, HR0.out, HO1.out, HG0.out⟩
  case round =>
    clear HM0 HR0 HO1 HG0 hg2 HG
    obtain ⟨i, g, sb, m, rfl, rfl, rfl, hi, hg2, hml, hR, hO, hI⟩ := hrel
    have hml2 : m.length = s + 2 := by rw [hml]; exact HPS.out
    by_cases i2 : (i : Int) < 2
    · cases sb
      · obtain ⟨r1, r2⟩ := guess_end HD0.out hI
        have R1 := Lib.hid r1
        have R2 := Lib.hid r2
        have HR := Lib.hid hR
        have HO := Lib.hid (HO0.out.trans hO)
        have HML := Lib.hid hml
        clear r1 r2 hR hO hml hI hml2
        go_wp2_with fail
        go_ret
        exact ⟨m, by rw [← R1.out]; rfl, HML.out, HR.out, HO.out, R2.out⟩
      · have hps := HPS.out
        have hdl := HDL.out
        have hL := HL.out
        have A := nat_addTimes G at' (cap - at') 1 dv pre m post ds wr HAT.out (by omega) hR (hO.holds HD3.out HAP.out) HAP.out (by omega) (by decide)
        rw [hml2, show ((1 : Nat) : Int) = 1 from rfl] at A
        have cD := DC.out wr hO
        have hN := nv_lt hR.midlt
        rw [hml] at hN
        have hDp := HDP.out
        have S := Lib.hid (fun m2 c k1 k2 k3 => guess_step (m := m2) (c := c) HD0.out (show i < 2 by omega) k1 k2 hI hN (by omega) k3)
        have hg0 : 0 < g := by
          rcases Nat.eq_zero_or_pos g with z | z
          · subst z
            obtain ⟨z1, z2⟩ := hI
            rw [if_pos rfl] at z2
            omega
          · exact z
        have HO := Lib.hid hO
        have HML := Lib.hid hml
        have HML2 := Lib.hid hml2
        clear hps hdl hL hN hDp hR hO hml hI hml2
        go_wp2_with (go_at_call 42; (with_reducible refine (A).mono ?_); rintro e w5 ⟨m2, c, rfl, hm, hr, ho, he⟩)
        have hm3 : m2.length = part.length := by rw [hm, HPS.out]
        have HE := Lib.hid (S.out m2 c hr.midlt hm3 (by rw [HPS.out]; rw [Nat.one_mul] at he; exact he))
        have HM3 := Lib.hid hm3
        have HRR := Lib.hid hr
        have HOO := Lib.hid (HO.out.trans ho)
        clear hm3 hm hr ho he A S
        go_wp2_with fail
        go_roundw
        case rel => exact ⟨i + 1, g - 1, !decide (0 < c), m2, by go_num, by first | rfl | (congr 1; omega), by first | rfl | simp, by omega, by omega, HM3.out, HRR.out, HOO.out, HE.out.2⟩
        case measure => simp [intOf]; omega
    · obtain rfl : i = 2 := by omega
      cases sb
      · obtain ⟨r1, r2⟩ := guess_end HD0.out hI
        have R1 := Lib.hid r1
        have R2 := Lib.hid r2
        have HR := Lib.hid hR
        have HO := Lib.hid (HO0.out.trans hO)
        have HML := Lib.hid hml
        clear r1 r2 hR hO hml hI hml2
        go_wp2_with fail
        go_ret
        exact ⟨m, by rw [← R1.out]; rfl, HML.out, HR.out, HO.out, R2.out⟩
      · have hN := nv_lt hR.midlt
        rw [hml] at hN
        exact (guess_not hN hI).elim
end Go.Proofs.Ytjegjdefeflijaa
