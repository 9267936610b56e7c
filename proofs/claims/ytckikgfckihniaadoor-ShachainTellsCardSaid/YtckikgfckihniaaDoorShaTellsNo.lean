/- The walk of the law ShachainTells: a case of it (No). -/
import Derived.Test.YtckikgfckihniaaDoorShaBoth
set_option linter.unusedVariables false
set_option linter.unusedSimpArgs false
set_option maxRecDepth 10000
namespace Go.Proofs.YtckikgfckihniaaDoor
open Go.RowKit Go.HashMath Go.CodeMath

set_option maxHeartbeats 4000000 in
set_option maxRecDepth 100000 in
theorem tells_no {R : World → Prop} {St SD : World → Value → (Nat → Prop) → Nat → KeptL → Prop} (hR : Lasting10 R) (CH : ShaC R St) (CD : ShaD SD) (Sm : Sum10 R) (sd : List Nat) (no kk : Int) (lv bv : Value) (l : List (List Nat)) (b : List Nat) (w00 : World) (hw : R w00) (hs : Sum32 sd) (hl : HoldsB vals8 32 w00 lv l) (hls : ∀ y ∈ l, Sum32 y) (hb : Holds8 w00 bv b) (n0 : -9223372036854775808 ≤ no) (n1 : no ≤ 9223372036854775807) (k0 : -9223372036854775808 ≤ kk) (k1 : kk ≤ 9223372036854775807) (h : ¬ (l.length ≤ 60 ∧ b.length ≤ 800)) :
    Calls Tryd.prog 3 #[.agg (vals8 sd).toArray, .int .i64 no, lv, .int .i64 kk, bv] w00 fun e w' => e = .returned (.bool true) ∧ Keeps w00 w' := by
  have RW := Lib.hid (fun w' (q : Keeps w00 w') => hR w00 w' hw q)
  have LC := CH.last
  have LD := CD.last
  have SM := Lib.hid (fun w' (q : Keeps w00 w') => sha_small hR CH Sm w' (RW.out _ q))
  have HS := Lib.hid hs
  have HH := Lib.hid hl
  have HB := Lib.hid hb
  have HL := Lib.hid hls
  have NB := Lib.hid (And.intro n0 n1)
  have KB := Lib.hid (And.intro k0 k1)
  obtain ⟨lo, ln, lc, rfl, hlen, -⟩ := hl
  subst hlen
  obtain ⟨-, bo, bn, bc, rfl, hbl, -⟩ := hb
  subst hbl
  clear hR CH CD Sm hw hs hls n0 n1 k0 k1
  go_enter Tryd.func3, Tryd.ntmps3
  go_upto_region 1 with fail
  obtain ⟨W0, eW⟩ : ∃ W, W = (w00.alloc (.cells (vals8 sd).toArray 23)) := ⟨_, rfl⟩
  have B0 : ArrN .u8 256 23 W0 (w00.heap.size) sd := by
    rw [eW]
    have q := ArrN.new (k := .u8) (m := 256) (T := 23) w00 sd HS.out.2
    try simp only [World.size_alloc, Nat.add_assoc, Nat.reduceAdd] at q
    exact q
  have K0 : Keeps w00 W0 := by rw [eW]; exact ((Keeps.refl w00).alloc _)
  change Code.wp _ _ _ _ (w00.alloc (.cells (vals8 sd).toArray 23))
  rw [← eW]
  clear eW
  generalize w00.heap.size = z0 at *
  go_upto_region 2 with (go_at_call 8; (refine (SM.out _ K0).mono ?_); rintro e w1 ⟨rfl, hk1⟩)
  have K1 := Lib.hid (K0.trans hk1)
  have A0 := Lib.hid (B0.keeps hk1)
  clear K0 hk1 B0
  by_cases g1 : l.length ≤ 60
  · have t1 : ¬ (l.length : Int) > 60 := by omega
    have t2 : (l.length : Int) ≤ 60 := by omega
    have u1 : (b.length : Int) > 800 := by omega
    have u2 : ¬ (b.length : Int) ≤ 800 := by omega
    go_wp2_with fail
    go_ret
    exact ⟨rfl, K1.out⟩
  · have t1 : (l.length : Int) > 60 := by omega
    go_wp2_with fail
    go_ret
    exact ⟨rfl, K1.out⟩
end Go.Proofs.YtckikgfckihniaaDoor
