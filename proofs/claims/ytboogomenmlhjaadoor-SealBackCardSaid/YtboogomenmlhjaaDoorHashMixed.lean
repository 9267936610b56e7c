/- Package hash: the words into which a block is mixed. -/
import Derived.Test.YtboogomenmlhjaaDoorHashSpread
set_option linter.unusedVariables false
set_option linter.unusedSimpArgs false
set_option maxRecDepth 10000
namespace Go.Proofs.YtboogomenmlhjaaDoor
open Go.RowKit Go.HashMath

/-- The package's table of words lies in its place. -/
def RootsIn (w : World) : Prop := 0 < w.heap.size ∧ ∀ i, i < 64 → w.cell? ⟨0, i, none⟩ = some (.int .u32 ((addW.getD i 0 : Nat) : Int))
theorem RootsIn.keeps {w w' : World} (h : RootsIn w) (k : Keeps w w') : RootsIn w' := ⟨Nat.lt_of_lt_of_le h.1 k.size, fun i hi => (k.cell h.1).trans (h.2 i hi)⟩
theorem und8x32 : Tryd.prog.underlying 48 = some (.array 8 47) := by kernel_rfl
theorem siz8x32 : (Tryd.prog.info? 48).map (·.size) = some 8 := by kernel_rfl
theorem small_step {V : Eight} {k z : Nat} (h : small8 V) : small8 (shaStep V k z) := by
  obtain ⟨h1, h2, h3, h4, h5, h6, h7, h8⟩ := h
  exact ⟨Nat.mod_lt _ (by decide), h1, h2, h3, Nat.mod_lt _ (by decide), h5, h6, h7⟩
theorem small_steps (l : List (Nat × Nat)) : ∀ V : Eight, small8 V → small8 (shaSteps l V) := by
  induction l with
  | nil => intro V h; exact h
  | cons p r ih => intro V h; obtain ⟨a, b⟩ := p; exact ih _ (small_step h)
theorem turned_q (x p q r : Nat) (hp : 0 < p ∧ p < 32) (hq : 0 < q ∧ q < 32) (hr : 0 < r ∧ r < 32) (zp zq zr : Int) (ep : zp = (p : Int)) (eq : zq = (q : Int)) (er : zr = (r : Int)) (hx : x < 4294967296) (w : World) :
    Calls Tryd.prog 39 #[.int .u32 (x : Int), .int .i64 zp, .int .i64 zq, .int .i64 zr] w (fun e w' => e = .returned (.int .u32 ((rot x p ^^^ rot x q ^^^ rot x r : Nat) : Int)) ∧ w' = w) :=
  (turned_at x p q r hp hq hr zp zq zr ep eq er hx w).mono fun e w' ⟨a, b⟩ => ⟨a, b.symm⟩
theorem step_a (h s c y z b m : Nat) : (((h : Int) + (s : Int) + (c : Int) + (y : Int) + (z : Int)) % 4294967296 + ((b : Int) + (m : Int)) % 4294967296) % 4294967296 = (((h + s + c + y + z + b + m) % 4294967296 : Nat) : Int) := by omega
theorem step_e (d h s c y z : Nat) : ((d : Int) + ((h : Int) + (s : Int) + (c : Int) + (y : Int) + (z : Int)) % 4294967296) % 4294967296 = (((d + (h + s + c + y + z)) % 4294967296 : Nat) : Int) := by omega
theorem small_add (V H : Eight) : small8 (addE V H) := ⟨Nat.mod_lt _ (by decide), Nat.mod_lt _ (by decide), Nat.mod_lt _ (by decide), Nat.mod_lt _ (by decide), Nat.mod_lt _ (by decide), Nat.mod_lt _ (by decide), Nat.mod_lt _ (by decide), Nat.mod_lt _ (by decide)⟩
theorem sum_mod (x y : Nat) : ((x : Int) + (y : Int)) % 4294967296 = (((y + x) % 4294967296 : Nat) : Int) := by omega
def MixIn (W : World) (P : List (Nat × Nat)) (H : Eight) (s1 s2 s3 s4 s5 s6 s7 s8 si : Value) (wr : World) : Prop := ∃ k : Nat, k ≤ 64 ∧ si = .int .i64 (k : Int) ∧ ∃ V : Eight, V = shaSteps (P.take k) H ∧
  s1 = .int .u32 (V.a : Int) ∧ s2 = .int .u32 (V.b : Int) ∧ s3 = .int .u32 (V.c : Int) ∧ s4 = .int .u32 (V.d : Int) ∧ s5 = .int .u32 (V.e : Int) ∧ s6 = .int .u32 (V.f : Int) ∧ s7 = .int .u32 (V.g : Int) ∧ s8 = .int .u32 (V.h : Int) ∧ Keeps W wr
set_option maxHeartbeats 2000000 in
set_option maxRecDepth 100000 in
theorem mixed_at (H : Eight) (hH : small8 H) (bs : List Nat) (hl : bs.length = 64) (hb : ∀ x ∈ bs, x < 256) (w : World) (R : RootsIn w) : Calls Tryd.prog 34 #[.agg (cellsK .u32 H.list).toArray, .agg (cellsK .u8 bs).toArray] w (fun e w' => e = .returned (.agg (cellsK .u32 (blockE H bs).list).toArray) ∧ Keeps w w') := by
  go_enter Tryd.func34, Tryd.ntmps34
  go_upto_region 1 with fail
  obtain ⟨W, eW⟩ : ∃ W, W = ((w.alloc (.cells (cellsK .u32 H.list).toArray 48)).alloc (.cells (cellsK .u8 bs).toArray 49)).alloc (.cells (cellsK .u32 (List.replicate 8 0)).toArray 48) := ⟨_, rfl⟩
  have A1 : A32 48 W w.heap.size H.list := by rw [eW]; exact ((ArrN.new w _ (small8_list hH)).keeps ((Keeps.refl _).alloc _)).keeps ((Keeps.refl _).alloc _)
  have A2 : A8 49 W (w.heap.size + 1) bs := by
    rw [eW]; have h := (ArrN.new (k := .u8) (T := 49) (w.alloc (.cells (cellsK .u32 H.list).toArray 48)) _ hb).keeps ((Keeps.refl _).alloc (.cells (cellsK .u32 (List.replicate 8 0)).toArray 48)); rw [World.size_alloc] at h; exact h
  have A3 : A32 48 W (w.heap.size + 1 + 1) (List.replicate 8 0) := by
    rw [eW]; have h := ArrN.new (k := .u32) (m := 4294967296) (T := 48) ((w.alloc (.cells (cellsK .u32 H.list).toArray 48)).alloc (.cells (cellsK .u8 bs).toArray 49)) (List.replicate 8 0) (fun x hx => by have := (List.mem_replicate.1 hx).2; omega); rw [World.size_alloc, World.size_alloc] at h; exact h
  have K : Keeps w W := by rw [eW]; exact (((Keeps.refl w).alloc _).alloc _).alloc _
  change Code.wp _ _ _ _ (((w.alloc (.cells (cellsK .u32 H.list).toArray 48)).alloc (.cells (cellsK .u8 bs).toArray 49)).alloc (.cells (cellsK .u32 (List.replicate 8 0)).toArray 48))
  rw [← eW]
  obtain ⟨z1, e1⟩ : ∃ z, z = w.heap.size := ⟨_, rfl⟩
  rw [← e1] at A1 A2 A3 ⊢
  obtain ⟨z2, e2⟩ : ∃ z, z = z1 + 1 := ⟨_, rfl⟩
  rw [← e2] at A2 A3 ⊢
  obtain ⟨z3, e3⟩ : ∃ z, z = z2 + 1 := ⟨_, rfl⟩
  rw [← e3] at A3 ⊢
  have z13 : z1 ≤ z3 := by omega
  have E1 := Lib.hid e1
  have RW := Lib.hid (R.keeps K)
  have KW := Lib.hid K
  have hHl : H.list.length = 8 := rfl
  have C0 : W.cell? ⟨z1, 0, none⟩ = some (.int .u32 (H.a : Int)) := A1.cell 0 (by rw [hHl]; decide)
  have C1 : W.cell? ⟨z1, 1, none⟩ = some (.int .u32 (H.b : Int)) := A1.cell 1 (by rw [hHl]; decide)
  have C2 : W.cell? ⟨z1, 2, none⟩ = some (.int .u32 (H.c : Int)) := A1.cell 2 (by rw [hHl]; decide)
  have C3 : W.cell? ⟨z1, 3, none⟩ = some (.int .u32 (H.d : Int)) := A1.cell 3 (by rw [hHl]; decide)
  have C4 : W.cell? ⟨z1, 4, none⟩ = some (.int .u32 (H.e : Int)) := A1.cell 4 (by rw [hHl]; decide)
  have C5 : W.cell? ⟨z1, 5, none⟩ = some (.int .u32 (H.f : Int)) := A1.cell 5 (by rw [hHl]; decide)
  have C6 : W.cell? ⟨z1, 6, none⟩ = some (.int .u32 (H.g : Int)) := A1.cell 6 (by rw [hHl]; decide)
  have C7 : W.cell? ⟨z1, 7, none⟩ = some (.int .u32 (H.h : Int)) := A1.cell 7 (by rw [hHl]; decide)
  have A1 := Lib.hid A1
  have A2 := Lib.hid A2
  have A3 := Lib.hid A3
  have HL := Lib.hid hl
  have SP := Lib.hid (spread_at bs hl hb)
  have hsl : (schedule bs).length = 64 := by rw [schedule, grow_len, words_len]
  have HSL := Lib.hid hsl
  have IX := Lib.hid (fun (i : Nat) (h : i < 64) => run_index_arr (T := 63) (k := .u32) und64x32 Tryd.underlying47 siz32 hsl i h)
  have SH := Lib.hid hH
  clear eW e1 e2 e3 hl hsl K R hH hHl
  go_quiet (fail)
  revert nq; intro n1
  go_upto_region 2 with fail
  go_quiet (fail)
  revert nq; intro n2
  go_upto_region 3 with fail
  generalize hW : (W.drewN n1).drewN n2 = W2
  have K2 := Lib.hid (show Keeps W W2 by rw [← hW]; exact ((Keeps.refl W).drewN n1).drewN n2)
  clear hW C0 C1 C2 C3 C4 C5 C6 C7
  refine wp_region_lit ?_
  refine wpList_load_arr und64x8 siz64x8 rfl _ (by rfl) (by rfl) (A2.out.keeps K2.out).range HL.out ?_
  go_wp2_with (go_at_call 38; (with_reducible refine (SP.out _).mono ?_); rintro e w3 ⟨rfl, hk3⟩)
  have K3 := Lib.hid (K2.out.trans hk3)
  clear hk3
  go_wp2_with fail
  go_loopw [5, 6, 7, 8, 9, 10, 11, 12, 37] (fun s1 s2 s3 s4 s5 s6 s7 s8 si wr => MixIn W (addW.zip (schedule bs)) H s1 s2 s3 s4 s5 s6 s7 s8 si wr) (fun _ _ _ _ _ _ _ _ si _ => 64 - (intOf si).toNat)
  case atStart => exact ⟨0, by omega, rfl, H, rfl, rfl, rfl, rfl, rfl, rfl, rfl, rfl, rfl, K3.out⟩
  case round =>
    clear K3
    obtain ⟨k, hk, rfl, V, hV, rfl, rfl, rfl, rfl, rfl, rfl, rfl, rfl, hK⟩ := hrel
    have hs : small8 V := by rw [hV]; exact small_steps _ _ SH.out
    by_cases g : k < 64
    · have ST := Lib.hid (steps_next addW (schedule bs) H k (by rw [show addW.length = 64 from rfl]; exact g) (by rw [HSL.out]; exact g))
      rw [← hV] at ST
      clear hV
      have RC := (RW.out.keeps hK).2 k g
      have ix := IX.out k g
      obtain ⟨y, ey⟩ : ∃ y, y = addW.getD k 0 := ⟨_, rfl⟩
      obtain ⟨z, ez⟩ : ∃ z, z = (schedule bs).getD k 0 := ⟨_, rfl⟩
      rw [← ey] at RC ST
      rw [← ez] at ix ST
      clear ey ez
      obtain ⟨xa, xb, xc, xd, xe, xf, xg, xh⟩ := V
      obtain ⟨l0, l1, l2, l3, l4, l5, l6, l7⟩ := hs
      simp only at l0 l1 l2 l3 l4 l5 l6 l7
      have k0 : (0 : Int) ≤ (k : Int) := by omega
      have k1 : (k : Int) < 64 := by omega
      have HK := Lib.hid hK
      have KB := Lib.hid g
      have T1 := Lib.hid (turned_q xe 6 11 25 (by decide) (by decide) (by decide) 6 11 25 rfl rfl rfl l4)
      have T0 := Lib.hid (turned_q xa 2 13 22 (by decide) (by decide) (by decide) 2 13 22 rfl rfl rfl l0)
      clear hK g hk
      go_upto_region 7 with fail
      rw [choose_bits xe xf xg l4 l5 l6]
      go_upto_region 8 with fail
      rw [most_bits xa xb xc l0 l1 l2]
      go_quiet ((go_at_call 39; with_reducible exact Calls.quiet_of_same (T1.out _)))
      revert nq; intro n3
      go_upto_region 9 with fail
      go_upto_region 11 with (go_at_call 39; (with_reducible refine (T0.out _).mono ?_); rintro e w' ⟨rfl, rfl⟩)
      rw [step_a, step_e]
      have HK3 := Lib.hid (HK.out.drewN n3)
      go_wp2_with fail
      go_roundw
      case rel => exact ⟨k + 1, KB.out, by go_num, _, ST.out.symm, rfl, rfl, rfl, rfl, rfl, rfl, rfl, rfl, HK3.out⟩
      case measure => have := KB.out; simp [intOf] <;> omega
    · obtain rfl : k = 64 := by omega
      have hP : (addW.zip (schedule bs)).take 64 = addW.zip (schedule bs) := List.take_of_length_le (by rw [List.length_zip, HSL.out]; exact Nat.le_refl _)
      rw [hP] at hV
      have EB := Lib.hid (show blockE H bs = addE V H by rw [blockE, ← hV])
      have A1w := A1.out.keeps hK
      have hHl : H.list.length = 8 := rfl
      have C0 : wr.cell? ⟨z1, 0, none⟩ = some (.int .u32 (H.a : Int)) := A1w.cell 0 (by rw [hHl]; decide)
      have C1 : wr.cell? ⟨z1, 1, none⟩ = some (.int .u32 (H.b : Int)) := A1w.cell 1 (by rw [hHl]; decide)
      have C2 : wr.cell? ⟨z1, 2, none⟩ = some (.int .u32 (H.c : Int)) := A1w.cell 2 (by rw [hHl]; decide)
      have C3 : wr.cell? ⟨z1, 3, none⟩ = some (.int .u32 (H.d : Int)) := A1w.cell 3 (by rw [hHl]; decide)
      have C4 : wr.cell? ⟨z1, 4, none⟩ = some (.int .u32 (H.e : Int)) := A1w.cell 4 (by rw [hHl]; decide)
      have C5 : wr.cell? ⟨z1, 5, none⟩ = some (.int .u32 (H.f : Int)) := A1w.cell 5 (by rw [hHl]; decide)
      have C6 : wr.cell? ⟨z1, 6, none⟩ = some (.int .u32 (H.g : Int)) := A1w.cell 6 (by rw [hHl]; decide)
      have C7 : wr.cell? ⟨z1, 7, none⟩ = some (.int .u32 (H.h : Int)) := A1w.cell 7 (by rw [hHl]; decide)
      have A3w := Lib.hid (A3.out.keeps hK)
      have KK := Lib.hid (KW.out.trans hK)
      clear hP hV A1w hHl hK hk g
      go_wp2_with (refine wpList_store_arr (k := .u32) (L := (addE V H).list) siz8x32 rfl _ _ (by rfl) _ (by rfl) ?c1 A3w.out (by rw [List.length_replicate]) rfl ?_)
      case c1 =>
        repeat rw [sum_mod]
        rfl
      have HR := Lib.hid (A3w.out.setRow (L := (addE V H).list) (small8_list (small_add V H)))
      have KF := Lib.hid (show Keeps w (wr.setRow z3 (cellsK .u32 (addE V H).list).toArray) from below_setRow' KK.out (by rw [← E1.out]; exact z13) _)
      exact bodyPost_ret (results_arr und8x32 siz8x32 rfl _ (by rfl) HR.out rfl) rfl ⟨by rw [EB.out], KF.out⟩
end Go.Proofs.YtboogomenmlhjaaDoor
