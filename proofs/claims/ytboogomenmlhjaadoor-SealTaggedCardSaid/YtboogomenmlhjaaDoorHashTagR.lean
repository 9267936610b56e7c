/- The document's own Tag. -/
import Derived.Test.YtboogomenmlhjaaDoorHashSum
import Derived.Test.YtboogomenmlhjaaDoorHashBig
import Derived.Test.YtboogomenmlhjaaDoorStrBytes
import Derived.Test.YtboogomenmlhjaaDoorApp8
set_option linter.unusedVariables false
set_option linter.unusedSimpArgs false
set_option maxRecDepth 10000
namespace Go.Proofs.YtboogomenmlhjaaDoor
open Go.RowKit Go.HashMath

def TagRef (W : World) (B : Nat) (name : List Nat) (ls : List (List Nat)) (sb si : Value) (wr : World) : Prop := ∃ k : Nat, k ≤ ls.length ∧ si = .int .i64 (k : Int) ∧ Own8 wr B sb (tagB name (ls.take k)) ∧ Below B W wr
set_option maxHeartbeats 1000000 in
set_option maxRecDepth 100000 in
theorem ref_tag (name : ByteArray) (v : Value) (ls : List (List Nat)) (w : World) (h : Parts w v ls) (hl : (tagB (strB name) ls).length ≤ 900000) : Calls Tryd.prog 23 #[.string name, v] w (GivesH w (sha (tagB (strB name) ls))) := by
  have HP := Lib.hid h
  obtain ⟨ao, n, c, rfl⟩ : ∃ ao n c, v = .slice ao n c := by obtain ⟨ao, n, c, rfl, _⟩ := h; exact ⟨ao, n, c, rfl⟩
  clear h
  have hns : name.size ≤ 900000 := by rw [tagB, List.length_append, partB_len, strB_len] at hl; omega
  go_enter Tryd.func23, Tryd.ntmps23
  go_upto_region 1 with fail
  obtain ⟨w0, eW⟩ : ∃ W, W = w.alloc (.cells (cellsK .u8 (List.replicate 32 0)).toArray 23) := ⟨_, rfl⟩
  have A0 : A8 23 w0 w.heap.size (List.replicate 32 0) := by rw [eW]; exact ArrN.new w _ (zeros_lt _ _ (by decide))
  have K0 : Keeps w w0 := by rw [eW]; exact (Keeps.refl w).alloc _
  change Code.wp _ _ _ _ (w.alloc (.cells (cellsK .u8 (List.replicate 32 0)).toArray 23))
  rw [← eW]
  obtain ⟨z0, ez⟩ : ∃ z, z = w.heap.size := ⟨_, rfl⟩
  rw [← ez] at A0 ⊢
  have Z0 := Lib.hid ez
  have A0 := Lib.hid A0
  have K0 := Lib.hid K0
  clear eW ez
  have n0 : (0 : Int) ≤ (name.size : Int) := by omega
  have n1 : (name.size : Int) ≤ 900000 := by omega
  have q2 : IntKind.u64.wrap (name.size : Int) = (name.size : Int) := IntWalk.u64_in _ (by omega)
  have LN := Lib.hid (fun W => ref_long name.size W (by omega))
  have cv := fun W => run_conv_bytes name W
  have HLS := Lib.hid hl
  have HNS := Lib.hid hns
  clear hl hns
  have FM := Lib.hid (show name.size ≤ maxLen by unfold maxLen; have := HNS.out; omega)
  have FL := Lib.hid (show (big 8 name.size).length + (strB name).length ≤ 1000000000 by rw [big_len, strB_len]; have := HNS.out; omega)
  go_wp2_with (first
    | (go_at_call 31; (with_reducible refine (LN.out _).mono ?_); rintro e w1 ⟨v1, rfl, ho1, hk1⟩)
    | (at_builtin; refine wpList_append8 rfl (.tmp 11) (.tmp 13) rfl w0.heap.size _ _ _ _ (by rfl) (ho1.keeps (bytes_keeps name w1)) (by rfl) (bytes_holds name w1 FM.out) FL.out (hk1.trans (bytes_keeps name w1)).size ?_))
  intro v4 w4 ho4 hk4
  have K1 := Lib.hid hk1
  have KN := Lib.hid (bytes_keeps name w1)
  clear cv hk1 ho1
  have HO4 := Lib.hid (show Own8 w4 w0.heap.size v4 (tagB (strB name) (ls.take 0)) from by rw [tagB, List.take_zero, List.flatMap_nil, List.append_nil, partB, strB_len]; exact ho4)
  have HB4 := Lib.hid (show Below w0.heap.size w0 w4 from Below.trans (K1.out.trans KN.out) hk4)
  clear ho4 hk4
  obtain ⟨ao', len, cap, e, hlen, hlc, hcm, hcell⟩ := HP.out
  cases e
  have LEN := Lib.hid hlen
  have L0 : (0 : Int) ≤ (n : Int) := by omega
  have L1 : (n : Int) ≤ 9223372036854775807 := by have := hcm.1; unfold maxLen at this; omega
  have CELL := Lib.hid hcell
  clear hlen hcell hcm hlc
  go_wp2_with fail
  go_loopw [5, 6] (fun sb si wr => TagRef w0 w0.heap.size (strB name) ls sb si wr) (fun _ si _ => n - (intOf si).toNat)
  case atStart => exact ⟨0, by omega, rfl, HO4.out, HB4.out⟩
  case round =>
    clear HO4 HB4
    obtain ⟨k, hk, rfl, hO, hB⟩ := hrel
    by_cases g : k < n
    · obtain ⟨b, off, rfl, hbs, u, hu, hpu⟩ : ∃ b off, ao = some ⟨b, off, none⟩ ∧ b < w.heap.size ∧ ∃ u, w.cell? ⟨b, off + k, none⟩ = some u ∧ Holds8 w u (ls.getD k []) := by
        rcases CELL.out with h | ⟨b, off, h1, h2, h3⟩
        · omega
        · obtain ⟨u, h4, h5⟩ := h3 k g
          exact ⟨b, off, h1, h2, u, h4, h5⟩
      have CU := Lib.hid (fun W (q : Keeps w0 W) => ((K0.out.trans q).cell (o := off + k) hbs).trans hu)
      have HPU := Lib.hid (fun W (q : Keeps w0 W) => hpu.keeps (K0.out.trans q))
      have NX := Lib.hid (tagB_next (strB name) ls k (by rw [LEN.out]; exact g))
      have hb := (tagB_take_len (strB name) ls (k + 1))
      rw [NX.out, List.length_append, partB_len] at hb
      obtain ⟨ua, un, uc, rfl, hun⟩ : ∃ ao n c, u = .slice ao n c ∧ n = (ls.getD k []).length := by obtain ⟨_, ao, n, c, rfl, e, _⟩ := hpu; exact ⟨ao, n, c, rfl, e.symm⟩
      have hub : un ≤ 900000 := by have := HLS.out; omega
      have u0 : (0 : Int) ≤ (un : Int) := by omega
      have u1 : (un : Int) ≤ 900000 := by omega
      have u2 : IntKind.u64.wrap (un : Int) = (un : Int) := IntWalk.u64_in _ (by omega)
      have HUN := Lib.hid hun
      have HBB := Lib.hid hb
      have LU := Lib.hid (fun W => ref_long un W (by omega))
      have HO := Lib.hid hO
      have HBW := Lib.hid (show Keeps w0 wr from hB)
      have KB := Lib.hid g
      have k0 : (0 : Int) ≤ (k : Int) := by omega
      have k1 : (k : Int) < (n : Int) := by omega
      have cu := CU.out wr HBW.out
      clear hO hB g hk hb hu hpu hun
      go_upto_region 6 with (go_at_call 31; (with_reducible refine (LU.out _).mono ?_); rintro e w5 ⟨v5, rfl, ho5, hk5⟩)
      have HO5 := Lib.hid (HO.out.keeps hk5)
      have HH5 := Lib.hid ho5.holds
      have K5 := Lib.hid (HBW.out.trans hk5)
      clear ho5 hk5 cu
      go_upto_region 7 with (at_builtin; refine wpList_append8 rfl (.tmp 28) (.tmp 29) rfl w0.heap.size _ _ _ _ (by rfl) HO5.out (by rfl) HH5.out (by rw [big_len]; have := HBB.out; have := HLS.out; omega) K5.out.size ?_)
      intro v6 w6 ho6 hk6
      have K6 := Lib.hid (show Keeps w0 w6 from Below.trans K5.out hk6)
      have HO6 := Lib.hid ho6
      have cu := CU.out w6 K6.out
      clear ho6 hk6
      go_wp2_with (at_builtin; refine wpList_append8 rfl (.tmp 31) (.tmp 35) rfl w0.heap.size _ _ _ _ (by rfl) HO6.out (by rfl) (HPU.out w6 K6.out) (by rw [List.length_append, big_len]; have := HBB.out; have := HLS.out; omega) K6.out.size ?_)
      intro v7 w7 ho7 hk7
      have HO7 := Lib.hid (show Own8 w7 w0.heap.size v7 (tagB (strB name) (ls.take (k + 1))) by rw [NX.out, partB, ← HUN.out]; exact ho7)
      have HB7 := Lib.hid (show Below w0.heap.size w0 w7 from Below.trans K6.out hk7)
      clear ho7 hk7 cu
      go_wp2_with fail
      go_roundw
      case rel => exact ⟨k + 1, by have := KB.out; have := LEN.out; omega, by go_num, HO7.out, HB7.out⟩
      case measure => have := KB.out; simp [intOf] <;> omega
    · obtain rfl : k = n := by have := LEN.out; omega
      have hO2 : Own8 wr w0.heap.size u5 (tagB (strB name) ls) := by rw [← LEN.out, List.take_length] at hO; exact hO
      have SM := Lib.hid (ref_sum _ _ wr hO2.holds (by have := HLS.out; omega))
      have A3 := Lib.hid (A0.out.below hB A0.out.size)
      have HBW := Lib.hid (show Keeps w0 wr from hB)
      clear hO hO2 hB g hk
      go_upto_region 8 with fail
      go_wp2_with (first
        | (go_at_call 32; (with_reducible refine SM.out.mono ?_); rintro e w6 ⟨rfl, hk6⟩)
        | (refine wpList_store_arr (k := .u8) (m := 256) (L := sha (tagB (strB name) ls)) sizHash rfl _ _ (by rfl) _ (by rfl) (by rfl) (A3.out.keeps hk6) (by rw [List.length_replicate]) (out_len _) ?_))
      have HA6 := Lib.hid (A3.out.keeps hk6)
      have HR := Lib.hid (HA6.out.setRow (out_lt (blocks ((padB (tagB (strB name) ls)).length / 64) (padB (tagB (strB name) ls)) (Eight.of firstW))))
      have KF := Lib.hid (show Keeps w (w6.setRow z0 (cellsK .u8 (sha (tagB (strB name) ls))).toArray) from below_setRow' (((K0.out.trans HBW.out).trans hk6)) (by rw [Z0.out]; exact Nat.le_refl _) _)
      exact bodyPost_ret (v := hashV (sha (tagB (strB name) ls))) (results_arr undHash sizHash rfl _ (by rfl) HR.out (out_len _)) rfl ⟨rfl, KF.out⟩
end Go.Proofs.YtboogomenmlhjaaDoor
