/- The document's own sums: the bytes that are padded, eight bytes of a number. -/
import Derived.Test.YtckikgfckihniaaDoorHashBlock
import Derived.Test.YtckikgfckihniaaDoorHashBig
import Derived.OneCell
set_option linter.unusedVariables false
set_option linter.unusedSimpArgs false
set_option maxRecDepth 10000
namespace Go.Proofs.YtckikgfckihniaaDoor
open Go.RowKit Go.HashMath

theorem u8_shr (n k : Nat) : (n : Int) / 2 ^ k % 256 = ((n / 2 ^ k % 256 : Nat) : Int) := by
  rw [Int.natCast_emod, Int.natCast_ediv, Int.natCast_pow]; rfl
def BigIn (W : World) (P : List Nat) (n : Nat) (so sk : Value) (wr : World) : Prop := ∃ j : Nat, j ≤ 8 ∧ sk = .int .i64 (56 - 8 * (j : Int)) ∧ Own8 wr W.heap.size so (P ++ (big 8 n).take j) ∧ Keeps W wr
theorem own8_more {w : World} {B : Nat} {v : Value} {xs : List Nat} {d : Nat} (hx : ∀ x ∈ xs, x < 256) (hd : d < 256) (h : w.ownsRow B 5 1 v (xs.length + 1) (vals8 xs ++ [.int .u8 (d : Int)])) : Own8 w B v (xs ++ [d]) := by
  refine ⟨by rw [List.length_append]; simpa [vals8] using h, fun x hm => ?_⟩
  rcases List.mem_append.1 hm with g | g
  · exact hx x g
  · rw [List.mem_singleton] at g; omega
def NoughtsIn (W : World) (P : List Nat) (m : Nat) (so : Value) (wr : World) : Prop := ∃ j : Nat, j ≤ m ∧ Own8 wr W.heap.size so (P ++ List.replicate j 0) ∧ Keeps W wr
set_option maxHeartbeats 2000000 in
theorem ref_padded (v : Value) (bs : List Nat) (w : World) (h : Holds8 w v bs) (hl : bs.length ≤ 1000000) : Calls Tryd.prog 72 #[v] w (fun e w' => ∃ v', e = .returned v' ∧ Own8 w' w.heap.size v' (padB bs) ∧ Keeps w w') := by
  obtain ⟨i0, hi, hz0, hz1, hz2⟩ := info_parts info8
  have hlt := Lib.hid h.1
  obtain ⟨_, ao, len, cap, rfl, h2, h3, h4, h5⟩ := h
  subst h2
  go_enter Tryd.func72, Tryd.ntmps72
  go_upto_region 1 with fail
  go_cut [3] (fun s wx => Own8 wx w.heap.size s bs ∧ Keeps w wx)
  case first =>
    have hown := World.ownsRow_made (base := w.heap.size) (e := 5) (size := 1) w #[] 0 (Nat.le_refl _) (Nat.zero_le _) rfl
    rcases h5 with h5 | ⟨b, off, rfl, h6, h7⟩
    · obtain rfl : bs = [] := List.eq_nil_of_length_eq_zero h5
      clear h3 h4 h5 hl hlt
      have HO := Lib.hid hown
      clear hown
      rcases ao with _ | ad
      · go_wp2_with fail
        go_meet
        exact ⟨⟨HO.out, by simp⟩, (Keeps.refl w).alloc _⟩
      · go_wp2_with fail
        go_meet
        exact ⟨⟨HO.out, by simp⟩, (Keeps.refl w).alloc _⟩
    · have HC := Lib.hid (cells_in8 h7 (Nat.le_refl _))
      rw [List.take_of_length_le (Nat.le_refl _)] at HC
      have hc : bs.length ≤ cap := h3
      have hm : cap ≤ maxLen := h4.1
      clear h7 h3 h4
      go_wp2_with (at_builtin; refine wpList_append_own _ rfl (.tmp 6) (.tmp 7) 25 rfl w.heap.size 5 i0 (.int .u8 0) 1 1 Tryd.underlying25 hi hz0 hz1 hz2 rfl (by decide) _ 0 [] rfl hown ⟨b, off, none⟩ bs.length cap (bs.map fun x : Nat => Value.int .u8 (x : Int)) rfl ?c1 ?c2 ?c3 ?c4 ?c5 ?c6 ?_)
      case c1 => rw [List.length_map]; omega
      case c2 => exact fun j u hj => add_cell (HC.out j u hj) h6
      case c3 => intro u hu; obtain ⟨x, _, rfl⟩ := List.mem_map.1 hu; rfl
      case c4 => unfold maxLen; omega
      case c5 => omega
      case c6 => simp
      intro v' w1 ho hg _
      have HO := Lib.hid (show Own8 w1 w.heap.size v' bs from ⟨by simpa [vals8] using ho, hlt.out⟩)
      have HK := Lib.hid (keeps_grow2 ((Keeps.refl w).alloc _) hown hg)
      clear ho hg hown
      go_wp2_with fail
      go_meet
      exact ⟨HO.out, HK.out⟩
  case rest =>
    obtain ⟨hown, hK⟩ := hcut
    have HO := Lib.hid hown
    have HK := Lib.hid hK
    clear hown hK h3 h4 h5
    go_wp2_with (at_builtin; refine wpList_append_own _ rfl (.tmp 9) (.tmp 10) 25 rfl w.heap.size 5 i0 (.int .u8 0) 1 1 Tryd.underlying25 hi hz0 hz1 hz2 rfl (by decide) _ _ _ rfl (HO.out.1.alloc _) ⟨_, 0, none⟩ 1 1 [.int .u8 128] rfl (by rfl) ?c2 ?c3 ?c4 ?c5 ?c6 ?_)
    case c2 => first | exact cell_one_new _ _ _ | exact fun j u h => h
    case c3 => first | rfl | (intro u hu; rw [List.mem_singleton] at hu; subst hu; rfl)
    case c4 => unfold maxLen; omega
    case c5 => omega
    case c6 => (try rw [World.size_alloc]); have := HK.out.size; omega
    intro v' w1 ho hg _
    have HO1 := Lib.hid (own8_more HO.out.2 (d := 128) (by decide) ho)
    have HK1 := Lib.hid (keeps_grow2 (HK.out.alloc _) (HO.out.1.alloc _) hg)
    clear ho hg HO HK
    obtain ⟨P, eP⟩ : ∃ P, P = bs ++ [128] := ⟨_, rfl⟩
    rw [← eP] at HO1
    have hPl : P.length = bs.length + 1 := by rw [eP]; simp
    obtain ⟨m, em⟩ : ∃ m, m = pads bs.length := ⟨_, rfl⟩
    have hm : m < 64 := by rw [em]; exact Nat.mod_lt _ (by decide)
    have hm2 : (P.length + m) % 64 = 56 := by rw [em, pads, hPl]; omega
    have EP := Lib.hid (show padB bs = (P ++ List.replicate m 0) ++ big 8 (8 * bs.length % 18446744073709551616) by rw [eP, em, padB]; simp)
    have hPb : P.length ≤ 1000001 := by omega
    go_wp2_with fail
    go_loopw [3] (fun so wr => NoughtsIn w P m so wr) (fun so _ => m + P.length - lenV so)
    case atStart => exact ⟨0, by omega, by simpa using HO1.out, HK1.out⟩
    case round =>
      clear HO1 HK1
      obtain ⟨j, hj, hown, hK⟩ := hrel
      obtain ⟨Q, eQ⟩ : ∃ Q, Q = P ++ List.replicate j 0 := ⟨_, rfl⟩
      rw [← eQ] at hown
      have hQl : Q.length = P.length + j := by rw [eQ]; simp
      obtain ⟨gb, cp, rfl, hgb⟩ := hown.parts (by omega)
      obtain ⟨l, el⟩ : ∃ l, l = Q.length := ⟨_, rfl⟩
      rw [← el]
      by_cases g : j < m
      · have t1 : ((l : Int) % 64 != 56) = true := by
          have : (l : Int) % 64 = ((l % 64 : Nat) : Int) := rfl
          rw [this]; simp; omega
        have hlb : l ≤ 1000100 := by omega
        have HL := Lib.hid (show Q.length = l from el.symm)
        have NX := Lib.hid (show P ++ List.replicate (j + 1) 0 = Q ++ [0] by rw [eQ, List.replicate_succ', List.append_assoc])
        have HO := Lib.hid hown
        have HK := Lib.hid hK
        have KB := Lib.hid g
        have HQ := Lib.hid hQl
        have HW := Lib.hid (show ∀ o, (wr.alloc o).ownsRow w.heap.size 5 1 (.slice (some ⟨gb, 0, none⟩) l cp) l (vals8 Q) from fun o => by have h := HO.out.1.alloc o; rw [HL.out] at h; exact h)
        clear hown hK g hj el eQ hQl
        go_wp2_with (at_builtin; refine wpList_append_own _ rfl (.tmp 16) (.tmp 17) 25 rfl w.heap.size 5 i0 (.int .u8 0) 1 1 Tryd.underlying25 hi hz0 hz1 hz2 rfl (by decide) _ l (vals8 Q) rfl (HW.out _) ⟨_, 0, none⟩ 1 1 [.int .u8 0] rfl (by rfl) ?c2 ?c3 ?c4 ?c5 ?c6 ?_)
        case c2 => first | exact cell_one_new _ _ _ | exact fun j u h => h
        case c3 => first | rfl | (intro u hu; rw [List.mem_singleton] at hu; subst hu; rfl)
        case c4 => unfold maxLen; omega
        case c5 => omega
        case c6 => (try rw [World.size_alloc]); have := HK.out.size; omega
        intro v' w1 ho hg _
        have HO2 := Lib.hid (own8_more HO.out.2 (d := 0) (by decide) (by rw [HL.out]; exact ho))
        have HK2 := Lib.hid (keeps_grow2 (HK.out.alloc _) (HO.out.1.alloc _) hg)
        clear ho hg
        go_wp2_with fail
        go_roundw
        case rel => exact ⟨j + 1, KB.out, by rw [NX.out]; exact HO2.out, HK2.out⟩
        case measure =>
          have hv := HO2.out.len
          have := KB.out; have := HL.out; have := HQ.out
          rw [List.length_append, List.length_singleton] at hv
          show m + P.length - lenV v' < m + P.length - l
          rw [hv]
          omega
      · obtain rfl : j = m := by omega
        have t1 : ((l : Int) % 64 != 56) = false := by
          have : (l : Int) % 64 = ((l % 64 : Nat) : Int) := rfl
          rw [this]; simp; omega
        rw [← eQ] at EP
        have HL := Lib.hid (show Q.length = l from el.symm)
        have HO := Lib.hid hown
        have HK := Lib.hid hK
        have L0 : (0 : Int) ≤ (bs.length : Int) := by omega
        have L1 : (bs.length : Int) ≤ 1000000 := by omega
        obtain ⟨N, eN⟩ : ∃ N, N = 8 * bs.length % 18446744073709551616 := ⟨_, rfl⟩
        have hN : N = 8 * bs.length := by omega
        rw [← eN] at EP
        have N0 : (0 : Int) ≤ (N : Int) := by omega
        have N1 : (N : Int) ≤ 8000000 := by omega
        have q1 : IntKind.u64.wrap (8 * (bs.length : Int)) = (N : Int) := by rw [IntWalk.u64_in _ (by omega)]; omega
        have q2 : IntKind.u64.wrap (bs.length : Int) = (bs.length : Int) := IntWalk.u64_in _ (by omega)
        have hlb : l ≤ 1000100 := by omega
        clear hown hK g hj el eQ hQl eN hN hm2 eP em hPl
        go_wp2_with fail
        go_loopw [3, 5] (fun so sk wr => BigIn w Q N so sk wr) (fun _ sk _ => (intOf sk + 8).toNat)
        case atStart => exact ⟨0, by omega, rfl, by rw [List.take_zero, List.append_nil, ← HL.out]; exact HO.out, HK.out⟩
        case round =>
          clear HO HK
          obtain ⟨j, hj, rfl, hown, hK⟩ := hrel
          by_cases g : j < 8
          · obtain ⟨k, ek⟩ : ∃ k, k = 56 - 8 * j := ⟨_, rfl⟩
            have e1 : 56 - 8 * (j : Int) = (k : Int) := by omega
            have e2 : IntKind.i64.wrap ((k : Int) - 8) = (k : Int) - 8 := IntWalk.i64_in _ (by omega)
            rw [e1]
            have k0 : (0 : Int) ≤ (k : Int) := by omega
            have k1 : ¬ (k : Int) < 0 := by omega
            have k2 : min k 64 = k := by omega
            have NX := Lib.hid (big_next N j g)
            rw [← ek] at NX
            have U := Lib.hid (u8_shr N k)
            obtain ⟨M, eM⟩ : ∃ M, M = Q ++ (big 8 N).take j := ⟨_, rfl⟩
            have EM := Lib.hid (show Q ++ (big 8 N).take (j + 1) = M ++ [N / 2 ^ k % 256] by rw [NX.out, eM, List.append_assoc])
            rw [← eM] at hown
            obtain ⟨z, ez⟩ : ∃ z, z = M.length := ⟨_, rfl⟩
            have hz : z ≤ 2000000 := by rw [ez, eM, List.length_append, List.length_take, big_len, HL.out]; omega
            have HO := Lib.hid hown
            have HZ := Lib.hid ez
            have HW := Lib.hid (show ∀ o, (wr.alloc o).ownsRow w.heap.size 5 1 u3 z (vals8 M) from fun o => by have h := HO.out.1.alloc o; rw [← HZ.out] at h; exact h)
            have HK := Lib.hid hK
            have KB := Lib.hid g
            have EK := Lib.hid ek
            clear hown hK g hj e1 ek eM ez
            go_wp2_with (at_builtin; refine wpList_append_own _ rfl (.tmp 27) (.tmp 32) 25 rfl w.heap.size 5 i0 (.int .u8 0) 1 1 Tryd.underlying25 hi hz0 hz1 hz2 rfl (by decide) _ _ _ rfl (HW.out _) ⟨_, 0, none⟩ 1 1 [.int .u8 ((N : Int) / 2 ^ k % 256)] rfl (by rfl) ?c2 ?c3 ?c4 ?c5 ?c6 ?_)
            case c3 => first | rfl | (intro u hu; rw [List.mem_singleton] at hu; subst hu; rfl)
            case c4 => unfold maxLen; omega
            case c5 => omega
            case c6 => (try rw [World.size_alloc]); have := HK.out.size; omega
            intro v' w1 ho hg _
            rw [U.out] at ho
            have HO2 := Lib.hid (own8_more HO.out.2 (Nat.mod_lt _ (by decide)) (by rw [← HZ.out]; exact ho))
            have HK2 := Lib.hid (keeps_grow2 (HK.out.alloc _) (HO.out.1.alloc _) hg)
            clear ho hg
            go_wp2_with fail
            go_roundw
            case rel => exact ⟨j + 1, KB.out, (by have h1 := EK.out; have h2 := KB.out; refine congrArg (Value.int .i64) ?_; omega), by rw [EM.out]; exact HO2.out, HK2.out⟩
            case measure => have := KB.out; simp [intOf] <;> omega
          · obtain rfl : j = 8 := by omega
            have e8 : (big 8 N).take 8 = big 8 N := List.take_of_length_le (by rw [big_len]; exact Nat.le_refl _)
            rw [e8, ← EP.out] at hown
            have HO := Lib.hid hown
            have HK := Lib.hid hK
            clear hown hK e8 hj g
            go_wp2_with fail
            go_ret
            exact ⟨_, rfl, HO.out, HK.out⟩
end Go.Proofs.YtckikgfckihniaaDoor
