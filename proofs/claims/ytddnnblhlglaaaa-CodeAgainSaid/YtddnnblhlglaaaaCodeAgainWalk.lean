/- The walk of the law CodeAgain: the Go text answers true, whatever the bytes and the kinds. -/
import Derived.Test.YtddnnblhlglaaaaCodeRows
import Derived.Test.YtddnnblhlglaaaaCodeTellsWalk
set_option linter.unusedVariables false
set_option linter.unusedSimpArgs false
set_option maxRecDepth 10000
namespace Go.Proofs.Ytddnnblhlglaaaa
open Go.RowKit Go.HashMath Go.CodeMath

/-- The part that is read. -/
def readP (k : Int) (s : St) : P8 := ⟨k, if (k % 4).toNat = 0 then (natO (numO s) : Int) else 0, if (k % 4).toNat = 1 then natO (u64O s) else 0, if (k % 4).toNat = 2 then rowO (bytO s) else [], if (k % 4).toNat = 3 then sumO (hasO s) else List.replicate 32 0⟩
theorem readP_kd (k : Int) (s : St) : (readP k s).kd = (k % 4).toNat := rfl
theorem zeros_ok : Sum32 (List.replicate 32 0) := ⟨by simp, fun x hx => by rw [List.eq_of_mem_replicate hx]; decide⟩
theorem u64O_lt {s : St} (h : Fine s) : natO (u64O s) < 18446744073709551616 := by
  rw [(u64O_take s).1]
  refine unbig_8 ?_ (rowO_len s)
  cases s with
  | none => intro x hx; cases hx
  | some xs =>
    by_cases g : 8 ≤ xs.length
    · rw [takeO_some g]; intro x hx; exact h x (List.mem_of_mem_take hx)
    · rw [takeO_none g]; intro x hx; cases hx
theorem readP_ok {k : Int} {s : St} (hk : -9223372036854775808 ≤ k ∧ k ≤ 9223372036854775807) (h : Fine s) : okPart (readP k s) := by
  refine ⟨hk, ?_, ?_, ?_⟩
  · show -9223372036854775808 ≤ (if (k % 4).toNat = 0 then (natO (numO s) : Int) else 0) ∧ (if (k % 4).toNat = 0 then (natO (numO s) : Int) else 0) ≤ 9223372036854775807
    have := numO_lt h
    split <;> omega
  · show (if (k % 4).toNat = 1 then natO (u64O s) else 0) < 18446744073709551616
    have := u64O_lt h
    split <;> omega
  · show Sum32 (if (k % 4).toNat = 3 then sumO (hasO s) else List.replicate 32 0)
    split
    · exact sum_ok h
    · exact zeros_ok
theorem again_part {k : Int} {xs r : List Nat} (hx : ∀ x ∈ xs, x < 256) (h : nextP (some xs) (k % 4).toNat = some r) : xs = encP (readP k (some xs)) ++ r := by
  refine read_part hx (fun _ => trivial) h ?_ ?_ ?_
  · rcases kd_cases (readP k (some xs)) with g | g | g | g
    · have g' : (k % 4).toNat = 0 := g
      rw [same_0 g]; refine decide_eq_true ?_; show _ = (if (k % 4).toNat = 0 then _ else _); rw [if_pos g']
    · have g' : (k % 4).toNat = 1 := g
      rw [same_1 g]; refine decide_eq_true ?_; show _ = (if (k % 4).toNat = 1 then _ else _); rw [if_pos g']
    · have g' : (k % 4).toNat = 2 := g
      rw [same_2 g]; refine decide_eq_true ?_; show _ = (if (k % 4).toNat = 2 then _ else _); rw [if_pos g']
    · have g' : (k % 4).toNat = 3 := g
      rw [same_3 g]; refine decide_eq_true ?_; show _ = (if (k % 4).toNat = 3 then _ else _); rw [if_pos g']
  · show 0 ≤ (if (k % 4).toNat = 0 then (natO (numO (some xs)) : Int) else 0)
    split <;> omega
  · show (if (k % 4).toNat = 1 then natO (u64O (some xs)) else 0) < 18446744073709551616
    have := u64O_lt (s := some xs) hx
    split <;> omega
theorem wp_world {P : Program} {c : Code} {Q : Exit → Act → World → Prop} {a : Act} (w : World) (h : ∀ W, W = w → c.wp P Q a W) : c.wp P Q a w := h w rfl
theorem there_blk {w : World} {z o k : Nat} {cs : List Value} {T : TypeId} (h : w.heap[z]? = some (.cells cs.toArray T (0, 0))) (hk : o + k ≤ cs.length) : w.there z o k := fun j hj => by
  have hj2 : o + j < cs.length := by omega
  constructor
  · simp [World.cell?, h, hj2]
  · simp [World.frozen?, h]
theorem set_blk {w : World} {z i : Nat} {cs : List Value} {T : TypeId} {v : Value} (h : w.heap[z]? = some (.cells cs.toArray T (0, 0))) : (w.setCell ⟨z, i, none⟩ v).heap[z]? = some (.cells (cs.set i v).toArray T (0, 0)) := by
  simp [World.setCell, Array.getElem?_modify, h]
theorem splice_sum {p : P8} {u : Value} {q : List Nat} (h : okPart p) (hq : Sum32 q) : splice (partCells p u) 4 (vals8 q) = partCells ⟨p.todo, p.num, p.u64, p.some, q⟩ u := by
  have h1 := h.2.2.2.1
  unfold splice partCells
  simp only [List.take_succ_cons, List.take_zero, List.cons_append, List.nil_append]
  rw [show 4 + (vals8 q).length = 36 by rw [vals8, List.length_map, hq.1], List.drop_of_length_le (by simp [vals8, h1]), List.append_nil]
def AgainAt (Rd : World → Value → (Nat → Prop) → St → Prop) (S : Nat → Prop) (r0 : Value) (bs : List Nat) (ks : List Int) (B : Nat) (W : World) (sv si : Value) (wr : World) : Prop := ∃ (i : Nat) (l : List P8) (r : List Nat), i ≤ ks.length ∧ si = .int .i64 (i : Int) ∧ l.length = i ∧ OwnP wr B sv l ∧ Rd wr r0 S (some r) ∧ bs = laidL l ++ r ∧ Keeps W wr ∧ B ≤ wr.heap.size
set_option maxHeartbeats 8000000 in
set_option maxRecDepth 100000 in
theorem again_walk {Rd : World → Value → (Nat → Prop) → St → Prop} (P : PutC) (R : ReadC Rd) (v u : Value) (bs : List Nat) (ks : List Int) (w0 : World) (h : Holds8 w0 v bs) (hb : bs.length ≤ 140737488355328) (h' : HoldsZ w0 u ks) :
    Calls Try.prog 4 #[v, u] w0 fun e w' => e = .returned (.bool true) ∧ Keeps w0 w' := by
  have HB := Lib.hid h
  have HH := Lib.hid h'
  have SM := Lib.hid (code_small P R w0)
  have RC := Lib.hid R
  have PC := Lib.hid P
  have BL := Lib.hid hb
  have hlen := h.len
  obtain ⟨_, bo, m, d, rfl, hm, _⟩ := h
  obtain ⟨ao, n, c, rfl, hn, hlc, hcm, _⟩ := h'
  have hlen' : ks.length ≤ 9223372036854775807 := by
    have := hcm.1
    unfold maxLen at this
    omega
  subst hn hm
  clear P R hb hcm hlc
  go_enter Try.func4, Try.ntmps4
  go_upto_region 3 with (first
    | (go_at_call 7; refine SM.out.mono ?_; rintro e w1 ⟨rfl, hk1⟩)
    | (go_at_call 9; refine (RC.out.copen _ _ _ (HB.out.keeps hk1) BL.out).mono ?_; rintro e w2 ⟨r, S, rfl, hr2, hk2, hS⟩))
  obtain ⟨gr, rfl⟩ := RC.out.rsome _ _ _ _ hr2
  have K2 := Lib.hid (hk1.trans hk2)
  have R2 := Lib.hid hr2
  have HS := Lib.hid (show ∀ i, S i → w0.heap.size ≤ i from fun i hi => Nat.le_trans hk1.size (hS i hi))
  have SB := Lib.hid (RC.out.rbound _ _ _ _ hr2)
  clear hr2 hk1 hk2 hS
  by_cases g : bs.length ≤ 1000 ∧ ks.length ≤ 40
  · have g1 : ¬ (bs.length : Int) > 1000 := by omega
    have g2 : ¬ (ks.length : Int) > 40 := by omega
    have G := Lib.hid g
    clear g
    have RK := Lib.hid (show ∀ S w w' v s, Rd w v S s → Keeps w w' → Rd w' v S s from fun S w w' v s h k => RC.out.rlasts S (fun _ => False) w w' v s h (Mut.of k _) (fun _ _ q => q))
    go_upto_region 7 with fail
    go_loopw [7, 8] (fun sv si wr => AgainAt Rd S (.pointer (some ⟨gr, 0, none⟩)) bs ks w2.heap.size w0 sv si wr) (fun _ si _ => ks.length - (intOf si).toNat)
    case atStart => exact ⟨0, [], bs, by omega, rfl, rfl, OwnP.nil _ _, R2.out, rfl, K2.out, Nat.le_refl _⟩
    case round =>
      obtain ⟨i, l, rs, hi, rfl, hli, hO, hR, hE, hK, hB⟩ := hrel
      have i0 : (0 : Int) ≤ (i : Int) := by omega
      have l1 : (ks.length : Int) ≤ 9223372036854775807 := by omega
      have HO := Lib.hid hO
      have HR := Lib.hid hR
      have HE := Lib.hid hE
      have HK := Lib.hid hK
      have HBW := Lib.hid hB
      have FN := Lib.hid (RC.out.rfine _ _ _ _ hR)
      have SN := Lib.hid (RC.out.rbound _ _ _ _ hR)
      by_cases gi : i < ks.length
      · obtain ⟨b, off, n, c', e, hn, hbz, hrg, hc⟩ := (HH.out.keeps hK).at i gi
        cases e
        generalize ks.getD i 0 = k at *
        have KR := Lib.hid hrg
        have GB := Lib.hid (show i < ks.length ∧ l.length = i from ⟨gi, hli⟩)
        have i1 : (i : Int) < (ks.length : Int) := by omega
        have P0 := Lib.hid (show okPart ⟨k, 0, 0, [], List.replicate 32 0⟩ from ⟨hrg, by show (-9223372036854775808 : Int) ≤ 0 ∧ (0 : Int) ≤ 9223372036854775807; decide, by show (0 : Nat) < 18446744073709551616; decide, zeros_ok⟩)
        have SMA := Lib.hid (show (Try.prog.info? 29).map (·.size) = some (partCells ⟨k, 0, 0, [], List.replicate 32 0⟩ (.slice none 0 0)).toArray.size by rw [List.size_toArray, partCells_len P0.out]; exact sizPart)
        have SMP := Lib.hid (show (Try.prog.info? 29).map (·.size) = some (partCells ⟨k, 0, 0, [], List.replicate 32 0⟩ (.slice none 0 0)).length by rw [partCells_len P0.out]; exact sizPart)
        have SZ := Lib.hid (show 36 = (partCells ⟨k, 0, 0, [], List.replicate 32 0⟩ (.slice none 0 0)).toArray.size by rw [List.size_toArray, partCells_len P0.out])
        obtain ⟨p0, ep0⟩ : ∃ p : P8, p = ⟨k, 0, 0, [], List.replicate 32 0⟩ := ⟨_, rfl⟩
        have E0 := Lib.hid ep0
        obtain ⟨z, ez⟩ : ∃ z, z = wr.heap.size := ⟨_, rfl⟩
        have EZ := Lib.hid ez
        clear hO hR hE hK hB hi gi hli ez hrg hbz ep0
        go_upto_region 10 with (refine wpList_store_row rfl 29 (.tmp 9) (.tmp 41) rfl wr.heap.size (partCells ⟨k, 0, 0, [], List.replicate 32 0⟩ (.slice none 0 0)).toArray (by rfl) (by rfl) 29 _ (heap_alloc_new _ _) SMA.out SZ.out (oneCells rfl) ?_)
        refine wp_named fun W4 hk4 hb4 => ?_
        rw [← EZ.out] at hb4 ⊢
        rw [← E0.out] at hb4
        rw [← E0.out] at P0 SMP
        have Z4 := Lib.hid (lt_of_block hb4)
        have B4 := Lib.hid hb4
        have R4 := Lib.hid (RK.out _ _ _ _ _ HR.out hk4)
        have W4K := Lib.hid hk4
        have RG4 := Lib.hid (show ∀ W, Keeps W4 W → W.rangeAt z 0 (partCells p0 (.slice none 0 0)) from fun W q => range_blk ((Below.block q z Z4.out).trans B4.out))
        have SZN := Lib.hid (show ¬ S z from fun q => by have := SN.out z q; have := EZ.out; omega)
        have KD := Lib.hid (fun w => kind_at p0 (.slice none 0 0) w P0.out)
        have OKP := Lib.hid (readP_ok KR.out FN.out)
        have AP := Lib.hid (fun r' (h : nextP (some rs) (k % 4).toNat = some r') => again_part (k := k) FN.out h)
        have LL := Lib.hid (show l.length ≤ 40 by have := GB.out; have := G.out; omega)
        obtain ⟨kd, ekd⟩ : ∃ kd, kd = (k % 4).toNat := ⟨_, rfl⟩
        have KD := Lib.hid (show ∀ w, Calls Try.prog 12 #[.agg (partCells p0 (.slice none 0 0)).toArray] w (fun e w' => e = .returned (.int .i64 (kd : Int)) ∧ Keeps w w') by have e := KD.out; rw [show p0.kd = kd by rw [E0.out, ekd]; rfl] at e; exact e)
        have hkd : kd < 4 := by omega
        rw [← ekd] at AP
        have EK := Lib.hid ekd
        clear hb4 hk4 ekd
        have hk4 : kd = 0 ∨ kd = 1 ∨ kd = 2 ∨ kd = 3 := by omega
        clear hkd
        rcases hk4 with rfl | rfl | rfl | rfl
        · have AQ := Lib.hid (show ∀ r', restO (numO (some rs)) = some r' → rs = encP (readP k (some rs)) ++ r' from fun r' h => AP.out r' h)
          obtain ⟨q, eq⟩ : ∃ q, q = natO (numO (some rs)) := ⟨_, rfl⟩
          have EP := Lib.hid (show readP k (some rs) = ⟨k, (q : Int), 0, [], List.replicate 32 0⟩ by
            have e := EK.out
            unfold readP
            rw [← e, eq]
            rfl)
          obtain ⟨p7, ep7⟩ : ∃ p : P8, p = ⟨k, (q : Int), 0, [], List.replicate 32 0⟩ := ⟨_, rfl⟩
          rw [EP.out, ← ep7] at AQ
          rw [EP.out, ← ep7] at OKP
          have E7 := Lib.hid ep7
          obtain ⟨nx, enx⟩ : ∃ nx, nx = restO (numO (some rs)) := ⟨_, rfl⟩
          have NR := Lib.hid (fun w => RC.out.cnum S (.pointer (some ⟨gr, 0, none⟩)) (some rs) w)
          rw [← eq, ← enx] at NR
          rw [← enx] at AQ
          clear eq enx EP ep7
          have KK := Lib.hid (fun w => (KD.out w : Calls Try.prog _ _ w (fun e w' => e = .returned (.int .i64 0) ∧ Keeps w w')))
          go_upto_region 13 with (first
            | (refine wpList_load_mid rfl 29 (.tmp 9) rfl z 0 (by rfl) (partCells p0 (.slice none 0 0)) _ (RG4.out _ (Keeps.refl _)) undPart rfl SMP.out ?_)
            | (go_at_call 12; refine (KK.out _).mono ?_; rintro e w5 ⟨rfl, hk5⟩))
          have R5 := Lib.hid (RK.out _ _ _ _ _ R4.out hk5)
          have K5 := Lib.hid (W4K.out.trans hk5)
          have B5 := Lib.hid ((Below.block hk5 z Z4.out).trans B4.out)
          have Z5 := Lib.hid (Nat.lt_of_lt_of_le Z4.out hk5.size)
          clear hk5
          go_upto_region 18 with (go_at_call 13; refine (NR.out _ R5.out).mono ?_; rintro e w6 ⟨rfl, hr6, hm6⟩; have B6 := Lib.hid ((hm6.block z Z5.out SZN.out).trans B5.out); have cz := range_blk B6.out 1 _ rfl; have fz : w6.frozen? ⟨z, 1, none⟩ = false := (by simp [World.frozen?, B6.out]); rw [Nat.zero_add] at cz)
          refine wp_world (w6.setCell ⟨z, 1, none⟩ (.int .i64 (q : Int))) fun W7 eW => ?_
          have B7 := Lib.hid (show W7.heap[z]? = some (.cells (partCells p7 (.slice none 0 0)).toArray 29 (0, 0)) by have z7 := set_blk (i := 1) (v := .int .i64 (q : Int)) B6.out; rw [← eW] at z7; rw [z7, E0.out, E7.out]; rfl)
          have T7 := Lib.hid (show Wrt z w6 W7 by rw [eW]; exact (Wrt.refl z w6).set _ _)
          have R7 := Lib.hid (RC.out.rlasts S (fun i => i = z) _ _ _ _ hr6 (Mut.wrt T7.out rfl) (fun i hi e => SZN.out (e ▸ hi)))
          have M7 := Lib.hid (show Mut S wr W7 from ((Mut.of K5.out S).trans hm6).wrtNew T7.out (by have := EZ.out; omega))
          have K7 := Lib.hid (M7.out.since HK.out HS.out)
          have U7 := Lib.hid (show Own8 W7 w2.heap.size (.slice none 0 0) p7.some from by rw [E7.out]; exact own8_nil _ _)
          clear hr6 hm6 eW cz fz
          cases nx with
          | none =>
            have F1 := Lib.hid (show ∀ w', Rd w' (.pointer (some ⟨gr, 0, none⟩)) S none → Calls Try.prog 17 #[.pointer (some ⟨gr, 0, none⟩)] w' (fun e w2 => e = .returned (.bool false) ∧ Keeps w' w2) from fun w' h => RC.out.cok S _ _ w' h)
            have F2 := Lib.hid (show ∀ w', Rd w' (.pointer (some ⟨gr, 0, none⟩)) S none → Calls Try.prog 11 #[.pointer (some ⟨gr, 0, none⟩)] w' (fun e w2 => e = .returned (.int .i64 0) ∧ Keeps w' w2) from fun w' h => RC.out.cleft S _ _ w' h)
            go_wp2_with (first
              | (go_at_call 11; refine (F2.out _ (RK.out _ _ _ _ _ R7.out hk8)).mono ?_; rintro e w9 ⟨rfl, hk9⟩)
              | (go_at_call 17; refine (F1.out _ R7.out).mono ?_; rintro e w8 ⟨rfl, hk8⟩))
            go_ret
            exact ⟨rfl, (K7.out.trans hk8).trans hk9⟩
          | some r' =>
            have F1 := Lib.hid (show ∀ w', Rd w' (.pointer (some ⟨gr, 0, none⟩)) S (some r') → Calls Try.prog 17 #[.pointer (some ⟨gr, 0, none⟩)] w' (fun e w2 => e = .returned (.bool true) ∧ Keeps w' w2) from fun w' h => RC.out.cok S _ _ w' h)
            have RG7 := Lib.hid (show ∀ W, Keeps W7 W → W.rangeAt z 0 (partCells p7 (.slice none 0 0)) from fun W qq => range_blk ((Below.block qq z (lt_of_block B7.out)).trans B7.out))
            have SM7 := Lib.hid (show (Try.prog.info? 29).map (·.size) = some (partCells p7 (.slice none 0 0)).length by rw [partCells_len OKP.out]; exact sizPart)
            go_upto_region 8 with (first
              | (refine wpList_load_mid rfl 29 (.tmp 9) rfl z 0 (by rfl) (partCells p7 (.slice none 0 0)) _ (RG7.out _ hk8) undPart rfl SM7.out ?_)
              | (refine wpList_onePart rfl (.tmp 72) rfl (partCells p7 (.slice none 0 0)) (by rfl) (partCells_len OKP.out) ?_)
              | (at_builtin; refine wpList_appendP rfl (.tmp 71) (.tmp 73) rfl w2.heap.size _ l p7 (.slice none 0 0) w8.heap.size 1 (by rfl) ((HO.out.mut M7.out SB.out).keeps (hk8.alloc _)) (by rfl) OKP.out (U7.out.keeps (hk8.alloc _)) (range_blk (heap_alloc_new w8 _)) (by have := LL.out; omega) (Nat.le_trans HBW.out (Nat.le_trans M7.out.size (hk8.alloc _).size)) ?_)
              | (go_at_call 17; refine (F1.out _ R7.out).mono ?_; rintro e w8 ⟨rfl, hk8⟩))
            intro v9 w9 ho9 hb9 hg9
            have O9 := Lib.hid ho9
            have K9 := Lib.hid (show Keeps w0 w9 from Below.trans ((K7.out.trans hk8).alloc _) (Below.mono hb9 K2.out.size))
            have S9 := Lib.hid (show w2.heap.size ≤ w9.heap.size from Nat.le_trans HBW.out (Nat.le_trans M7.out.size (Nat.le_trans (hk8.alloc _).size hb9.size)))
            have R9 := Lib.hid (RC.out.rlasts S (fun j => u7.ownBlock = some j) _ _ _ _ (RK.out _ _ _ _ _ R7.out (hk8.alloc _)) ⟨hg9.os, hg9.tape, hg9.output, hg9.size, fun j hj hn => hg9.block j hj (fun e => hn e.symm)⟩ (fun j hj e => by obtain ⟨us, _, q2, _⟩ := HO.out; have := (q2.lt j e).1; have := SB.out j hj; omega))
            have E9 := Lib.hid (show bs = laidL (l ++ [p7]) ++ r' by rw [HE.out, AQ.out r' rfl, ← List.append_assoc]; congr 1; simp [laidL])
            clear ho9 hb9 hg9 hk8
            go_wp2_with fail
            go_roundw
            case rel => exact ⟨i + 1, l ++ [p7], r', GB.out.1, by go_num, by rw [List.length_append, GB.out.2]; rfl, O9.out, R9.out, E9.out, K9.out, S9.out⟩
            case measure => have := GB.out; simp [intOf] <;> omega
        · have AQ := Lib.hid (show ∀ r', restO (u64O (some rs)) = some r' → rs = encP (readP k (some rs)) ++ r' from fun r' h => AP.out r' h)
          obtain ⟨q, eq⟩ : ∃ q, q = natO (u64O (some rs)) := ⟨_, rfl⟩
          have EP := Lib.hid (show readP k (some rs) = ⟨k, 0, q, [], List.replicate 32 0⟩ by
            have e := EK.out
            unfold readP
            rw [← e, eq]
            rfl)
          obtain ⟨p7, ep7⟩ : ∃ p : P8, p = ⟨k, 0, q, [], List.replicate 32 0⟩ := ⟨_, rfl⟩
          rw [EP.out, ← ep7] at AQ
          rw [EP.out, ← ep7] at OKP
          have E7 := Lib.hid ep7
          obtain ⟨nx, enx⟩ : ∃ nx, nx = restO (u64O (some rs)) := ⟨_, rfl⟩
          have NR := Lib.hid (fun w => RC.out.cu64 S (.pointer (some ⟨gr, 0, none⟩)) (some rs) w)
          rw [← eq, ← enx] at NR
          rw [← enx] at AQ
          clear eq enx EP ep7
          have KK := Lib.hid (fun w => (KD.out w : Calls Try.prog _ _ w (fun e w' => e = .returned (.int .i64 1) ∧ Keeps w w')))
          go_upto_region 15 with (first
            | (refine wpList_load_mid rfl 29 (.tmp 9) rfl z 0 (by rfl) (partCells p0 (.slice none 0 0)) _ (RG4.out _ (Keeps.refl _)) undPart rfl SMP.out ?_)
            | (go_at_call 12; refine (KK.out _).mono ?_; rintro e w5 ⟨rfl, hk5⟩))
          have R5 := Lib.hid (RK.out _ _ _ _ _ R4.out hk5)
          have K5 := Lib.hid (W4K.out.trans hk5)
          have B5 := Lib.hid ((Below.block hk5 z Z4.out).trans B4.out)
          have Z5 := Lib.hid (Nat.lt_of_lt_of_le Z4.out hk5.size)
          clear hk5
          go_upto_region 18 with (go_at_call 14; refine (NR.out _ R5.out).mono ?_; rintro e w6 ⟨rfl, hr6, hm6⟩; have B6 := Lib.hid ((hm6.block z Z5.out SZN.out).trans B5.out); have cz := range_blk B6.out 2 _ rfl; have fz : w6.frozen? ⟨z, 2, none⟩ = false := (by simp [World.frozen?, B6.out]); rw [Nat.zero_add] at cz)
          refine wp_world (w6.setCell ⟨z, 2, none⟩ (.int .u64 (q : Int))) fun W7 eW => ?_
          have B7 := Lib.hid (show W7.heap[z]? = some (.cells (partCells p7 (.slice none 0 0)).toArray 29 (0, 0)) by have z7 := set_blk (i := 2) (v := .int .u64 (q : Int)) B6.out; rw [← eW] at z7; rw [z7, E0.out, E7.out]; rfl)
          have T7 := Lib.hid (show Wrt z w6 W7 by rw [eW]; exact (Wrt.refl z w6).set _ _)
          have R7 := Lib.hid (RC.out.rlasts S (fun i => i = z) _ _ _ _ hr6 (Mut.wrt T7.out rfl) (fun i hi e => SZN.out (e ▸ hi)))
          have M7 := Lib.hid (show Mut S wr W7 from ((Mut.of K5.out S).trans hm6).wrtNew T7.out (by have := EZ.out; omega))
          have K7 := Lib.hid (M7.out.since HK.out HS.out)
          have U7 := Lib.hid (show Own8 W7 w2.heap.size (.slice none 0 0) p7.some from by rw [E7.out]; exact own8_nil _ _)
          clear hr6 hm6 eW cz fz
          cases nx with
          | none =>
            have F1 := Lib.hid (show ∀ w', Rd w' (.pointer (some ⟨gr, 0, none⟩)) S none → Calls Try.prog 17 #[.pointer (some ⟨gr, 0, none⟩)] w' (fun e w2 => e = .returned (.bool false) ∧ Keeps w' w2) from fun w' h => RC.out.cok S _ _ w' h)
            have F2 := Lib.hid (show ∀ w', Rd w' (.pointer (some ⟨gr, 0, none⟩)) S none → Calls Try.prog 11 #[.pointer (some ⟨gr, 0, none⟩)] w' (fun e w2 => e = .returned (.int .i64 0) ∧ Keeps w' w2) from fun w' h => RC.out.cleft S _ _ w' h)
            go_wp2_with (first
              | (go_at_call 11; refine (F2.out _ (RK.out _ _ _ _ _ R7.out hk8)).mono ?_; rintro e w9 ⟨rfl, hk9⟩)
              | (go_at_call 17; refine (F1.out _ R7.out).mono ?_; rintro e w8 ⟨rfl, hk8⟩))
            go_ret
            exact ⟨rfl, (K7.out.trans hk8).trans hk9⟩
          | some r' =>
            have F1 := Lib.hid (show ∀ w', Rd w' (.pointer (some ⟨gr, 0, none⟩)) S (some r') → Calls Try.prog 17 #[.pointer (some ⟨gr, 0, none⟩)] w' (fun e w2 => e = .returned (.bool true) ∧ Keeps w' w2) from fun w' h => RC.out.cok S _ _ w' h)
            have RG7 := Lib.hid (show ∀ W, Keeps W7 W → W.rangeAt z 0 (partCells p7 (.slice none 0 0)) from fun W qq => range_blk ((Below.block qq z (lt_of_block B7.out)).trans B7.out))
            have SM7 := Lib.hid (show (Try.prog.info? 29).map (·.size) = some (partCells p7 (.slice none 0 0)).length by rw [partCells_len OKP.out]; exact sizPart)
            go_upto_region 8 with (first
              | (refine wpList_load_mid rfl 29 (.tmp 9) rfl z 0 (by rfl) (partCells p7 (.slice none 0 0)) _ (RG7.out _ hk8) undPart rfl SM7.out ?_)
              | (refine wpList_onePart rfl (.tmp 72) rfl (partCells p7 (.slice none 0 0)) (by rfl) (partCells_len OKP.out) ?_)
              | (at_builtin; refine wpList_appendP rfl (.tmp 71) (.tmp 73) rfl w2.heap.size _ l p7 (.slice none 0 0) w8.heap.size 1 (by rfl) ((HO.out.mut M7.out SB.out).keeps (hk8.alloc _)) (by rfl) OKP.out (U7.out.keeps (hk8.alloc _)) (range_blk (heap_alloc_new w8 _)) (by have := LL.out; omega) (Nat.le_trans HBW.out (Nat.le_trans M7.out.size (hk8.alloc _).size)) ?_)
              | (go_at_call 17; refine (F1.out _ R7.out).mono ?_; rintro e w8 ⟨rfl, hk8⟩))
            intro v9 w9 ho9 hb9 hg9
            have O9 := Lib.hid ho9
            have K9 := Lib.hid (show Keeps w0 w9 from Below.trans ((K7.out.trans hk8).alloc _) (Below.mono hb9 K2.out.size))
            have S9 := Lib.hid (show w2.heap.size ≤ w9.heap.size from Nat.le_trans HBW.out (Nat.le_trans M7.out.size (Nat.le_trans (hk8.alloc _).size hb9.size)))
            have R9 := Lib.hid (RC.out.rlasts S (fun j => u7.ownBlock = some j) _ _ _ _ (RK.out _ _ _ _ _ R7.out (hk8.alloc _)) ⟨hg9.os, hg9.tape, hg9.output, hg9.size, fun j hj hn => hg9.block j hj (fun e => hn e.symm)⟩ (fun j hj e => by obtain ⟨us, _, q2, _⟩ := HO.out; have := (q2.lt j e).1; have := SB.out j hj; omega))
            have E9 := Lib.hid (show bs = laidL (l ++ [p7]) ++ r' by rw [HE.out, AQ.out r' rfl, ← List.append_assoc]; congr 1; simp [laidL])
            clear ho9 hb9 hg9 hk8
            go_wp2_with fail
            go_roundw
            case rel => exact ⟨i + 1, l ++ [p7], r', GB.out.1, by go_num, by rw [List.length_append, GB.out.2]; rfl, O9.out, R9.out, E9.out, K9.out, S9.out⟩
            case measure => have := GB.out; simp [intOf] <;> omega
        · have AQ := Lib.hid (show ∀ r', restO (bytO (some rs)) = some r' → rs = encP (readP k (some rs)) ++ r' from fun r' h => AP.out r' h)
          obtain ⟨q, eq⟩ : ∃ q, q = rowO (bytO (some rs)) := ⟨_, rfl⟩
          have EP := Lib.hid (show readP k (some rs) = ⟨k, 0, 0, q, List.replicate 32 0⟩ by
            have e := EK.out
            unfold readP
            rw [← e, eq]
            rfl)
          obtain ⟨p7, ep7⟩ : ∃ p : P8, p = ⟨k, 0, 0, q, List.replicate 32 0⟩ := ⟨_, rfl⟩
          rw [EP.out, ← ep7] at AQ
          rw [EP.out, ← ep7] at OKP
          have E7 := Lib.hid ep7
          obtain ⟨nx, enx⟩ : ∃ nx, nx = restO (bytO (some rs)) := ⟨_, rfl⟩
          have NR := Lib.hid (fun w => RC.out.cbytes S (.pointer (some ⟨gr, 0, none⟩)) (some rs) w)
          rw [← eq, ← enx] at NR
          rw [← enx] at AQ
          clear eq enx EP ep7
          have KK := Lib.hid (fun w => (KD.out w : Calls Try.prog _ _ w (fun e w' => e = .returned (.int .i64 2) ∧ Keeps w w')))
          go_upto_region 17 with (first
            | (refine wpList_load_mid rfl 29 (.tmp 9) rfl z 0 (by rfl) (partCells p0 (.slice none 0 0)) _ (RG4.out _ (Keeps.refl _)) undPart rfl SMP.out ?_)
            | (go_at_call 12; refine (KK.out _).mono ?_; rintro e w5 ⟨rfl, hk5⟩))
          have R5 := Lib.hid (RK.out _ _ _ _ _ R4.out hk5)
          have K5 := Lib.hid (W4K.out.trans hk5)
          have B5 := Lib.hid ((Below.block hk5 z Z4.out).trans B4.out)
          have Z5 := Lib.hid (Nat.lt_of_lt_of_le Z4.out hk5.size)
          clear hk5
          go_upto_region 18 with (go_at_call 15; refine (NR.out _ R5.out).mono ?_; rintro e w6 ⟨y, rfl, ho6, hr6, hm6⟩; obtain ⟨yo, yn, yc, rfl⟩ : ∃ o n c, y = .slice o n c := (by obtain ⟨_, o, n, c, e, _⟩ := ho6.holds; exact ⟨o, n, c, e⟩); have B6 := Lib.hid ((hm6.block z Z5.out SZN.out).trans B5.out); have cz := range_blk B6.out 3 _ rfl; have fz : w6.frozen? ⟨z, 3, none⟩ = false := (by simp [World.frozen?, B6.out]); rw [Nat.zero_add] at cz)
          refine wp_world (w6.setCell ⟨z, 3, none⟩ (.slice yo yn yc)) fun W7 eW => ?_
          have B7 := Lib.hid (show W7.heap[z]? = some (.cells (partCells p7 (.slice yo yn yc)).toArray 29 (0, 0)) by have z7 := set_blk (i := 3) (v := .slice yo yn yc) B6.out; rw [← eW] at z7; rw [z7, E0.out, E7.out]; rfl)
          have T7 := Lib.hid (show Wrt z w6 W7 by rw [eW]; exact (Wrt.refl z w6).set _ _)
          have R7 := Lib.hid (RC.out.rlasts S (fun i => i = z) _ _ _ _ hr6 (Mut.wrt T7.out rfl) (fun i hi e => SZN.out (e ▸ hi)))
          have M7 := Lib.hid (show Mut S wr W7 from ((Mut.of K5.out S).trans hm6).wrtNew T7.out (by have := EZ.out; omega))
          have K7 := Lib.hid (M7.out.since HK.out HS.out)
          have U7 := Lib.hid (show Own8 W7 w2.heap.size (.slice yo yn yc) p7.some from (by rw [E7.out]; exact own8_down (ho6.mut (S := fun i => i = z) (Mut.wrt T7.out rfl) (fun i hi => by have := Z5.out; omega)) (Nat.le_trans HBW.out (by have := K5.out.size; omega))))
          clear hr6 hm6 eW cz fz ho6
          cases nx with
          | none =>
            have F1 := Lib.hid (show ∀ w', Rd w' (.pointer (some ⟨gr, 0, none⟩)) S none → Calls Try.prog 17 #[.pointer (some ⟨gr, 0, none⟩)] w' (fun e w2 => e = .returned (.bool false) ∧ Keeps w' w2) from fun w' h => RC.out.cok S _ _ w' h)
            have F2 := Lib.hid (show ∀ w', Rd w' (.pointer (some ⟨gr, 0, none⟩)) S none → Calls Try.prog 11 #[.pointer (some ⟨gr, 0, none⟩)] w' (fun e w2 => e = .returned (.int .i64 0) ∧ Keeps w' w2) from fun w' h => RC.out.cleft S _ _ w' h)
            go_wp2_with (first
              | (go_at_call 11; refine (F2.out _ (RK.out _ _ _ _ _ R7.out hk8)).mono ?_; rintro e w9 ⟨rfl, hk9⟩)
              | (go_at_call 17; refine (F1.out _ R7.out).mono ?_; rintro e w8 ⟨rfl, hk8⟩))
            go_ret
            exact ⟨rfl, (K7.out.trans hk8).trans hk9⟩
          | some r' =>
            have F1 := Lib.hid (show ∀ w', Rd w' (.pointer (some ⟨gr, 0, none⟩)) S (some r') → Calls Try.prog 17 #[.pointer (some ⟨gr, 0, none⟩)] w' (fun e w2 => e = .returned (.bool true) ∧ Keeps w' w2) from fun w' h => RC.out.cok S _ _ w' h)
            have RG7 := Lib.hid (show ∀ W, Keeps W7 W → W.rangeAt z 0 (partCells p7 (.slice yo yn yc)) from fun W qq => range_blk ((Below.block qq z (lt_of_block B7.out)).trans B7.out))
            have SM7 := Lib.hid (show (Try.prog.info? 29).map (·.size) = some (partCells p7 (.slice yo yn yc)).length by rw [partCells_len OKP.out]; exact sizPart)
            go_upto_region 8 with (first
              | (refine wpList_load_mid rfl 29 (.tmp 9) rfl z 0 (by rfl) (partCells p7 (.slice yo yn yc)) _ (RG7.out _ hk8) undPart rfl SM7.out ?_)
              | (refine wpList_onePart rfl (.tmp 72) rfl (partCells p7 (.slice yo yn yc)) (by rfl) (partCells_len OKP.out) ?_)
              | (at_builtin; refine wpList_appendP rfl (.tmp 71) (.tmp 73) rfl w2.heap.size _ l p7 (.slice yo yn yc) w8.heap.size 1 (by rfl) ((HO.out.mut M7.out SB.out).keeps (hk8.alloc _)) (by rfl) OKP.out (U7.out.keeps (hk8.alloc _)) (range_blk (heap_alloc_new w8 _)) (by have := LL.out; omega) (Nat.le_trans HBW.out (Nat.le_trans M7.out.size (hk8.alloc _).size)) ?_)
              | (go_at_call 17; refine (F1.out _ R7.out).mono ?_; rintro e w8 ⟨rfl, hk8⟩))
            intro v9 w9 ho9 hb9 hg9
            have O9 := Lib.hid ho9
            have K9 := Lib.hid (show Keeps w0 w9 from Below.trans ((K7.out.trans hk8).alloc _) (Below.mono hb9 K2.out.size))
            have S9 := Lib.hid (show w2.heap.size ≤ w9.heap.size from Nat.le_trans HBW.out (Nat.le_trans M7.out.size (Nat.le_trans (hk8.alloc _).size hb9.size)))
            have R9 := Lib.hid (RC.out.rlasts S (fun j => u7.ownBlock = some j) _ _ _ _ (RK.out _ _ _ _ _ R7.out (hk8.alloc _)) ⟨hg9.os, hg9.tape, hg9.output, hg9.size, fun j hj hn => hg9.block j hj (fun e => hn e.symm)⟩ (fun j hj e => by obtain ⟨us, _, q2, _⟩ := HO.out; have := (q2.lt j e).1; have := SB.out j hj; omega))
            have E9 := Lib.hid (show bs = laidL (l ++ [p7]) ++ r' by rw [HE.out, AQ.out r' rfl, ← List.append_assoc]; congr 1; simp [laidL])
            clear ho9 hb9 hg9 hk8
            go_wp2_with fail
            go_roundw
            case rel => exact ⟨i + 1, l ++ [p7], r', GB.out.1, by go_num, by rw [List.length_append, GB.out.2]; rfl, O9.out, R9.out, E9.out, K9.out, S9.out⟩
            case measure => have := GB.out; simp [intOf] <;> omega
        · have AQ := Lib.hid (show ∀ r', restO (hasO (some rs)) = some r' → rs = encP (readP k (some rs)) ++ r' from fun r' h => AP.out r' h)
          obtain ⟨q, eq⟩ : ∃ q, q = sumO (hasO (some rs)) := ⟨_, rfl⟩
          have EP := Lib.hid (show readP k (some rs) = ⟨k, 0, 0, [], q⟩ by
            have e := EK.out
            unfold readP
            rw [← e, eq]
            rfl)
          obtain ⟨p7, ep7⟩ : ∃ p : P8, p = ⟨k, 0, 0, [], q⟩ := ⟨_, rfl⟩
          rw [EP.out, ← ep7] at AQ
          rw [EP.out, ← ep7] at OKP
          have E7 := Lib.hid ep7
          have QS := Lib.hid (show Sum32 q by rw [eq]; exact sum_ok FN.out)
          obtain ⟨nx, enx⟩ : ∃ nx, nx = restO (hasO (some rs)) := ⟨_, rfl⟩
          have NR := Lib.hid (fun w => RC.out.chash S (.pointer (some ⟨gr, 0, none⟩)) (some rs) w)
          rw [← eq, ← enx] at NR
          rw [← enx] at AQ
          clear eq enx EP ep7
          have KK := Lib.hid (fun w => (KD.out w : Calls Try.prog _ _ w (fun e w' => e = .returned (.int .i64 3) ∧ Keeps w w')))
          go_upto_region 11 with (first
            | (refine wpList_load_mid rfl 29 (.tmp 9) rfl z 0 (by rfl) (partCells p0 (.slice none 0 0)) _ (RG4.out _ (Keeps.refl _)) undPart rfl SMP.out ?_)
            | (go_at_call 12; refine (KK.out _).mono ?_; rintro e w5 ⟨rfl, hk5⟩))
          have R5 := Lib.hid (RK.out _ _ _ _ _ R4.out hk5)
          have K5 := Lib.hid (W4K.out.trans hk5)
          have B5 := Lib.hid ((Below.block hk5 z Z4.out).trans B4.out)
          have Z5 := Lib.hid (Nat.lt_of_lt_of_le Z4.out hk5.size)
          clear hk5
          go_upto_region 18 with (first | (refine wpList_store_mid rfl 27 (.tmp 46) (.tmp 45) rfl z 4 (vals8 q).toArray (by rfl) (by rfl) TH.out (by rw [List.size_toArray, vals8, List.length_map, QS.out.1]; exact sizSum) (cellsK_one .u8 q) ?_) | (go_at_call 16; refine (NR.out _ R5.out).mono ?_; rintro e w6 ⟨rfl, hr6, hm6⟩; have B6 := Lib.hid ((hm6.block z Z5.out SZN.out).trans B5.out); have TH := Lib.hid (there_blk (o := 4) (k := (vals8 q).toArray.size) B6.out (by rw [List.size_toArray, vals8, List.length_map, QS.out.1, partCells_len P0.out]; decide))))
          refine wp_world (w6.setCells z 4 (vals8 q).toArray.toList) fun W7 eW => ?_
          have B7 := Lib.hid (show W7.heap[z]? = some (.cells (partCells p7 (.slice none 0 0)).toArray 29 (0, 0)) by have z7 := setCells_block (vals8 q) 4 w6 _ B6.out (by rw [vals8, List.length_map, QS.out.1, partCells_len P0.out]; decide); rw [splice_sum P0.out QS.out] at z7; rw [eW, E7.out]; have e0 := E0.out; rw [e0] at z7; exact z7)
          have T7 := Lib.hid (show Wrt z w6 W7 by rw [eW]; exact (Wrt.refl z w6).setCells _ _)
          have R7 := Lib.hid (RC.out.rlasts S (fun i => i = z) _ _ _ _ hr6 (Mut.wrt T7.out rfl) (fun i hi e => SZN.out (e ▸ hi)))
          have M7 := Lib.hid (show Mut S wr W7 from ((Mut.of K5.out S).trans hm6).wrtNew T7.out (by have := EZ.out; omega))
          have K7 := Lib.hid (M7.out.since HK.out HS.out)
          have U7 := Lib.hid (show Own8 W7 w2.heap.size (.slice none 0 0) p7.some from by rw [E7.out]; exact own8_nil _ _)
          clear hr6 hm6 eW
          cases nx with
          | none =>
            have F1 := Lib.hid (show ∀ w', Rd w' (.pointer (some ⟨gr, 0, none⟩)) S none → Calls Try.prog 17 #[.pointer (some ⟨gr, 0, none⟩)] w' (fun e w2 => e = .returned (.bool false) ∧ Keeps w' w2) from fun w' h => RC.out.cok S _ _ w' h)
            have F2 := Lib.hid (show ∀ w', Rd w' (.pointer (some ⟨gr, 0, none⟩)) S none → Calls Try.prog 11 #[.pointer (some ⟨gr, 0, none⟩)] w' (fun e w2 => e = .returned (.int .i64 0) ∧ Keeps w' w2) from fun w' h => RC.out.cleft S _ _ w' h)
            go_wp2_with (first
              | (go_at_call 11; refine (F2.out _ (RK.out _ _ _ _ _ R7.out hk8)).mono ?_; rintro e w9 ⟨rfl, hk9⟩)
              | (go_at_call 17; refine (F1.out _ R7.out).mono ?_; rintro e w8 ⟨rfl, hk8⟩))
            go_ret
            exact ⟨rfl, (K7.out.trans hk8).trans hk9⟩
          | some r' =>
            have F1 := Lib.hid (show ∀ w', Rd w' (.pointer (some ⟨gr, 0, none⟩)) S (some r') → Calls Try.prog 17 #[.pointer (some ⟨gr, 0, none⟩)] w' (fun e w2 => e = .returned (.bool true) ∧ Keeps w' w2) from fun w' h => RC.out.cok S _ _ w' h)
            have RG7 := Lib.hid (show ∀ W, Keeps W7 W → W.rangeAt z 0 (partCells p7 (.slice none 0 0)) from fun W qq => range_blk ((Below.block qq z (lt_of_block B7.out)).trans B7.out))
            have SM7 := Lib.hid (show (Try.prog.info? 29).map (·.size) = some (partCells p7 (.slice none 0 0)).length by rw [partCells_len OKP.out]; exact sizPart)
            go_upto_region 8 with (first
              | (refine wpList_load_mid rfl 29 (.tmp 9) rfl z 0 (by rfl) (partCells p7 (.slice none 0 0)) _ (RG7.out _ hk8) undPart rfl SM7.out ?_)
              | (refine wpList_onePart rfl (.tmp 72) rfl (partCells p7 (.slice none 0 0)) (by rfl) (partCells_len OKP.out) ?_)
              | (at_builtin; refine wpList_appendP rfl (.tmp 71) (.tmp 73) rfl w2.heap.size _ l p7 (.slice none 0 0) w8.heap.size 1 (by rfl) ((HO.out.mut M7.out SB.out).keeps (hk8.alloc _)) (by rfl) OKP.out (U7.out.keeps (hk8.alloc _)) (range_blk (heap_alloc_new w8 _)) (by have := LL.out; omega) (Nat.le_trans HBW.out (Nat.le_trans M7.out.size (hk8.alloc _).size)) ?_)
              | (go_at_call 17; refine (F1.out _ R7.out).mono ?_; rintro e w8 ⟨rfl, hk8⟩))
            intro v9 w9 ho9 hb9 hg9
            have O9 := Lib.hid ho9
            have K9 := Lib.hid (show Keeps w0 w9 from Below.trans ((K7.out.trans hk8).alloc _) (Below.mono hb9 K2.out.size))
            have S9 := Lib.hid (show w2.heap.size ≤ w9.heap.size from Nat.le_trans HBW.out (Nat.le_trans M7.out.size (Nat.le_trans (hk8.alloc _).size hb9.size)))
            have R9 := Lib.hid (RC.out.rlasts S (fun j => u7.ownBlock = some j) _ _ _ _ (RK.out _ _ _ _ _ R7.out (hk8.alloc _)) ⟨hg9.os, hg9.tape, hg9.output, hg9.size, fun j hj hn => hg9.block j hj (fun e => hn e.symm)⟩ (fun j hj e => by obtain ⟨us, _, q2, _⟩ := HO.out; have := (q2.lt j e).1; have := SB.out j hj; omega))
            have E9 := Lib.hid (show bs = laidL (l ++ [p7]) ++ r' by rw [HE.out, AQ.out r' rfl, ← List.append_assoc]; congr 1; simp [laidL])
            clear ho9 hb9 hg9 hk8
            go_wp2_with fail
            go_roundw
            case rel => exact ⟨i + 1, l ++ [p7], r', GB.out.1, by go_num, by rw [List.length_append, GB.out.2]; rfl, O9.out, R9.out, E9.out, K9.out, S9.out⟩
            case measure => have := GB.out; simp [intOf] <;> omega
      · obtain rfl : i = ks.length := by omega
        have i1 : ¬ (ks.length : Int) < (ks.length : Int) := by omega
        have GL := Lib.hid (show (laidL l).length ≤ bs.length ∧ rs.length ≤ bs.length ∧ bs.length - rs.length = (laidL l).length by have := congrArg List.length HE.out; rw [List.length_append] at this; omega)
        have LF := Lib.hid (show ∀ w', Rd w' (.pointer (some ⟨gr, 0, none⟩)) S (some rs) → Calls Try.prog 11 #[.pointer (some ⟨gr, 0, none⟩)] w' (fun e w2 => e = .returned (.int .i64 (rs.length : Int)) ∧ Keeps w' w2) from fun w' h => RC.out.cleft S _ _ w' h)
        obtain ⟨gn, egn⟩ : ∃ gn, gn = (laidL l).length := ⟨_, rfl⟩
        have e1 : (bs.length : Int) - (rs.length : Int) = (gn : Int) := by have := GL.out; omega
        have r0 : (0 : Int) ≤ (rs.length : Int) := by omega
        have r1 : (rs.length : Int) ≤ 1000 := by have := GL.out; have := G.out; omega
        have b0 : (0 : Int) ≤ (bs.length : Int) := by omega
        have b1 : (bs.length : Int) ≤ 1000 := by have := G.out; omega
        have EG := Lib.hid egn
        clear hO hR hE hK hB hi gi hli egn
        go_upto_region 22 with (go_at_call 11; refine (LF.out _ HR.out).mono ?_; rintro e w4 ⟨rfl, hk4⟩)
        have K4 := Lib.hid (HK.out.trans hk4)
        have LD := Lib.hid (fun w' (q : Keeps w4 w') => laid_at PC.out _ l w' ((HO.out.holds.keeps hk4).keeps q) (by have := GL.out; have := G.out; omega))
        have B4 := Lib.hid (HB.out.keeps K4.out)
        have gl : gn ≤ bs.length := by have := GL.out; have := EG.out; omega
        have CUT := Lib.hid (fun W => run_cutUpto (P := Try.prog) (ao := bo) (len := bs.length) (cap := d) Try.underlying23 elem8s siz8s gn (by obtain ⟨_, _, _, _, e, _, q, _⟩ := HB.out; cases e; omega) W)
        obtain ⟨va, vn, vc, ev⟩ : ∃ va vn vc, Value.slice va vn vc = sliced bo 0 gn d 1 := ⟨_, _, _, rfl⟩
        rw [← ev] at CUT
        have V4 := Lib.hid (show Holds8 w4 (.slice va vn vc) (laidL l) by
          rw [ev]
          have q := B4.out.cutUpto gn gl
          have tk : bs.take gn = laidL l := by
            rw [EG.out, HE.out]
            exact List.take_left
          rw [tk] at q
          exact q)
        have SA := Lib.hid (fun v u xs w (h : Holds8 w v xs) (h' : Holds8 w u xs) => by have z := ref8_same v u xs xs w h h'; rw [decide_eq_true rfl] at z; exact z)
        have d1 : decide ((gn : Int) ≥ 0) = true := decide_eq_true (by omega)
        have d2 : decide ((gn : Int) ≤ (bs.length : Int)) = true := decide_eq_true (by omega)
        have d3 : decide (gn ≤ bs.length) = true := decide_eq_true gl
        clear hk4 ev
        refine region_drawn2 (N := 99) (fix := ([(0, .slice bo bs.length d), (5, .bool true), (7, u7), (10, .int .i64 (gn : Int))] : List (Tmp × Value)).map (·.1)) (Fix := FixOf [(0, .slice bo bs.length d), (5, .bool true), (7, u7), (10, .int .i64 (gn : Int))]) (H := Keeps w4) (R := Keeps) (deps := fun gi => ([[], [], [], [], [], [], [], [], [], [], [], [], [], [], [], [], [], [], [], []] : List (List Tmp)).getD gi []) (Good := goodOf2 [valA (.bool true), valA (.bool true), valA (.int .i64 (gn : Int)), valA (.bool true), valA (.bool true), valA (.bool true), valA (.int .i64 (gn : Int)), valA (.slice bo bs.length d), valA (.int .i64 (bs.length : Int)), valA (.bool true), valA (.bool true), valA (.bool true), valA (u7), holdA (laidL l), valA (.slice bo bs.length d), valA (.int .i64 (gn : Int)), valA (.slice va vn vc), valA (.bool true), valA (.bool true), valA (.bool true)])
          (by kernel_rfl) (fix_all _) (fun gi gv ga gw gx hl => good_lasts2 (R := Keeps) (gs := [valA (.bool true), valA (.bool true), valA (.int .i64 (gn : Int)), valA (.bool true), valA (.bool true), valA (.bool true), valA (.int .i64 (gn : Int)), valA (.slice bo bs.length d), valA (.int .i64 (bs.length : Int)), valA (.bool true), valA (.bool true), valA (.bool true), valA (u7), holdA (laidL l), valA (.slice bo bs.length d), valA (.int .i64 (gn : Int)), valA (.slice va vn vc), valA (.bool true), valA (.bool true), valA (.bool true)]) (k := 0) ⟨Or.inr (valA_lasts _), Or.inr (valA_lasts _), Or.inr (valA_lasts _), Or.inr (valA_lasts _), Or.inr (valA_lasts _), Or.inr (valA_lasts _), Or.inr (valA_lasts _), Or.inr (valA_lasts _), Or.inr (valA_lasts _), Or.inr (valA_lasts _), Or.inr (valA_lasts _), Or.inr (valA_lasts _), Or.inr (valA_lasts _), Or.inr (holdA_lasts _), Or.inr (valA_lasts _), Or.inr (valA_lasts _), Or.inr (valA_lasts _), Or.inr (valA_lasts _), Or.inr (valA_lasts _), Or.inr (valA_lasts _), trivial⟩ gi gv ga gw gx (by rw [Nat.zero_add]; exact hl)) (fun gi gv ga gb gw hd => good_leans (dss := [[], [], [], [], [], [], [], [], [], [], [], [], [], [], [], [], [], [], [], []]) (gs := [valA (.bool true), valA (.bool true), valA (.int .i64 (gn : Int)), valA (.bool true), valA (.bool true), valA (.bool true), valA (.int .i64 (gn : Int)), valA (.slice bo bs.length d), valA (.int .i64 (bs.length : Int)), valA (.bool true), valA (.bool true), valA (.bool true), valA (u7), holdA (laidL l), valA (.slice bo bs.length d), valA (.int .i64 (gn : Int)), valA (.slice va vn vc), valA (.bool true), valA (.bool true), valA (.bool true)]) (k := 0) ⟨valA_leans _ _, valA_leans _ _, valA_leans _ _, valA_leans _ _, valA_leans _ _, valA_leans _ _, valA_leans _ _, valA_leans _ _, valA_leans _ _, valA_leans _ _, valA_leans _ _, valA_leans _ _, valA_leans _ _, holdA_leans _ _, valA_leans _ _, valA_leans _ _, valA_leans _ _, valA_leans _ _, valA_leans _ _, valA_leans _ _, trivial⟩ gi gv ga gb gw (by rw [Nat.zero_add]; exact hd))
          (by kernel_rfl) (by kernel_rfl) (by kernel_rfl) (by kernel_rfl) rfl ?_ ((Keeps.refl _).drew) ?_ ?_
        · refine ⟨rfl, fun x hx => ?_⟩
          simp only [List.mem_cons, List.not_mem_nil, or_false] at hx
          rcases hx with rfl | rfl | rfl | rfl
          · rfl
          · rfl
          · rfl
          · rfl
        · intro fa w hN hF hH hG
          obtain ⟨tm, df⟩ := fa
          obtain rfl : df = [] := hF.1
          obtain ⟨x4, s4, rfl⟩ := good_end hG 19 _ 4 rfl rfl
          have e4 : ∀ hd, tm[4]'hd = .bool true := s4.at
          go_wp2_with fail
          go_ret
          exact ⟨congrArg Ending.returned s4.eval, K4.out.trans hH⟩
        · refine ⟨?_, ?_, ?_, ?_, ?_, ?_, ?_, ?_, ?_, ?_, ?_, ?_, ?_, ?_, ?_, ?_, ?_, ?_, ?_, ?_, trivial⟩
          · as_aux_lemma =>
            intro fa w K hN hF hH hG hK
            have s5 : Slot fa 5 (.bool true) := hF.2 (5, .bool true) (by simp)
            have e5 := s5.at
            rw [if_pos (wanted_none rfl)]
            refine wp_value (.bool true) ?_ (hK _ _ hH (Keeps.refl _) rfl)
            go_simp
          · as_aux_lemma =>
            intro fa w K hN hF hH hG hK
            obtain ⟨x80, s80, rfl⟩ := good_slot hG 0 _ 80 rfl rfl rfl
            have e80 := s80.at
            rw [if_pos (wanted_none rfl)]
            refine wp_value (.bool true) ?_ (hK _ _ hH (Keeps.refl _) rfl)
            go_simp
          · as_aux_lemma =>
            intro fa w K hN hF hH hG hK
            have s10 : Slot fa 10 (.int .i64 (gn : Int)) := hF.2 (10, .int .i64 (gn : Int)) (by simp)
            have e10 := s10.at
            obtain ⟨x81, s81, rfl⟩ := good_slot hG 1 _ 81 rfl rfl rfl
            rw [if_pos (wanted_slot (g := 1) rfl rfl rfl s81)]
            refine wp_value (.int .i64 (gn : Int)) ?_ (hK _ _ hH (Keeps.refl _) rfl)
            go_simp
          · as_aux_lemma =>
            intro fa w K hN hF hH hG hK
            obtain ⟨x82, s82, rfl⟩ := good_slot hG 2 _ 82 rfl rfl rfl
            have e82 := s82.at
            obtain ⟨x81, s81, rfl⟩ := good_slot hG 1 _ 81 rfl rfl rfl
            rw [if_pos (wanted_slot (g := 1) rfl rfl rfl s81)]
            refine wp_value (.bool true) ?_ (hK _ _ hH (Keeps.refl _) rfl)
            go_simp
          · as_aux_lemma =>
            intro fa w K hN hF hH hG hK
            obtain ⟨x81, s81, rfl⟩ := good_slot hG 1 _ 81 rfl rfl rfl
            have e81 := s81.at
            obtain ⟨x83, s83, rfl⟩ := good_slot hG 3 _ 83 rfl rfl rfl
            have e83 := s83.at
            rw [if_pos (wanted_none rfl)]
            refine wp_value (.bool true) ?_ (hK _ _ hH (Keeps.refl _) rfl)
            go_simp
          · as_aux_lemma =>
            intro fa w K hN hF hH hG hK
            obtain ⟨x84, s84, rfl⟩ := good_slot hG 4 _ 84 rfl rfl rfl
            have e84 := s84.at
            rw [if_pos (wanted_none rfl)]
            refine wp_value (.bool true) ?_ (hK _ _ hH (Keeps.refl _) rfl)
            go_simp
          · as_aux_lemma =>
            intro fa w K hN hF hH hG hK
            have s10 : Slot fa 10 (.int .i64 (gn : Int)) := hF.2 (10, .int .i64 (gn : Int)) (by simp)
            have e10 := s10.at
            obtain ⟨x85, s85, rfl⟩ := good_slot hG 5 _ 85 rfl rfl rfl
            rw [if_pos (wanted_slot (g := 5) rfl rfl rfl s85)]
            refine wp_value (.int .i64 (gn : Int)) ?_ (hK _ _ hH (Keeps.refl _) rfl)
            go_simp
          · as_aux_lemma =>
            intro fa w K hN hF hH hG hK
            have s0 : Slot fa 0 (.slice bo bs.length d) := hF.2 (0, .slice bo bs.length d) (by simp)
            have e0 := s0.at
            obtain ⟨x85, s85, rfl⟩ := good_slot hG 5 _ 85 rfl rfl rfl
            rw [if_pos (wanted_slot (g := 5) rfl rfl rfl s85)]
            refine wp_value (.slice bo bs.length d) ?_ (hK _ _ hH (Keeps.refl _) rfl)
            go_simp
          · as_aux_lemma =>
            intro fa w K hN hF hH hG hK
            obtain ⟨x87, s87, rfl⟩ := good_slot hG 7 _ 87 rfl rfl rfl
            have e87 := s87.at
            obtain ⟨x85, s85, rfl⟩ := good_slot hG 5 _ 85 rfl rfl rfl
            rw [if_pos (wanted_slot (g := 5) rfl rfl rfl s85)]
            refine wp_value (.int .i64 (bs.length : Int)) ?_ (hK _ _ hH (Keeps.refl _) rfl)
            go_simp
          · as_aux_lemma =>
            intro fa w K hN hF hH hG hK
            obtain ⟨x86, s86, rfl⟩ := good_slot hG 6 _ 86 rfl rfl rfl
            have e86 := s86.at
            obtain ⟨x88, s88, rfl⟩ := good_slot hG 8 _ 88 rfl rfl rfl
            have e88 := s88.at
            obtain ⟨x85, s85, rfl⟩ := good_slot hG 5 _ 85 rfl rfl rfl
            rw [if_pos (wanted_slot (g := 5) rfl rfl rfl s85)]
            refine wp_value (.bool true) ?_ (hK _ _ hH (Keeps.refl _) rfl)
            go_simp
          · as_aux_lemma =>
            intro fa w K hN hF hH hG hK
            obtain ⟨x85, s85, rfl⟩ := good_slot hG 5 _ 85 rfl rfl rfl
            have e85 := s85.at
            obtain ⟨x89, s89, rfl⟩ := good_slot hG 9 _ 89 rfl rfl rfl
            have e89 := s89.at
            rw [if_pos (wanted_none rfl)]
            refine wp_value (.bool true) ?_ (hK _ _ hH (Keeps.refl _) rfl)
            go_simp
          · as_aux_lemma =>
            intro fa w K hN hF hH hG hK
            obtain ⟨x90, s90, rfl⟩ := good_slot hG 10 _ 90 rfl rfl rfl
            have e90 := s90.at
            rw [if_pos (wanted_none rfl)]
            refine wp_value (.bool true) ?_ (hK _ _ hH (Keeps.refl _) rfl)
            go_simp
          · as_aux_lemma =>
            intro fa w K hN hF hH hG hK
            have s7 : Slot fa 7 (u7) := hF.2 (7, u7) (by simp)
            have e7 := s7.at
            obtain ⟨x91, s91, rfl⟩ := good_slot hG 11 _ 91 rfl rfl rfl
            rw [if_pos (wanted_slot (g := 11) rfl rfl rfl s91)]
            refine wp_value (u7) ?_ (hK _ _ hH (Keeps.refl _) rfl)
            go_simp
          · as_aux_lemma =>
            intro fa w K hN hF hH hG hK
            obtain ⟨x92, s92, rfl⟩ := good_slot hG 12 _ 92 rfl rfl rfl
            have e92 := s92.at
            obtain ⟨x91, s91, rfl⟩ := good_slot hG 11 _ 91 rfl rfl rfl
            rw [if_pos (wanted_slot (g := 11) rfl rfl rfl s91)]
            go_simp
            (go_at_call 8; (refine (LD.out _ hH).mono ?_); rintro e w' ⟨v, rfl, ho, hk⟩; replace ho := ho.holds)
            exact hK _ _ (hH.trans hk) hk ho
          · as_aux_lemma =>
            intro fa w K hN hF hH hG hK
            have s0 : Slot fa 0 (.slice bo bs.length d) := hF.2 (0, .slice bo bs.length d) (by simp)
            have e0 := s0.at
            obtain ⟨x91, s91, rfl⟩ := good_slot hG 11 _ 91 rfl rfl rfl
            rw [if_pos (wanted_slot (g := 11) rfl rfl rfl s91)]
            refine wp_value (.slice bo bs.length d) ?_ (hK _ _ hH (Keeps.refl _) rfl)
            go_simp
          · as_aux_lemma =>
            intro fa w K hN hF hH hG hK
            have s10 : Slot fa 10 (.int .i64 (gn : Int)) := hF.2 (10, .int .i64 (gn : Int)) (by simp)
            have e10 := s10.at
            obtain ⟨x91, s91, rfl⟩ := good_slot hG 11 _ 91 rfl rfl rfl
            rw [if_pos (wanted_slot (g := 11) rfl rfl rfl s91)]
            refine wp_value (.int .i64 (gn : Int)) ?_ (hK _ _ hH (Keeps.refl _) rfl)
            go_simp
          · as_aux_lemma =>
            intro fa w K hN hF hH hG hK
            obtain ⟨x94, s94, rfl⟩ := good_slot hG 14 _ 94 rfl rfl rfl
            have e94 := s94.at
            obtain ⟨x95, s95, rfl⟩ := good_slot hG 15 _ 95 rfl rfl rfl
            have e95 := s95.at
            obtain ⟨x91, s91, rfl⟩ := good_slot hG 11 _ 91 rfl rfl rfl
            rw [if_pos (wanted_slot (g := 11) rfl rfl rfl s91)]
            have sq := CUT.out w
            refine wp_value (.slice va vn vc) ?_ (hK _ _ hH (Keeps.refl _) rfl)
            go_simp
          · as_aux_lemma =>
            intro fa w K hN hF hH hG hK
            obtain ⟨x93, s93, h93⟩ := good_slot hG 13 _ 93 rfl rfl rfl
            obtain ⟨o93, n93, c93, rfl⟩ : ∃ o n c, x93 = .slice o n c := by obtain ⟨_, o, n, c, e, _⟩ := h93; exact ⟨o, n, c, e⟩
            have h93 : Holds8 w (.slice o93 n93 c93) (laidL l) := h93
            have e93 := s93.at
            obtain ⟨x96, s96, rfl⟩ := good_slot hG 16 _ 96 rfl rfl rfl
            have e96 := s96.at
            obtain ⟨x91, s91, rfl⟩ := good_slot hG 11 _ 91 rfl rfl rfl
            rw [if_pos (wanted_slot (g := 11) rfl rfl rfl s91)]
            go_simp
            (go_at_call 18; (refine (SA.out _ _ _ _ h93 (V4.out.keeps hH)).mono ?_); rintro e w' ⟨rfl, hk⟩)
            exact hK _ _ (hH.trans hk) hk rfl
          · as_aux_lemma =>
            intro fa w K hN hF hH hG hK
            obtain ⟨x91, s91, rfl⟩ := good_slot hG 11 _ 91 rfl rfl rfl
            have e91 := s91.at
            obtain ⟨x97, s97, rfl⟩ := good_slot hG 17 _ 97 rfl rfl rfl
            have e97 := s97.at
            rw [if_pos (wanted_none rfl)]
            refine wp_value (.bool true) ?_ (hK _ _ hH (Keeps.refl _) rfl)
            go_simp
          · as_aux_lemma =>
            intro fa w K hN hF hH hG hK
            obtain ⟨x98, s98, rfl⟩ := good_slot hG 18 _ 98 rfl rfl rfl
            have e98 := s98.at
            rw [if_pos (wanted_none rfl)]
            refine wp_value (.bool true) ?_ (hK _ _ hH (Keeps.refl _) rfl)
            go_simp
  · by_cases g1 : bs.length ≤ 1000
    · have t1 : ¬ (bs.length : Int) > 1000 := by omega
      have t2 : (ks.length : Int) > 40 := by omega
      clear g
      go_wp2_with fail
      go_ret
      exact ⟨rfl, K2.out⟩
    · have t1 : (bs.length : Int) > 1000 := by omega
      clear g
      go_wp2_with fail
      go_ret
      exact ⟨rfl, K2.out⟩
end Go.Proofs.Ytddnnblhlglaaaa
