/- The document's own reader: its parts; bytes that are the same. -/
import Derived.Test.YtckikgfckihniaaDoorCodeRefR
set_option linter.unusedVariables false
set_option linter.unusedSimpArgs false
set_option maxRecDepth 10000
namespace Go.Proofs.YtckikgfckihniaaDoor
open Go.RowKit Go.HashMath Go.CodeMath

theorem Mut.wrtNew {S : Nat → Prop} {a b c : World} {G : Nat} (h : Mut S a b) (k : Wrt G b c) (hG : a.heap.size ≤ G) : Mut S a c :=
  ⟨k.os.trans h.os, k.tape.trans h.tape, k.output.trans h.output, Nat.le_trans h.size k.size, fun i x y => (k.block i (Nat.lt_of_lt_of_le x h.size) (by omega)).trans (h.block i x y)⟩
theorem unbig_take (l : List Nat) (k : Nat) (h : k < l.length) : unbig (l.take (k + 1)) = 256 * unbig (l.take k) + l.getD k 0 := by
  rw [List.take_succ_eq_append_getElem h, unbig, List.foldl_append]
  simp [unbig, List.getD, h]
theorem unbig_le : ∀ (l : List Nat) (n : Nat), (∀ x ∈ l, x < 256) → l.foldl (fun n b => 256 * n + b) n < 256 ^ l.length * (n + 1)
  | [], n, _ => by simp
  | x :: l, n, h => by
    have h1 := unbig_le l (256 * n + x) (fun y hy => h y (by simp [hy]))
    have h2 := h x (by simp)
    rw [List.foldl_cons, List.length_cons, Nat.pow_succ, Nat.mul_assoc]
    refine Nat.lt_of_lt_of_le h1 (Nat.mul_le_mul_left _ (by omega))
theorem unbig_8 {l : List Nat} (h : ∀ x ∈ l, x < 256) (hl : l.length ≤ 8) : unbig l < 18446744073709551616 := by
  have h1 := unbig_le l 0 h
  rw [Nat.zero_add, Nat.mul_one] at h1
  exact Nat.lt_of_lt_of_le h1 (Nat.le_trans (Nat.pow_le_pow_right (by decide) hl) (by decide))
theorem u64O_take (s : St) : natO (u64O s) = unbig (rowO (takeO 8 s)) ∧ restO (u64O s) = restO (takeO 8 s) := by
  unfold u64O
  cases takeO 8 s with
  | none => exact ⟨rfl, rfl⟩
  | some x => exact ⟨rfl, rfl⟩
theorem rowO_len {n : Nat} (s : St) : (rowO (takeO n s)).length ≤ n := by
  cases s with
  | none => exact Nat.zero_le _
  | some xs =>
    show (rowO (if n ≤ xs.length then some (xs.take n, xs.drop n) else none)).length ≤ n
    split
    · show (xs.take n).length ≤ n; rw [List.length_take]; omega
    · exact Nat.zero_le _
def U64At (W : World) (l : List Nat) (sn si : Value) (wr : World) : Prop := ∃ k : Nat, k ≤ l.length ∧ sn = .int .u64 ((unbig (l.take k) : Nat) : Int) ∧ si = .int .i64 (k : Int) ∧ W = wr
theorem bytO_of (s : St) : rowO (bytO s) = (if (restO (numO s)).isSome then rowO (takeO (natO (numO s)) (restO (numO s))) else []) ∧ restO (bytO s) = (if (restO (numO s)).isSome then restO (takeO (natO (numO s)) (restO (numO s))) else none) := by
  unfold bytO
  cases numO s with
  | none => exact ⟨rfl, rfl⟩
  | some x => exact ⟨rfl, rfl⟩
theorem left_num (s : St) (h : Fine s) : (leftO (restO (numO s))).length ≤ (leftO s).length := by
  cases s with
  | none => exact Nat.le_refl _
  | some xs =>
    show (leftO (restO (readN 9 0 1 xs))).length ≤ xs.length
    cases e : readN 9 0 1 xs with
    | none => exact Nat.zero_le _
    | some x =>
      have e2 : xs = row x.1 ++ x.2 := (row_read (n := x.1) (r := x.2) h e).2
      show x.2.length ≤ xs.length
      rw [e2, List.length_append]
      omega
def putAt (l : List Nat) (k : Nat) : List Nat := l.take k ++ List.replicate (32 - k) 0
theorem putAt_next (l : List Nat) (k : Nat) (h : k < l.length) (h2 : l.length ≤ 32) : (putAt l k).set k (l.getD k 0) = putAt l (k + 1) := by
  unfold putAt
  have hl : (l.take k).length = k := by rw [List.length_take]; omega
  rw [List.set_append_right _ _ (by omega), hl, Nat.sub_self, show 32 - k = (32 - (k + 1)) + 1 by omega, List.replicate_succ, List.set_cons_zero, List.take_succ_eq_append_getElem h, List.append_assoc]
  simp [List.getD, h]
theorem putAt_len (l : List Nat) (k : Nat) (hk : k ≤ l.length) (h2 : l.length ≤ 32) : (putAt l k).length = 32 := by
  unfold putAt
  rw [List.length_append, List.length_take, List.length_replicate]
  omega
def HashAt (W : World) (z : Nat) (l : List Nat) (si : Value) (wr : World) : Prop := ∃ k : Nat, k ≤ l.length ∧ si = .int .i64 (k : Int) ∧ A8 23 wr z (putAt l k) ∧ Wrt z W wr
theorem hasO_of (s : St) : sumO (hasO s) = putAt (rowO (takeO 32 s)) (rowO (takeO 32 s)).length ∧ restO (hasO s) = restO (takeO 32 s) := by
  refine ⟨?_, rfl⟩
  unfold hasO putAt
  cases s with
  | none => rfl
  | some xs =>
    show sumO (if 32 ≤ xs.length then some (xs.take 32, xs.drop 32) else none) = _
    by_cases h : 32 ≤ xs.length
    · rw [takeO_some h, if_pos h]
      show xs.take 32 = (xs.take 32).take (xs.take 32).length ++ List.replicate (32 - (xs.take 32).length) 0
      rw [List.take_length, List.length_take, show 32 - min 32 xs.length = 0 by omega]
      simp
    · rw [takeO_none h, if_neg h]
      rfl
set_option maxHeartbeats 2000000 in
set_option maxRecDepth 100000 in
theorem ref8_hash (S : Nat → Prop) (g : Nat) (sv : Value) (s : St) (w : World) (h : RdC S w g sv s) (hl : (leftO s).length ≤ 140737488355328) :
    Calls Tryd.prog 47 #[.pointer (some ⟨g, 0, none⟩)] w (fun e w' => e = .returned (.agg (vals8 (sumO (hasO s))).toArray) ∧ (∃ sv', RdC S w' g sv' (restO (hasO s))) ∧ Mut S w w') := by
  rw [(hasO_of s).1, (hasO_of s).2]
  have HH := Lib.hid h
  have LE := Lib.hid (rowO_len (n := 32) s)
  have N8 := Lib.hid (fun w' (q : Keeps w w') => show Calls Tryd.prog 66 #[.pointer (some ⟨g, 0, none⟩), .int .i64 32] w' _ from ref8_next S g sv s 32 w' (h.keeps q) (by decide) hl)
  have SB := Lib.hid h.2.2.2.2
  clear h hl HH
  generalize rowO (takeO 32 s) = l at *
  generalize restO (takeO 32 s) = s' at *
  go_enter Tryd.func47, Tryd.ntmps47
  go_upto_region 1 with fail
  obtain ⟨W0, eW⟩ : ∃ W, W = w.alloc (.cells (cellsK .u8 (List.replicate 32 0)).toArray 23) := ⟨_, rfl⟩
  have A0 : A8 23 W0 w.heap.size (List.replicate 32 0) := by rw [eW]; exact ArrN.new w _ (zeros_lt _ _ (by decide))
  have K0 : Keeps w W0 := by rw [eW]; exact (Keeps.refl w).alloc _
  have Z0 : w.heap.size < W0.heap.size := A0.size
  change Code.wp _ _ _ _ (w.alloc (.cells (cellsK .u8 (List.replicate 32 0)).toArray 23))
  rw [← eW]
  obtain ⟨z0, ez⟩ : ∃ z, z = w.heap.size := ⟨_, rfl⟩
  rw [← ez] at A0 Z0 ⊢
  have EZ := Lib.hid ez
  have A0 := Lib.hid A0
  have K0 := Lib.hid K0
  have NN := Lib.hid (N8.out W0 K0.out)
  clear eW ez
  go_upto_region 2 with (go_at_call 66; (with_reducible refine NN.out.mono ?_); rintro e w1 ⟨y, rfl, ho, hr, hm⟩)
  have HO := Lib.hid ho.holds
  have OO := Lib.hid ho
  have HR := Lib.hid hr
  have M1 := Lib.hid (show Mut S w w1 from (Mut.of K0.out S).trans hm)
  have A1 := Lib.hid (show A8 23 w1 z0 (List.replicate 32 0) from ⟨A0.out.1, (hm.block z0 Z0 (fun q => by have := SB.out z0 q; have := EZ.out; omega)).trans A0.out.2⟩)
  obtain ⟨_, ao, len, cap, rfl, hlen, hlc, hcm, hcell⟩ := ho.holds
  subst hlen
  clear ho hr hm Z0
  go_upto_region 3 with fail
  obtain ⟨W2, eW⟩ : ∃ W, W = w1.alloc (.cells (cellsK .u8 (List.replicate 32 0)).toArray 23) := ⟨_, rfl⟩
  have A2 : A8 23 W2 w1.heap.size (putAt l 0) := by rw [eW]; exact ArrN.new w1 _ (zeros_lt _ _ (by decide))
  have K2 : Keeps w1 W2 := by rw [eW]; exact (Keeps.refl w1).alloc _
  change Code.wp _ _ _ _ (w1.alloc (.cells (cellsK .u8 (List.replicate 32 0)).toArray 23))
  rw [← eW]
  obtain ⟨z, ez⟩ : ∃ z, z = w1.heap.size := ⟨_, rfl⟩
  rw [← ez] at A2 ⊢
  have EZ2 := Lib.hid ez
  have A2 := Lib.hid A2
  have K2 := Lib.hid K2
  clear eW ez
  go_wp2_with fail
  go_loopw [5] (fun si wr => HashAt W2 z l si wr) (fun si _ => l.length - (intOf si).toNat)
  case atStart => exact ⟨0, by omega, rfl, A2.out, Wrt.refl _ _⟩
  case round =>
    obtain ⟨k, hk, rfl, hA, hW⟩ := hrel
    have hle := LE.out
    by_cases g1 : k < l.length
    · obtain ⟨b, off, rfl, hbs, hcell⟩ : ∃ b off, ao = some ⟨b, off, none⟩ ∧ b < w1.heap.size ∧ ∀ i, i < l.length → w1.cell? ⟨b, off + i, none⟩ = some (.int .u8 ((l.getD i 0 : Nat) : Int)) := by
        rcases hcell with h | h
        · omega
        · exact h
      have cl : wr.cell? ⟨b, off + k, none⟩ = some (.int .u8 ((l.getD k 0 : Nat) : Int)) := by
        rw [hW.cell (Nat.lt_of_lt_of_le hbs K2.out.size) (by have := EZ2.out; omega), K2.out.cell hbs]
        exact hcell k g1
      have dl := HO.out.lt k
      have lk := putAt_len l k hk hle
      have ck := hA.cell k (by omega)
      have fk := hA.free k
      have A' := Lib.hid (hA.set k _ dl)
      rw [putAt_next l k g1 hle] at A'
      have W' := Lib.hid (hW.set k (.int .u8 ((l.getD k 0 : Nat) : Int)))
      generalize l.getD k 0 = d at *
      have GB := Lib.hid g1
      have k0 : (0 : Int) ≤ (k : Int) := by omega
      have k1 : (k : Int) < (l.length : Int) := by omega
      have k2 : (k : Int) < 32 := by omega
      have l1 : (l.length : Int) ≤ 32 := by omega
      clear hcell hk dl hle hlc hcm g1 lk hA hW
      go_wp2_with fail
      go_roundw
      case rel => exact ⟨k + 1, GB.out, by go_num, A'.out, W'.out⟩
      case measure => have := GB.out; simp [intOf] <;> omega
    · obtain rfl : k = l.length := by omega
      have k1 : ¬ (l.length : Int) < (l.length : Int) := by omega
      have A3 := Lib.hid hA
      have W3 := Lib.hid hW
      have B1 := Lib.hid (show A8 23 wr z0 (List.replicate 32 0) from ⟨A1.out.1, (hW.block z0 (Nat.lt_of_lt_of_le A1.out.size K2.out.size) (by have := EZ2.out; have := A1.out.size; omega)).trans ((Below.block K2.out z0 A1.out.size).trans A1.out.2)⟩)
      have PL := Lib.hid (putAt_len l l.length (Nat.le_refl _) hle)
      clear hcell hk g1 hA hW hle
      go_upto_region 7 with fail
      go_wp2_with (first
        | (refine wpList_load_sm ?w1 _ (by rfl) (by rfl) (G := z) (L := putAt l l.length) A3.out.range PL.out ?_; (case w1 => rfl))
        | (refine wpList_store_arr (k := .u8) (m := 256) (L := putAt l l.length) sizHash rfl _ _ (by rfl) _ (by rfl) (by rfl) B1.out (by rw [List.length_replicate]) PL.out ?_))
      have M4 := Lib.hid (show Mut S w (wr.setRow z0 (cellsK .u8 (putAt l l.length)).toArray) from ((M1.out.keeps K2.out).wrtNew W3.out (by have := EZ2.out; have := M1.out.size; omega)).wrtNew ((Wrt.refl z0 wr).setRow _) (by have := EZ.out; omega))
      have R4 := Lib.hid (show ∃ sv', RdC S (wr.setRow z0 (cellsK .u8 (putAt l l.length)).toArray) g sv' s' from by
        obtain ⟨sv', q⟩ := HR.out
        exact ⟨sv', q.lasts (T := fun k => k = z ∨ k = z0) (((Mut.of K2.out _).trans (Mut.wrt W3.out (Or.inl rfl))).trans (Mut.wrt ((Wrt.refl z0 wr).setRow _) (Or.inr rfl))) (fun i hi hT => by have := SB.out i hi; have := EZ.out; have := EZ2.out; have := M1.out.size; omega)⟩)
      exact bodyPost_ret (v := .agg (cellsK .u8 (putAt l l.length)).toArray) (results_arr undHash sizHash rfl _ (by rfl) (B1.out.setRow A3.out.1) PL.out) rfl ⟨rfl, R4.out, M4.out⟩
theorem ref8_left (S : Nat → Prop) (g : Nat) (sv : Value) (s : St) (w : World) (h : RdC S w g sv s) :
    Calls Tryd.prog 48 #[.pointer (some ⟨g, 0, none⟩)] w (fun e w' => e = .returned (.int .i64 ((leftO s).length : Int)) ∧ w = w') := by
  have c0 := h.cell0
  obtain ⟨_, ao, len, cap, rfl, hlen, _⟩ := h.2.2.1
  rw [hlen]
  clear h
  go_enter Tryd.func48, Tryd.ntmps48
  go_wp2_with fail
  go_ret
  exact ⟨rfl, rfl⟩
theorem ref8_ok (S : Nat → Prop) (g : Nat) (sv : Value) (s : St) (w : World) (h : RdC S w g sv s) :
    Calls Tryd.prog 45 #[.pointer (some ⟨g, 0, none⟩)] w (fun e w' => e = .returned (.bool s.isSome) ∧ w = w') := by
  have c1 := h.cell1
  clear h
  cases s with
  | none =>
    have c1 : w.cell? ⟨g, 1, none⟩ = some (.bool true) := c1
    go_enter Tryd.func45, Tryd.ntmps45
    go_wp2_with fail
    go_ret
    exact ⟨rfl, rfl⟩
  | some xs =>
    have c1 : w.cell? ⟨g, 1, none⟩ = some (.bool false) := c1
    go_enter Tryd.func45, Tryd.ntmps45
    go_wp2_with fail
    go_ret
    exact ⟨rfl, rfl⟩
set_option maxHeartbeats 1000000 in
theorem ref8_open (v : Value) (xs : List Nat) (w : World) (h : Holds8 w v xs) (hl : xs.length ≤ 140737488355328) :
    Calls Tryd.prog 43 #[v] w (fun e w' => ∃ g sv S, e = .returned (.pointer (some ⟨g, 0, none⟩)) ∧ RdC S w' g sv (some xs) ∧ Keeps w w' ∧ ∀ i, S i → w.heap.size ≤ i) := by
  have HH := Lib.hid h
  have OW := Lib.hid (fun (c : Array Value) (hc : c = (vals8 []).toArray) => own_lit8 w w.heap.size (Nat.le_refl _) [] (by simp) (by simp) hc (n := 0) rfl)
  have HL := Lib.hid (show ([] : List Nat).length + xs.length ≤ 140737488355328 by simpa using hl)
  obtain ⟨_, ao, len, cap, rfl, hlen, _⟩ := h
  subst hlen
  clear hl
  go_enter Tryd.func43, Tryd.ntmps43
  go_wp2_with (at_builtin; refine wpList_append8h rfl (.tmp 3) (.tmp 4) rfl w.heap.size _ _ [] xs (by rfl) (OW.out _ rfl) (by rfl) (HH.out.keeps ((Keeps.refl w).alloc _)) HL.out ((Keeps.refl w).alloc _).size ?_)
  intro v2 w2 ho2 hb2 hg2
  have K2 := Lib.hid (show Keeps w w2 from Below.trans ((Keeps.refl w).alloc _) hb2)
  have O2 := Lib.hid (show Own8 w2 w.heap.size v2 xs from ho2)
  obtain ⟨_, ao', len, cap', rfl, hlen, _⟩ := ho2.holds
  clear hb2 hg2 ho2 hlen
  go_wp2_with fail
  go_ret
  refine ⟨w2.heap.size, .slice ao' len cap', fun i => w.heap.size ≤ i ∧ i < w2.heap.size + 1, rfl, ⟨⟨K2.out.size, by omega⟩, (MapKept.heap_alloc w2 _).1, O2.out.holds.keeps ((Keeps.refl _).alloc _), fun a l c e => ?_, fun i hi => by rw [World.size_alloc]; exact hi.2⟩, K2.out.alloc _, fun i hi => hi.1⟩
  cases e
  have hb := O2.out.1
  have h1 := hb.lt a.block rfl
  exact ⟨⟨h1.1, by omega⟩, by omega⟩
def sameTo (xs ys : List Nat) (k : Nat) : Prop := ∀ i, i < k → xs.getD i 0 = ys.getD i 0
def SameAt (W : World) (xs ys : List Nat) (si : Value) (wr : World) : Prop := ∃ k : Nat, k ≤ xs.length ∧ si = .int .i64 (k : Int) ∧ sameTo xs ys k ∧ Keeps W wr
theorem same_all {xs ys : List Nat} (hl : xs.length = ys.length) (h : sameTo xs ys xs.length) : xs = ys := by
  apply List.ext_getElem hl
  intro i h1 h2
  have := h i h1
  simpa [List.getD, h1, h2] using this
theorem left_take {n : Nat} (s : St) : (leftO (restO (takeO n s))).length ≤ (leftO s).length := by
  cases s with
  | none => exact Nat.le_refl _
  | some xs =>
    by_cases h : n ≤ xs.length
    · rw [takeO_some h]; show (xs.drop n).length ≤ xs.length; rw [List.length_drop]; omega
    · rw [takeO_none h]; exact Nat.zero_le _
theorem left_bytes (s : St) (h : Fine s) : (leftO (restO (bytO s))).length ≤ (leftO s).length := by
  rw [(bytO_of s).2]
  split
  · exact Nat.le_trans (left_take _) (left_num s h)
  · exact Nat.zero_le _
end Go.Proofs.YtckikgfckihniaaDoor
