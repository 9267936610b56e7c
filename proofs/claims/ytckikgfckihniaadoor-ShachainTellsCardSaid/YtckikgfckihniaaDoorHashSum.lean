/- The document's own Sum, by its contract. -/
import Derived.Test.YtckikgfckihniaaDoorHashNum
set_option linter.unusedVariables false
set_option linter.unusedSimpArgs false
set_option maxRecDepth 10000
namespace Go.Proofs.YtckikgfckihniaaDoor
open Go.RowKit Go.HashMath

/-- A call tells a sum; all that was there is there as it was. -/
def GivesH (w : World) (l : List Nat) (e : Ending) (w' : World) : Prop := e = .returned (hashV l) ∧ Keeps w w'
theorem pad_len (l : List Nat) : (padB l).length % 64 = 0 := by
  rw [padB, List.length_append, List.length_cons, List.length_append, List.length_replicate, big_len, pads]; omega
theorem pad_lt {l : List Nat} (h : ∀ x ∈ l, x < 256) : ∀ x ∈ padB l, x < 256 := by
  intro x hx
  rw [padB] at hx
  rcases List.mem_append.1 hx with g | g
  · exact h x g
  · rcases List.mem_cons.1 g with g | g
    · omega
    · rcases List.mem_append.1 g with g | g
      · have := (List.mem_replicate.1 g).2; omega
      · exact big_lt 8 _ x g
theorem chunks_next : ∀ (n : Nat) (p : List Nat), chunks (n + 1) p = chunks n p ++ [(p.drop (64 * n)).take 64] := by
  intro n
  induction n with
  | zero => intro p; rfl
  | succ n ih =>
    intro p
    rw [chunks, ih, chunks, List.drop_drop]
    rw [show 64 * (n + 1) = 64 + 64 * n by omega]
    rfl
theorem blocks_next (n : Nat) (p : List Nat) (H : Eight) : blocks (n + 1) p H = blockE (blocks n p H) ((p.drop (64 * n)).take 64) := by
  rw [blocks, chunks_next, List.foldl_append]; rfl
/-- A part of a row that is read. -/
theorem Holds8.part {w : World} {b off n c : Nat} {l : List Nat} (h : Holds8 w (.slice (some ⟨b, off, none⟩) n c) l) (i m : Nat) (hi : i + m ≤ l.length) : Holds8 w (.slice (some ⟨b, off + i, none⟩) m (c - i)) ((l.drop i).take m) := by
  obtain ⟨hx, ao, n', c', e, h2, h3, h4, h5⟩ := h
  cases e
  refine ⟨fun x hm => hx x (List.mem_of_mem_drop (List.mem_of_mem_take hm)), _, _, _, rfl, by rw [List.length_take, List.length_drop]; omega, by omega, ⟨by have := h4.1; omega, fun e => by cases e⟩, ?_⟩
  rcases h5 with h5 | ⟨b', off', e, hb, h6⟩
  · exact Or.inl (by omega)
  · cases e
    refine Or.inr ⟨_, _, rfl, hb, fun j hj => ?_⟩
    have e := h6 (i + j) (by omega)
    rw [← Nat.add_assoc] at e
    rw [e]
    congr 2
    simp [List.getD, List.getElem?_take, hj]
theorem bytes_at : ∀ (l : List Nat) (k : Nat), k < 4 * l.length → (l.flatMap (big 4)).getD k 0 = l.getD (k / 4) 0 / 256 ^ (3 - k % 4) % 256 := by
  intro l
  induction l with
  | nil => intro k h; simp at h
  | cons x r ih =>
    intro k h
    rw [List.flatMap_cons]
    by_cases g : k < 4
    · have e : (big 4 x ++ r.flatMap (big 4)).getD k 0 = (big 4 x).getD k 0 := by
        simp [List.getD, List.getElem?_append_left (show k < (big 4 x).length by rw [big_len]; exact g)]
      rw [e, big_at 4 x k g, show k / 4 = 0 by omega, show k % 4 = k by omega]
      rfl
    · have e : (big 4 x ++ r.flatMap (big 4)).getD k 0 = (r.flatMap (big 4)).getD (k - 4) 0 := by
        simp [List.getD, List.getElem?_append_right (show (big 4 x).length ≤ k by rw [big_len]; omega), big_len]
      rw [e, ih (k - 4) (by rw [List.length_cons] at h; omega), show k / 4 = (k - 4) / 4 + 1 by omega, show (k - 4) % 4 = k % 4 by omega, List.getD_cons_succ]
theorem out_at (V : Eight) (k : Nat) (h : k < 32) : (outB V).getD k 0 = V.list.getD (k / 4) 0 / 2 ^ (24 - 8 * (k % 4)) % 256 := by
  rw [outB, bytes_at _ _ h, show (256 : Nat) = 2 ^ 8 from rfl, ← Nat.pow_mul]
  congr 2
  congr 1
  omega
def OutIn (W : World) (z : Nat) (L : List Nat) (si : Value) (wr : World) : Prop := ∃ k : Nat, k ≤ 32 ∧ si = .int .i64 (k : Int) ∧ Arr8 23 wr z (L.take k ++ (List.replicate 32 0).drop k) ∧ Below z W wr
def SumIn (W : World) (p : List Nat) (H : Eight) (sh si : Value) (wr : World) : Prop := ∃ k : Nat, 64 * k ≤ p.length ∧ si = .int .i64 ((64 * k : Nat) : Int) ∧ Holds32 wr sh (blocks k p H).list ∧ Keeps W wr
set_option maxHeartbeats 2000000 in
set_option maxRecDepth 100000 in
theorem ref_sum (v : Value) (bs : List Nat) (w : World) (h : Holds8 w v bs) (hl : bs.length ≤ 1000000) : Calls Tryd.prog 56 #[v] w (GivesH w (sha bs)) := by
  have PP := Lib.hid (fun W (K : Keeps w W) => ref_padded v bs W (h.keeps K) hl)
  have HLT := Lib.hid h.1
  obtain ⟨ao, n, c, rfl⟩ : ∃ ao n c, v = .slice ao n c := by obtain ⟨_, ao, n, c, rfl, _⟩ := h; exact ⟨ao, n, c, rfl⟩
  clear h
  go_enter Tryd.func56, Tryd.ntmps56
  go_upto_region 1 with fail
  obtain ⟨w0, eW⟩ : ∃ W, W = w.alloc (.cells (vals8 (List.replicate 32 0)).toArray 23) := ⟨_, rfl⟩
  have A0 : Arr8 23 w0 w.heap.size (List.replicate 32 0) := by rw [eW]; exact Arr8.new w _ (fun x hx => by have := (List.mem_replicate.1 hx).2; omega)
  have K0 : Keeps w w0 := by rw [eW]; exact (Keeps.refl w).alloc _
  change Code.wp _ _ _ _ (w.alloc (.cells (vals8 (List.replicate 32 0)).toArray 23))
  rw [← eW]
  clear eW
  obtain ⟨z, ez⟩ : ∃ z, z = w.heap.size := ⟨_, rfl⟩
  rw [← ez] at A0 ⊢
  have A0 := Lib.hid A0
  have Z0 := Lib.hid ez
  clear ez
  go_upto_region 3 with (first
    | (go_at_call 72; (with_reducible refine (PP.out _ K0).mono ?_); rintro e w1 ⟨v1, rfl, hp, hk1⟩)
    | (go_at_call 73; (with_reducible refine (ref_firsts _).mono ?_); rintro e w2 ⟨v2, rfl, hf, hk2, _⟩))
  have hpl := pad_len bs
  have hp0 : 64 ≤ (padB bs).length := by
    have : 0 < (padB bs).length := by rw [padB, List.length_append, List.length_cons]; omega
    omega
  have hpm : (padB bs).length ≤ 1000200 := by
    rw [padB, List.length_append, List.length_cons, List.length_append, List.length_replicate, big_len, pads]; omega
  have ES := Lib.hid (show sha bs = outB (blocks ((padB bs).length / 64) (padB bs) (Eight.of firstW)) from rfl)
  generalize padB bs = p at *
  obtain ⟨gp, cp, rfl, hgp⟩ := hp.parts (by omega)
  have hp2 := hp.holds.keeps hk2
  have hf2 : Holds32 w2 v2 (blocks 0 p (Eight.of firstW)).list := hf
  have HPP := Lib.hid hp2
  have HF := Lib.hid hf2
  have KZ := Lib.hid (show Keeps w0 w2 by (focus ((repeat (first | with_reducible exact Keeps.refl _ | with_reducible assumption | with_reducible refine Keeps.alloc ?_ _ | with_reducible refine Keeps.drew ?_ | with_reducible refine Keeps.drewN ?_ _ | with_reducible refine Keeps.trans ?_ (by with_reducible assumption))); done)))
  have hpc : p.length ≤ cp := by obtain ⟨_, _, _, _, e, _, h, _⟩ := hp2; cases e; exact h
  have hcm : cp ≤ maxLen := by obtain ⟨_, _, _, _, e, _, _, h, _⟩ := hp2; cases e; exact h.1
  unfold maxLen at hcm
  obtain ⟨m, em⟩ : ∃ m, m = p.length := ⟨_, rfl⟩
  rw [← em] at hpl hp0 hpm hpc ES ⊢
  have EM := Lib.hid em
  clear hp hp2 hf hf2 em PP HLT hk1 hk2
  have m0 : (0 : Int) ≤ (m : Int) := by omega
  have m1 : (m : Int) ≤ 1000200 := by omega
  go_wp2_with fail
  go_loopw [4, 5] (fun sh si wr => SumIn w2 p (Eight.of firstW) sh si wr) (fun _ si _ => m - (intOf si).toNat)
  case atStart => exact ⟨0, by omega, rfl, HF.out, Keeps.refl _⟩
  case round =>
    obtain ⟨k, hk, rfl, hh, hK⟩ := hrel
    have hlen : (blocks k p (Eight.of firstW)).list.length = 8 := rfl
    obtain ⟨bh, oh, nh, ch, rfl, hnh, hnc, _, hbh, hcs⟩ := hh.open (by rw [hlen]; decide)
    rw [hlen] at hnh hcs
    subst hnh
    rw [← EM.out] at hk
    obtain ⟨i, ei⟩ : ∃ i, i = 64 * k := ⟨_, rfl⟩
    rw [← ei] at hk ⊢
    have i0 : (0 : Int) ≤ (i : Int) := by omega
    by_cases g : i < m
    · have hi : i + 64 ≤ m := by omega
      obtain ⟨j, ej⟩ : ∃ j, j = i + 64 := ⟨_, rfl⟩
      have g1 : (i : Int) < (m : Int) := by omega
      have w1 : IntKind.i64.wrap ((i : Int) + 64) = (j : Int) := by rw [IntWalk.i64_in _ (by omega)]; omega
      have j0 : (0 : Int) ≤ (j : Int) := by omega
      have j1 : (i : Int) ≤ (j : Int) := by omega
      have j2 : (j : Int) ≤ (m : Int) := by omega
      have j3 : (j : Int) ≤ (cp : Int) := by omega
      have j4 : j ≤ cp := by omega
      have j5 : i ≤ j := by omega
      have j6 : j - i = 64 := by omega
      have j7 : ¬ cp = i := by omega
      have HB := Lib.hid (show Holds8 wr (.slice (some ⟨gp, i, none⟩) 64 (cp - i)) ((p.drop i).take 64) by have h := (HPP.out.keeps hK).part i 64 (by have := EM.out; omega); rw [Nat.zero_add] at h; exact h)
      have HH := Lib.hid hh
      have HK := Lib.hid hK
      have EI := Lib.hid ei
      have NX := Lib.hid (blocks_next k p (Eight.of firstW))
      rw [← ei] at NX
      have HL := Lib.hid (show ((p.drop i).take 64).length = 64 by rw [List.length_take, List.length_drop]; have := EM.out; omega)
      clear hh hK ei hlen hcs
      go_wp2_with (go_at_call 74; (with_reducible refine (ref_block _ _ _ _ _ HH.out HB.out HL.out).mono ?_); rintro e w3 ⟨v3, rfl, hv3, hk3, _⟩)
      have H3 := Lib.hid hv3
      have K3 := Lib.hid (HK.out.trans hk3)
      clear hv3 hk3
      go_wp2_with fail
      go_roundw
      case rel => exact ⟨k + 1, by have := EM.out; have := EI.out; omega, by have := EI.out; congr 1; omega, by rw [NX.out]; exact H3.out, K3.out⟩
      case measure => simp [intOf] <;> omega
    · have him : i = m := by omega
      have EL := Lib.hid (show sha bs = outB (blocks k p (Eight.of firstW)) by rw [ES.out]; congr 2; omega)
      generalize blocks k p (Eight.of firstW) = V at *
      have HLT := Lib.hid hh.lt
      have HK := Lib.hid hK
      clear hh hK hlen
      go_upto_region 8 with fail
      obtain ⟨w5, eW⟩ : ∃ W, W = wr.alloc (.cells (vals8 (List.replicate 32 0)).toArray 23) := ⟨_, rfl⟩
      have A5 : Arr8 23 w5 wr.heap.size (List.replicate 32 0) := by rw [eW]; exact Arr8.new wr _ (fun x hx => by have := (List.mem_replicate.1 hx).2; omega)
      have K5 : Keeps wr w5 := by rw [eW]; exact (Keeps.refl wr).alloc _
      change Code.wp _ _ _ _ (wr.alloc (.cells (vals8 (List.replicate 32 0)).toArray 23))
      rw [← eW]
      clear eW
      obtain ⟨z5, ez⟩ : ∃ z, z = wr.heap.size := ⟨_, rfl⟩
      rw [← ez] at A5 ⊢
      have A5 := Lib.hid A5
      have Z5 := Lib.hid ez
      have KR := Lib.hid (show Keeps w2 w5 from HK.out.trans K5)
      have CH := Lib.hid (show ∀ W, Below z5 w5 W → ∀ i, i < 8 → W.cell? ⟨bh, oh + i, none⟩ = some (.int .u32 ((V.list.getD i 0 : Nat) : Int)) from fun W b i hi => (Below.cell (p := ⟨bh, oh + i, none⟩) b (by rw [Z5.out]; exact hbh)).trans ((K5.cell hbh).trans (hcs i hi)))
      have A05 := Lib.hid ((A0.out.keeps KZ.out).keeps KR.out)
      have zlt : z < z5 := by rw [Z5.out]; exact Nat.lt_of_lt_of_le (A0.out.keeps KZ.out).size HK.out.size
      have OL := Lib.hid (out_len V)
      clear ez K5 HK hcs
      go_wp2_with fail
      go_loopw [7] (fun si wr => OutIn w5 z5 (outB V) si wr) (fun si _ => 32 - (intOf si).toNat)
      case atStart => exact ⟨0, by omega, rfl, A5.out, Below.refl _ _⟩
      case round =>
        clear A5
        obtain ⟨k, hk, rfl, hA, hB⟩ := hrel
        obtain ⟨L, eL⟩ : ∃ L, L = (outB V).take k ++ (List.replicate 32 0).drop k := ⟨_, rfl⟩
        rw [← eL] at hA
        have hL : L.length = 32 := by rw [eL, List.length_append, List.length_take, List.length_drop, OL.out, List.length_replicate]; omega
        by_cases g : k < 32
        · obtain ⟨q, eq⟩ : ∃ q, q = k / 4 := ⟨_, rfl⟩
          obtain ⟨s, es⟩ : ∃ s, s = 24 - 8 * (k % 4) := ⟨_, rfl⟩
          obtain ⟨r, er⟩ : ∃ r, r = k % 4 := ⟨_, rfl⟩
          have c := CH.out _ hB q (by omega)
          have lx := HLT.out q
          have OA := Lib.hid (out_at V k g)
          rw [← eq, ← es] at OA
          have NX := Lib.hid (swap_next (outB V) (List.replicate 32 0) k (by rw [OL.out]; exact g) (by rw [List.length_replicate]; exact g))
          rw [← eL, OA.out] at NX
          generalize V.list.getD q 0 = x at *
          have f1 : (k : Int) / 4 = (q : Int) := by omega
          have f2 : (k : Int) % 4 = (r : Int) := by omega
          have f3 : IntKind.i64.wrap (8 * (r : Int)) = 8 * (r : Int) := IntWalk.i64_in _ (by omega)
          have f4 : IntKind.i64.wrap (24 - 8 * (r : Int)) = (s : Int) := by rw [IntWalk.i64_in _ (by omega)]; omega
          have q0 : (0 : Int) ≤ (q : Int) := by omega
          have q1 : (q : Int) < 8 := by omega
          have s0 : (0 : Int) ≤ (s : Int) := by omega
          have s1 : ¬ (s : Int) < 0 := by omega
          have s2 : min s 32 = s := by omega
          have k0 : (0 : Int) ≤ (k : Int) := by omega
          have k1 : (k : Int) < 32 := by omega
          have ca := hA.cell k (by omega)
          have fa := hA.free k
          have HA := Lib.hid hA
          have HB := Lib.hid hB
          have KB := Lib.hid g
          clear hA hB g hk eL es er eq hL
          go_wp2_with fail
          rw [u8_shr x s]
          have HA2 := Lib.hid (HA.out.set k (x / 2 ^ s % 256) (Nat.mod_lt _ (by decide)))
          go_roundw
          case rel => exact ⟨k + 1, KB.out, by go_num, by rw [← NX.out]; exact HA2.out, Below.setCell HB.out (Nat.le_refl _) _⟩
          case measure => have := KB.out; simp [intOf] <;> omega
        · obtain rfl : k = 32 := by omega
          have e32 : L = outB V := by rw [eL, List.take_of_length_le (by rw [OL.out]; exact Nat.le_refl _), List.drop_of_length_le (by rw [List.length_replicate]; exact Nat.le_refl _), List.append_nil]
          rw [e32] at hA
          have AZ : Arr8 23 wr z (List.replicate 32 0) := ⟨A05.out.1, (hB.block z zlt).trans A05.out.2⟩
          have KW := Lib.hid (show Below z w0 wr from ((Below.mono KZ.out (Nat.le_of_lt A0.out.size)).trans (Below.mono KR.out (Nat.le_of_lt (A0.out.keeps KZ.out).size))).trans (Below.mono hB (Nat.le_of_lt zlt)))
          have HA := Lib.hid hA
          have HZ := Lib.hid AZ
          have K00 := Lib.hid K0
          clear eL hL hk g hA hB AZ
          go_upto_region 12 with fail
          refine wp_region_lit ?_
          refine wpList_load_hash rfl _ (by rfl) z5 _ (by rfl) HA.out OL.out ?_
          refine wpList_store_hash rfl _ _ (by rfl) z _ _ (by rfl) (by rfl) HZ.out (by rw [List.length_replicate]) OL.out ?_
          have HR := Lib.hid (HZ.out.setRow (out_lt V))
          have KF := Lib.hid (show Keeps w (wr.setRow z (vals8 (outB V)).toArray) from below_setRow (Below.trans K00.out (by rw [← Z0.out]; exact KW.out)) (by rw [Z0.out]; exact Nat.le_refl _) _)
          refine wpList_nil ?_
          go_wp2_with fail
          exact bodyPost_ret (v := hashV (outB V)) (results_hash rfl _ _ z _ (by rfl) HR.out OL.out) rfl ⟨by rw [EL.out], KF.out⟩
end Go.Proofs.YtckikgfckihniaaDoor
