/- The laws' small case on seals. -/
import Derived.Test.YtboogomenmlhjaaDoorSealHash
import Derived.Test.YtboogomenmlhjaaDoorRowCut
import Derived.Test.YtboogomenmlhjaaDoorDrawnV
import Derived.Deep.RegionHeld3
set_option linter.unusedVariables false
set_option linter.unusedSimpArgs false
set_option maxRecDepth 10000
namespace Go.Proofs.YtboogomenmlhjaaDoor
open Go.RowKit Go.HashMath

def plainF : List Nat := [112, 108, 97, 105, 110]
def sevenF : List Nat := [49, 50, 51, 52, 53, 54, 55]
def GivesR (w : World) (xs : List Nat) (n : Nat) (e : Ending) (w' : World) : Prop := ∃ o c, e = .returned (.slice o n c) ∧ Holds8 w' (.slice o n c) xs ∧ Keeps w w'
def GivesRB (w : World) (xs : List Nat) (n : Nat) (b : Bool) (e : Ending) (w' : World) : Prop := ∃ o c, e = .returned (.tuple #[.slice o n c, .bool b]) ∧ Holds8 w' (.slice o n c) xs ∧ Keeps w w'
theorem givesS_r {w : World} {xs : List Nat} {e : Ending} {w' : World} {n : Nat} (hl : xs.length = n) (h : GivesS w xs e w') : GivesR w xs n e w' := by
  subst hl
  obtain ⟨v, rfl, o, k⟩ := h
  have q := o.holds
  obtain ⟨_, ao, n, c, rfl, hn, _⟩ := q
  subst hn
  exact ⟨_, _, rfl, o.holds, k⟩
theorem givesSB_r {w : World} {xs : List Nat} {b : Bool} {e : Ending} {w' : World} {n : Nat} (hl : xs.length = n) (h : GivesSB w xs b e w') : GivesRB w xs n b e w' := by
  subst hl
  obtain ⟨v, rfl, o, k⟩ := h
  have q := o.holds
  obtain ⟨_, ao, n, c, rfl, hn, _⟩ := q
  subst hn
  exact ⟨_, _, rfl, o.holds, k⟩
theorem run_sliceN (n : Nat) (hn : n ≤ 32) (z : Nat) (w : World) : (Instr.sliceAt 23 (.pointer (some ⟨z, 0, none⟩)) none (some (.int .i64 (n : Int))) none).run Tryd.prog w = .ok (.slice (some ⟨z, 0, none⟩) n 32) w := by
  rw [run_sliceAt_array_h w _ _ undHash2 .i64 n (by omega) (by rw [arrHash]; omega), arrHash, run_size (P := Tryd.prog) (T := Tryd.prog.elem 23) (by rw [show Tryd.prog.elem 23 = 5 by kernel_rfl]; kernel_rfl)]
  simp [Result.andThen, slicedAt, Addr.add]
theorem sum_sliceN {w : World} {z : Nat} {m : List Nat} (h : ArrN .u8 256 23 w z m) (hl : m.length = 32) (n : Nat) (hn : n ≤ 32) : Holds8 w (.slice (some ⟨z, 0, none⟩) n 32) (m.take n) := ArrN.holds8 h n 32 (by omega) (by omega) (by decide)
theorem wp_named9s {P : Program} {c : Code} {Q : Exit → Act → World → Prop} {a : Act} {wr : World} {Z cs : Array Value} {T : TypeId} (h : ∀ W z, Keeps wr W → W.heap[z]? = some (.cells cs T (0, 0)) → z = wr.heap.size → c.wp P Q a W) : c.wp P Q a ((wr.alloc (.cells Z T)).setRow wr.heap.size cs) :=
  h _ _ (below_setRow' ((Keeps.refl wr).alloc _) (Nat.le_refl _) _) (setRow_heap _ _ _ _ T (0, 0) (heap_alloc_new _ _)) rfl
theorem make8 (w : World) : (Instr.makeSlice 24 (.int .i64 8) (.int .i64 8)).run Tryd.prog w = .ok (.slice (some ⟨w.heap.size, 0, none⟩) 8 8) (w.alloc (.cells (vals8 (List.replicate 8 0)).toArray 5)) := by
  obtain ⟨i0, hi, hz0, hz1, hz2⟩ := info_parts info8
  have h := run_makeSlice (P := Tryd.prog) w 24 5 i0 (.int .u8 0) Tryd.underlying24 hi hz0 .i64 .i64 8 8 (by omega) (by omega) (by rw [hz1]; decide) (by rw [hz2]; decide) (by decide)
  rw [hz1, show madeCells (Value.int .u8 0).cells (Int.toNat 8 * 1) = (vals8 (List.replicate 8 0)).toArray by kernel_rfl] at h
  exact h
theorem run_slice8s (z : Nat) (w : World) : (Instr.sliceAt 23 (.pointer (some ⟨z, 0, none⟩)) none (some (.int .i64 8)) none).run Tryd.prog w = .ok (.slice (some ⟨z, 0, none⟩) 8 32) w := run_sliceN 8 (by decide) z w
theorem run_slice5s (z : Nat) (w : World) : (Instr.sliceAt 23 (.pointer (some ⟨z, 0, none⟩)) none (some (.int .i64 5)) none).run Tryd.prog w = .ok (.slice (some ⟨z, 0, none⟩) 5 32) w := run_sliceN 5 (by decide) z w
theorem calls_from {P : Program} {f : Nat} {args : Array Value} {w : World} {Q : Ending → World → Prop} (W : World) (h : Calls P f args w Q) (k : Keeps W w) : Calls P f args w fun e w' => Q e w' ∧ Keeps W w := h.mono fun _ _ x => ⟨x, k⟩
set_option maxHeartbeats 8000000 in
set_option maxRecDepth 100000 in
theorem seal_small {R : World → Prop} (hR : Lasting R) (K : SealC R) (S : SumC R) (w : World) (hw : R w) : Calls Tryd.prog 9 #[] w fun e w' => e = .returned (.bool true) ∧ Keeps w w' := by
  have RW := Lib.hid (fun w' (q : Keeps w w') => hR w w' hw q)
  have hTM := marks_apart
  have hk := sum32_sha [107, 101, 121]
  have C1 := Lib.hid (fun v w' (q : Keeps w w') (h : Holds8 w' v [107, 101, 121]) => S.csum v [107, 101, 121] w' h (by decide) (RW.out _ q))
  generalize sha [107, 101, 121] = key at *
  have HM := Lib.hid hk
  have kl : key.length = 32 := hk.1
  have e4 : strB { data := #[115, 101, 97, 108] } = nSeal := rfl
  have e6 : strB { data := #[115, 116, 114, 101, 97, 109] } = nStream := rfl
  have l13 : (sealB key plainF).length = 13 := by rw [seal_len]; rfl
  have l33 : (streamB key 33).length = 33 := stream_len _ _
  have h1 := sum32_sha (tagB nSeal [key])
  have h2 := sum32_sha (tagB nSeal [key, []])
  have h3 := sum32_sha (tagB nStream [key, List.replicate 8 0])
  have l8 : ((sha (tagB nSeal [key, []])).take 8).length = 8 := by rw [List.length_take, h2.1]; rfl
  have l5 : ((sha (tagB nStream [key, List.replicate 8 0])).take 5).length = 5 := by rw [List.length_take, h3.1]; rfl
  have C2 := Lib.hid (fun v w' (q : Keeps w w') (h : Holds8 w' v plainF) => show Calls Tryd.prog 14 #[.agg (vals8 key).toArray, v] w' (GivesR w' (sealB key plainF) 13) from (K.cseal key v plainF w' hk h (RW.out _ q)).mono fun _ _ x => givesS_r l13 x)
  have C3 := Lib.hid (fun v w' (q : Keeps w w') (h : Holds8 w' v (sealB key plainF)) => show Calls Tryd.prog 10 #[.agg (vals8 key).toArray, v] w' (GivesRB w' plainF 5 true) from by have z := K.copen key v (sealB key plainF) w' hk h (RW.out _ q); rw [(open_seal (key := key) (p := plainF) (by decide)).1, (open_seal (key := key) (p := plainF) (by decide)).2] at z; exact z.mono fun _ _ x => givesSB_r rfl x)
  have C4 := Lib.hid (fun w' (q : Keeps w w') => show Calls Tryd.prog 14 #[.agg (vals8 key).toArray, .slice none 0 0] w' (GivesR w' (sealB key []) 8) from (K.cseal key _ [] w' hk (Holds8.nil _) (RW.out _ q)).mono fun _ _ x => givesS_r (by rw [seal_nil]; exact l8) x)
  have C5 := Lib.hid (fun v w' (q : Keeps w w') (h : Holds8 w' v (sealB key [])) => show Calls Tryd.prog 10 #[.agg (vals8 key).toArray, v] w' (GivesRB w' [] 0 true) from by have z := K.copen key v (sealB key []) w' hk h (RW.out _ q); rw [(open_seal (key := key) (p := []) (by decide)).1, (open_seal (key := key) (p := []) (by decide)).2] at z; exact z.mono fun _ _ x => givesSB_r rfl x)
  have C6 := Lib.hid (fun v w' (q : Keeps w w') (h : Holds8 w' v sevenF) => show Calls Tryd.prog 10 #[.agg (vals8 key).toArray, v] w' (GivesRB w' [] 0 false) from by have z := K.copen key v sevenF w' hk h (RW.out _ q); have o : opensB key sevenF = false := (by unfold opensB; rfl); rw [openV, o] at z; exact z.mono fun _ _ x => givesSB_r rfl x)
  have C7 := Lib.hid (fun v w' (q : Keeps w w') (h : Parts w' v [key]) => by have z := S.ctag { data := #[115, 101, 97, 108] } v [key] w' h (by rw [tag_len, e4]; simp only [List.map_cons, List.map_nil, List.sum_cons, List.sum_nil, kl]; decide) (RW.out _ q); rw [e4] at z; exact z)
  have C8 := Lib.hid (fun v w' (q : Keeps w w') (h : Parts w' v [key, []]) => by have z := S.ctag { data := #[115, 101, 97, 108] } v [key, []] w' h (by rw [tag_len, e4]; simp only [List.map_cons, List.map_nil, List.sum_cons, List.sum_nil, kl]; decide) (RW.out _ q); rw [e4] at z; exact z)
  have C9 := Lib.hid (fun v w' (q : Keeps w w') (h : Parts w' v [key, List.replicate 8 0]) => by have z := S.ctag { data := #[115, 116, 114, 101, 97, 109] } v [key, List.replicate 8 0] w' h (by rw [tag_len, e6]; simp only [List.map_cons, List.map_nil, List.sum_cons, List.sum_nil, kl]; decide) (RW.out _ q); rw [e6] at z; exact z)
  have CA := Lib.hid (fun w' (q : Keeps w w') => show Calls Tryd.prog 12 #[.agg (vals8 key).toArray, .int .i64 5] w' (GivesR w' (streamB key 5) 5) from (K.cstream key 5 w' hk (by decide) (by decide) (RW.out _ q)).mono fun _ _ x => givesS_r (stream_len _ _) x)
  have CB := Lib.hid (fun w' (q : Keeps w w') => show Calls Tryd.prog 12 #[.agg (vals8 key).toArray, .int .i64 (-1)] w' (GivesR w' [] 0) from (K.cstream key (-1) w' hk (by decide) (by decide) (RW.out _ q)).mono fun _ _ x => givesS_r rfl x)
  have CC := Lib.hid (fun w' (q : Keeps w w') => show Calls Tryd.prog 12 #[.agg (vals8 key).toArray, .int .i64 65537] w' (GivesR w' [] 0) from (K.cstream key 65537 w' hk (by decide) (by decide) (RW.out _ q)).mono fun _ _ x => givesS_r rfl x)
  have CD := Lib.hid (fun w' (q : Keeps w w') => show Calls Tryd.prog 12 #[.agg (vals8 key).toArray, .int .i64 33] w' (GivesR w' (streamB key 33) 33) from (K.cstream key 33 w' hk (by decide) (by decide) (RW.out _ q)).mono fun _ _ x => givesS_r l33 x)
  simp only [seal_nil, stream_five] at C4 C5 CA
  generalize streamB key 33 = s33 at *
  generalize sealB key plainF = s13 at *
  generalize sha (tagB nSeal [key]) = m1 at *
  generalize sha (tagB nSeal [key, []]) = m2 at *
  generalize sha (tagB nStream [key, List.replicate 8 0]) = m3 at *
  have H1 := Lib.hid h1
  have H2 := Lib.hid h2
  have H3 := Lib.hid h3
  have L13 := Lib.hid l13
  have L33 := Lib.hid l33
  have L8 := Lib.hid l8
  have L5 := Lib.hid l5
  have NE := Lib.hid (equal_not9 h1 h2 hTM)
  have cv := conv_bytes
  clear hR K S hw hTM hk kl e4 e6 l13 l33 l8 l5 h1 h2 h3
  go_enter Tryd.func9, Tryd.ntmps9
  go_upto_region 2 with (first
    | (go_at_call 17; (refine (calls_keeps2 w (C1.out _ _ ?_ ?_) ?_).mono ?_); (focus ((repeat (first | with_reducible exact Keeps.refl _ | with_reducible assumption | with_reducible refine Keeps.alloc ?_ _ | with_reducible refine Keeps.drew ?_ | with_reducible refine Keeps.drewN ?_ _ | ((with_reducible refine Keeps.mark ?_ ?hm); (case hm => (focus ((try simp only [World.size_alloc, mark_size]); first | exact Nat.le_refl _ | exact Nat.le_add_right _ _ | exact Keeps.size (by with_reducible assumption) | exact Nat.le_trans (Keeps.size (by with_reducible assumption)) (Nat.le_add_right _ _))))) | with_reducible refine Keeps.trans ?_ (by with_reducible assumption))); done)); (focus ((repeat (first | with_reducible assumption | ((with_reducible refine lit8_at (by decide) (by decide) ?hc rfl rfl ?hg); (case hc => rfl); (case hg => first | rfl | simp [World.size_alloc, mark_size])) | with_reducible refine holds8_mark ?_ _ | with_reducible refine holds8_alloc ?_ _ | with_reducible refine holds8_drew ?_ | with_reducible refine Holds8.keeps ?_ (by with_reducible assumption))); done)); (focus ((repeat (first | with_reducible exact Keeps.refl _ | with_reducible assumption | with_reducible refine Keeps.alloc ?_ _ | with_reducible refine Keeps.drew ?_ | with_reducible refine Keeps.drewN ?_ _ | ((with_reducible refine Keeps.mark ?_ ?hm); (case hm => (focus ((try simp only [World.size_alloc, mark_size]); first | exact Nat.le_refl _ | exact Nat.le_add_right _ _ | exact Keeps.size (by with_reducible assumption) | exact Nat.le_trans (Keeps.size (by with_reducible assumption)) (Nat.le_add_right _ _))))) | with_reducible refine Keeps.trans ?_ (by with_reducible assumption))); done)); rintro e w1 ⟨rfl, _, hk1⟩)
    | (refine wpList_store_arr (k := .u8) (m := 256) (L := key) sizSum rfl _ _ (by rfl) _ (by rfl) (by rfl) (ArrN.new w1 (List.replicate 32 0) (noughts_lt 32)) (by rw [List.length_replicate]) HM.out.1 ?_))
  refine wp_named9s fun W1 z1 hk hb ez => ?_
  rw [← ez]
  have K1 := Lib.hid (hk1.trans hk)
  have A1 := Lib.hid (show ArrN .u8 256 23 W1 z1 key from ⟨HM.out.2, hb⟩)
  clear hk hb ez hk1
  have RG := Lib.hid A1.out.range
  have kk := K1.out
  go_upto_region 3 with (first
    | (refine wpList_load_sm (L := key) rfl (.tmp 1) rfl (by rfl) RG.out HM.out.1 ?_)
    | (go_at_call 14; (refine (calls_from W1 (C2.out _ _ ?_ ?_) ?_).mono ?_); (focus ((repeat (first | with_reducible exact Keeps.refl _ | with_reducible assumption | with_reducible refine Keeps.alloc ?_ _ | with_reducible refine Keeps.drew ?_ | with_reducible refine Keeps.drewN ?_ _ | ((with_reducible refine Keeps.mark ?_ ?hm); (case hm => (focus ((try simp only [World.size_alloc, mark_size]); first | exact Nat.le_refl _ | exact Nat.le_add_right _ _ | exact Keeps.size (by with_reducible assumption) | exact Nat.le_trans (Keeps.size (by with_reducible assumption)) (Nat.le_add_right _ _))))) | with_reducible refine Keeps.trans ?_ (by with_reducible assumption))); done)); (focus ((repeat (first | with_reducible assumption | ((with_reducible refine lit8_at (by decide) (by decide) ?hc rfl rfl ?hg); (case hc => rfl); (case hg => first | rfl | simp [World.size_alloc, mark_size])) | with_reducible refine holds8_mark ?_ _ | with_reducible refine holds8_alloc ?_ _ | with_reducible refine holds8_drew ?_ | with_reducible refine Holds8.keeps ?_ (by with_reducible assumption))); done)); (focus ((repeat (first | with_reducible exact Keeps.refl _ | with_reducible assumption | with_reducible refine Keeps.alloc ?_ _ | with_reducible refine Keeps.drew ?_ | with_reducible refine Keeps.drewN ?_ _ | ((with_reducible refine Keeps.mark ?_ ?hm); (case hm => (focus ((try simp only [World.size_alloc, mark_size]); first | exact Nat.le_refl _ | exact Nat.le_add_right _ _ | exact Keeps.size (by with_reducible assumption) | exact Nat.le_trans (Keeps.size (by with_reducible assumption)) (Nat.le_add_right _ _))))) | with_reducible refine Keeps.trans ?_ (by with_reducible assumption))); done)); rintro e w2 ⟨⟨o2, c2, rfl, h2, k2⟩, q2⟩))
  have KX := Lib.hid (show Keeps W1 w2 from q2.trans k2)
  have A1 := Lib.hid (A1.out.keeps KX.out)
  have G2 := Lib.hid h2
  clear h2 k2 q2 RG kk
  have K1 := Lib.hid (K1.out.trans KX.out)
  have RG := Lib.hid A1.out.range
  have kk := K1.out
  go_upto_region 4 with (first
    | (refine wpList_load_sm (L := key) rfl (.tmp 1) rfl (by rfl) RG.out HM.out.1 ?_)
    | (go_at_call 10; (refine (C3.out _ _ kk G2.out).mono ?_); rintro e w3 ⟨o3, c3, rfl, h3, k3⟩))
  have KX := Lib.hid (show Keeps w2 w3 from k3)
  have A1 := Lib.hid (A1.out.keeps KX.out)
  have G2 := Lib.hid (G2.out.keeps KX.out)
  have G3 := Lib.hid h3
  clear h3 k3 RG kk
  have K1 := Lib.hid (K1.out.trans KX.out)
  have RG := Lib.hid A1.out.range
  have kk := K1.out
  go_upto_region 5 with (first
    | (refine wpList_load_sm (L := key) rfl (.tmp 1) rfl (by rfl) RG.out HM.out.1 ?_)
    | (go_at_call 14; (refine (C4.out _ kk).mono ?_); rintro e w4 ⟨o5, c5, rfl, h5, k5⟩))
  have KX := Lib.hid (show Keeps w3 w4 from k5)
  have A1 := Lib.hid (A1.out.keeps KX.out)
  have G2 := Lib.hid (G2.out.keeps KX.out)
  have G3 := Lib.hid (G3.out.keeps KX.out)
  have G5 := Lib.hid h5
  clear h5 k5 RG kk
  have K1 := Lib.hid (K1.out.trans KX.out)
  have RG := Lib.hid A1.out.range
  have kk := K1.out
  go_upto_region 6 with (first
    | (refine wpList_load_sm (L := key) rfl (.tmp 1) rfl (by rfl) RG.out HM.out.1 ?_)
    | (go_at_call 10; (refine (C5.out _ _ kk G5.out).mono ?_); rintro e w5 ⟨o6, c6, rfl, h6, k6⟩))
  have KX := Lib.hid (show Keeps w4 w5 from k6)
  have A1 := Lib.hid (A1.out.keeps KX.out)
  have G2 := Lib.hid (G2.out.keeps KX.out)
  have G3 := Lib.hid (G3.out.keeps KX.out)
  have G5 := Lib.hid (G5.out.keeps KX.out)
  clear h6 k6 RG kk
  have K1 := Lib.hid (K1.out.trans KX.out)
  have RG := Lib.hid A1.out.range
  have kk := K1.out
  go_upto_region 7 with (first
    | (refine wpList_load_sm (L := key) rfl (.tmp 1) rfl (by rfl) RG.out HM.out.1 ?_)
    | (go_at_call 10; (refine (calls_from w5 (C6.out _ _ ?_ ?_) ?_).mono ?_); (focus ((repeat (first | with_reducible exact Keeps.refl _ | with_reducible assumption | with_reducible refine Keeps.alloc ?_ _ | with_reducible refine Keeps.drew ?_ | with_reducible refine Keeps.drewN ?_ _ | ((with_reducible refine Keeps.mark ?_ ?hm); (case hm => (focus ((try simp only [World.size_alloc, mark_size]); first | exact Nat.le_refl _ | exact Nat.le_add_right _ _ | exact Keeps.size (by with_reducible assumption) | exact Nat.le_trans (Keeps.size (by with_reducible assumption)) (Nat.le_add_right _ _))))) | with_reducible refine Keeps.trans ?_ (by with_reducible assumption))); done)); (focus ((repeat (first | with_reducible assumption | ((with_reducible refine lit8_at (by decide) (by decide) ?hc rfl rfl ?hg); (case hc => rfl); (case hg => first | rfl | simp [World.size_alloc, mark_size])) | with_reducible refine holds8_mark ?_ _ | with_reducible refine holds8_alloc ?_ _ | with_reducible refine holds8_drew ?_ | with_reducible refine Holds8.keeps ?_ (by with_reducible assumption))); done)); (focus ((repeat (first | with_reducible exact Keeps.refl _ | with_reducible assumption | with_reducible refine Keeps.alloc ?_ _ | with_reducible refine Keeps.drew ?_ | with_reducible refine Keeps.drewN ?_ _ | ((with_reducible refine Keeps.mark ?_ ?hm); (case hm => (focus ((try simp only [World.size_alloc, mark_size]); first | exact Nat.le_refl _ | exact Nat.le_add_right _ _ | exact Keeps.size (by with_reducible assumption) | exact Nat.le_trans (Keeps.size (by with_reducible assumption)) (Nat.le_add_right _ _))))) | with_reducible refine Keeps.trans ?_ (by with_reducible assumption))); done)); rintro e w6 ⟨⟨o8, c8, rfl, h8, k8⟩, q8⟩))
  have KX := Lib.hid (show Keeps w5 w6 from q8.trans k8)
  have A1 := Lib.hid (A1.out.keeps KX.out)
  have G2 := Lib.hid (G2.out.keeps KX.out)
  have G3 := Lib.hid (G3.out.keeps KX.out)
  have G5 := Lib.hid (G5.out.keeps KX.out)
  clear h8 k8 q8 RG kk
  have K1 := Lib.hid (K1.out.trans KX.out)
  have sq := run_sliceAll z1 w6
  have kk := K1.out
  go_upto_region 8 with (first
    | (go_at_call 16; (refine Calls.mono (C7.out _ _ (kk.alloc _) (parts_lit (vs := [.slice (some ⟨z1, 0, none⟩) 32 32]) (ls := [key]) ⟨sum_slice A1.out HM.out.1, trivial⟩ (by simp) rfl rfl rfl)) ?_); rintro e w7 ⟨rfl, hk⟩)
    | (refine wpList_store_arr (k := .u8) (m := 256) (L := m1) sizSum rfl _ _ (by rfl) (List.replicate 32 0) (by rfl) (by rfl) (ArrN.new w7 (List.replicate 32 0) (noughts_lt 32)) (by rw [List.length_replicate]) H1.out.1 ?_))
  refine wp_named9s fun W7 z10 hk4 hb ez => ?_
  rw [← ez]
  have A10 := Lib.hid (show ArrN .u8 256 23 W7 z10 m1 from ⟨H1.out.2, hb⟩)
  have KX := Lib.hid (show Keeps w6 W7 from ((Keeps.refl w6).alloc _).trans (hk.trans hk4))
  have A1 := Lib.hid (A1.out.keeps KX.out)
  have G2 := Lib.hid (G2.out.keeps KX.out)
  have G3 := Lib.hid (G3.out.keeps KX.out)
  have G5 := Lib.hid (G5.out.keeps KX.out)
  clear hk4 hb ez hk kk sq
  have K1 := Lib.hid (K1.out.trans KX.out)
  have sq := run_sliceAll z1 W7
  have kk := K1.out
  go_upto_region 9 with (first
    | (go_at_call 16; (refine Calls.mono (C8.out _ _ (kk.alloc _) (parts_lit (vs := [.slice (some ⟨z1, 0, none⟩) 32 32, .slice none 0 0]) (ls := [key, []]) ⟨sum_slice A1.out HM.out.1, Holds8.nil _, trivial⟩ (by simp) rfl rfl rfl)) ?_); rintro e w8 ⟨rfl, hk⟩)
    | (refine wpList_store_arr (k := .u8) (m := 256) (L := m2) sizSum rfl _ _ (by rfl) (List.replicate 32 0) (by rfl) (by rfl) (ArrN.new w8 (List.replicate 32 0) (noughts_lt 32)) (by rw [List.length_replicate]) H2.out.1 ?_))
  refine wp_named9s fun W8 z11 hk4 hb ez => ?_
  rw [← ez]
  have A11 := Lib.hid (show ArrN .u8 256 23 W8 z11 m2 from ⟨H2.out.2, hb⟩)
  have KX := Lib.hid (show Keeps W7 W8 from ((Keeps.refl W7).alloc _).trans (hk.trans hk4))
  have A1 := Lib.hid (A1.out.keeps KX.out)
  have G2 := Lib.hid (G2.out.keeps KX.out)
  have G3 := Lib.hid (G3.out.keeps KX.out)
  have G5 := Lib.hid (G5.out.keeps KX.out)
  have A10 := Lib.hid (A10.out.keeps KX.out)
  clear hk4 hb ez hk kk sq
  have K1 := Lib.hid (K1.out.trans KX.out)
  have ZB := Lib.hid (show z1 < W8.heap.size from A1.out.size)
  have SL := Lib.hid run_sliceAll
  refine region_drawn2 (N := 112) (fix := ([(1, .pointer (some ⟨z1, 0, none⟩)), (2, .slice o2 13 c2), (3, .slice o3 5 c3), (4, .bool true), (5, .slice o5 8 c5), (7, .bool true), (9, .bool false), (10, .pointer (some ⟨z10, 0, none⟩)), (11, .pointer (some ⟨z11, 0, none⟩))] : List (Tmp × Value)).map (·.1)) (Fix := FixOf [(1, .pointer (some ⟨z1, 0, none⟩)), (2, .slice o2 13 c2), (3, .slice o3 5 c3), (4, .bool true), (5, .slice o5 8 c5), (7, .bool true), (9, .bool false), (10, .pointer (some ⟨z10, 0, none⟩)), (11, .pointer (some ⟨z11, 0, none⟩))]) (H := Keeps W8) (R := StepV 23 W8.heap.size) (deps := fun gi => ([[], [], [], [], [], [12]] : List (List Tmp)).getD gi []) (Good := goodOf2 [valA (.slice (some ⟨z1, 0, none⟩) 32 32), holdV W8.heap.size (List.replicate 8 0), partsV W8.heap.size [key, List.replicate 8 0], valA (.agg (vals8 m3).toArray), ptrA W8.heap.size 32 23, putA W8.heap.size 12 (cellsK .u8 m3).toArray 23])
    (by kernel_rfl) (fix_all _) (fun gi gv ga gw gx hl => good_lasts2 (R := StepV 23 W8.heap.size) (gs := [valA (.slice (some ⟨z1, 0, none⟩) 32 32), holdV W8.heap.size (List.replicate 8 0), partsV W8.heap.size [key, List.replicate 8 0], valA (.agg (vals8 m3).toArray), ptrA W8.heap.size 32 23, putA W8.heap.size 12 (cellsK .u8 m3).toArray 23]) (k := 0) ⟨Or.inr (valA_lasts _), Or.inr (holdV_lasts (T := 23) (by decide) _), Or.inr (partsV_lasts (T := 23) (by decide) (by decide) _), Or.inr (valA_lasts _), Or.inr (ptrA_lastsV), Or.inl (by kernel_rfl), trivial⟩ gi gv ga gw gx (by rw [Nat.zero_add]; exact hl)) (fun gi gv ga gb gw hd => good_leans (dss := [[], [], [], [], [], [12]]) (gs := [valA (.slice (some ⟨z1, 0, none⟩) 32 32), holdV W8.heap.size (List.replicate 8 0), partsV W8.heap.size [key, List.replicate 8 0], valA (.agg (vals8 m3).toArray), ptrA W8.heap.size 32 23, putA W8.heap.size 12 (cellsK .u8 m3).toArray 23]) (k := 0) ⟨valA_leans _ _, holdV_leans _ _ _, partsV_leans _ _ _, valA_leans _ _, ptrA_leans _ _ _ _, putA_leans _ _ _ _ (by simp), trivial⟩ gi gv ga gb gw (by rw [Nat.zero_add]; exact hd))
    (by kernel_rfl) (by kernel_rfl) (by kernel_rfl) (by kernel_rfl) rfl ?_ ((Keeps.refl _).drew) ?_ ?_
  · refine ⟨rfl, fun x hx => ?_⟩
    simp only [List.mem_cons, List.not_mem_nil, or_false] at hx
    rcases hx with rfl | rfl | rfl | rfl | rfl | rfl | rfl | rfl | rfl
    · rfl
    · rfl
    · rfl
    · rfl
    · rfl
    · rfl
    · rfl
    · rfl
    · rfl
  · intro fa w hN hF hH hG
    obtain ⟨_, _, z12, s12, b12, m12⟩ := hG 5 _ rfl
    have A12 := Lib.hid (show ArrN .u8 256 23 w z12 m3 from ⟨H3.out.2, m12⟩)
    clear m12 b12
    obtain ⟨tm, df⟩ := fa
    obtain rfl : df = [] := hF.1
    have s1 : Slot ⟨tm, []⟩ 1 (.pointer (some ⟨z1, 0, none⟩)) := hF.2 (1, .pointer (some ⟨z1, 0, none⟩)) (by simp)
    have s2 : Slot ⟨tm, []⟩ 2 (.slice o2 13 c2) := hF.2 (2, .slice o2 13 c2) (by simp)
    have s3 : Slot ⟨tm, []⟩ 3 (.slice o3 5 c3) := hF.2 (3, .slice o3 5 c3) (by simp)
    have s4 : Slot ⟨tm, []⟩ 4 (.bool true) := hF.2 (4, .bool true) (by simp)
    have s5 : Slot ⟨tm, []⟩ 5 (.slice o5 8 c5) := hF.2 (5, .slice o5 8 c5) (by simp)
    have s7 : Slot ⟨tm, []⟩ 7 (.bool true) := hF.2 (7, .bool true) (by simp)
    have s9 : Slot ⟨tm, []⟩ 9 (.bool false) := hF.2 (9, .bool false) (by simp)
    have s10 : Slot ⟨tm, []⟩ 10 (.pointer (some ⟨z10, 0, none⟩)) := hF.2 (10, .pointer (some ⟨z10, 0, none⟩)) (by simp)
    have s11 : Slot ⟨tm, []⟩ 11 (.pointer (some ⟨z11, 0, none⟩)) := hF.2 (11, .pointer (some ⟨z11, 0, none⟩)) (by simp)
    have ht : tm = #[tm.getD 0 undef, tm.getD 1 undef, tm.getD 2 undef, tm.getD 3 undef, tm.getD 4 undef, tm.getD 5 undef, tm.getD 6 undef, tm.getD 7 undef, tm.getD 8 undef, tm.getD 9 undef, tm.getD 10 undef, tm.getD 11 undef, tm.getD 12 undef, tm.getD 13 undef, tm.getD 14 undef, tm.getD 15 undef, tm.getD 16 undef, tm.getD 17 undef, tm.getD 18 undef, tm.getD 19 undef, tm.getD 20 undef, tm.getD 21 undef, tm.getD 22 undef, tm.getD 23 undef, tm.getD 24 undef, tm.getD 25 undef, tm.getD 26 undef, tm.getD 27 undef, tm.getD 28 undef, tm.getD 29 undef, tm.getD 30 undef, tm.getD 31 undef, tm.getD 32 undef, tm.getD 33 undef, tm.getD 34 undef, tm.getD 35 undef, tm.getD 36 undef, tm.getD 37 undef, tm.getD 38 undef, tm.getD 39 undef, tm.getD 40 undef, tm.getD 41 undef, tm.getD 42 undef, tm.getD 43 undef, tm.getD 44 undef, tm.getD 45 undef, tm.getD 46 undef, tm.getD 47 undef, tm.getD 48 undef, tm.getD 49 undef, tm.getD 50 undef, tm.getD 51 undef, tm.getD 52 undef, tm.getD 53 undef, tm.getD 54 undef, tm.getD 55 undef, tm.getD 56 undef, tm.getD 57 undef, tm.getD 58 undef, tm.getD 59 undef, tm.getD 60 undef, tm.getD 61 undef, tm.getD 62 undef, tm.getD 63 undef, tm.getD 64 undef, tm.getD 65 undef, tm.getD 66 undef, tm.getD 67 undef, tm.getD 68 undef, tm.getD 69 undef, tm.getD 70 undef, tm.getD 71 undef, tm.getD 72 undef, tm.getD 73 undef, tm.getD 74 undef, tm.getD 75 undef, tm.getD 76 undef, tm.getD 77 undef, tm.getD 78 undef, tm.getD 79 undef, tm.getD 80 undef, tm.getD 81 undef, tm.getD 82 undef, tm.getD 83 undef, tm.getD 84 undef, tm.getD 85 undef, tm.getD 86 undef, tm.getD 87 undef, tm.getD 88 undef, tm.getD 89 undef, tm.getD 90 undef, tm.getD 91 undef, tm.getD 92 undef, tm.getD 93 undef, tm.getD 94 undef, tm.getD 95 undef, tm.getD 96 undef, tm.getD 97 undef, tm.getD 98 undef, tm.getD 99 undef, tm.getD 100 undef, tm.getD 101 undef, tm.getD 102 undef, tm.getD 103 undef, tm.getD 104 undef, tm.getD 105 undef, tm.getD 106 undef, tm.getD 107 undef, tm.getD 108 undef, tm.getD 109 undef, tm.getD 110 undef, tm.getD 111 undef] := arr_all 112 tm hN
    have g1 : tm.getD 1 undef = .pointer (some ⟨z1, 0, none⟩) := s1.getD
    have g2 : tm.getD 2 undef = .slice o2 13 c2 := s2.getD
    have g3 : tm.getD 3 undef = .slice o3 5 c3 := s3.getD
    have g4 : tm.getD 4 undef = .bool true := s4.getD
    have g5 : tm.getD 5 undef = .slice o5 8 c5 := s5.getD
    have g7 : tm.getD 7 undef = .bool true := s7.getD
    have g9 : tm.getD 9 undef = .bool false := s9.getD
    have g10 : tm.getD 10 undef = .pointer (some ⟨z10, 0, none⟩) := s10.getD
    have g11 : tm.getD 11 undef = .pointer (some ⟨z11, 0, none⟩) := s11.getD
    have g12 : tm.getD 12 undef = .pointer (some ⟨z12, 0, none⟩) := s12.getD
    rw [g1, g2, g3, g4, g5, g7, g9, g10, g11, g12] at ht
    clear s1 g1 s2 g2 s3 g3 s4 g4 s5 g5 s7 g7 s9 g9 s10 g10 s11 g11 s12 g12 hF hG hN
    generalize tm.getD 0 undef = y0 at ht
    generalize tm.getD 6 undef = y6 at ht
    generalize tm.getD 8 undef = y8 at ht
    generalize tm.getD 13 undef = y13 at ht
    generalize tm.getD 14 undef = y14 at ht
    generalize tm.getD 15 undef = y15 at ht
    generalize tm.getD 16 undef = y16 at ht
    generalize tm.getD 17 undef = y17 at ht
    generalize tm.getD 18 undef = y18 at ht
    generalize tm.getD 19 undef = y19 at ht
    generalize tm.getD 20 undef = y20 at ht
    generalize tm.getD 21 undef = y21 at ht
    generalize tm.getD 22 undef = y22 at ht
    generalize tm.getD 23 undef = y23 at ht
    generalize tm.getD 24 undef = y24 at ht
    generalize tm.getD 25 undef = y25 at ht
    generalize tm.getD 26 undef = y26 at ht
    generalize tm.getD 27 undef = y27 at ht
    generalize tm.getD 28 undef = y28 at ht
    generalize tm.getD 29 undef = y29 at ht
    generalize tm.getD 30 undef = y30 at ht
    generalize tm.getD 31 undef = y31 at ht
    generalize tm.getD 32 undef = y32 at ht
    generalize tm.getD 33 undef = y33 at ht
    generalize tm.getD 34 undef = y34 at ht
    generalize tm.getD 35 undef = y35 at ht
    generalize tm.getD 36 undef = y36 at ht
    generalize tm.getD 37 undef = y37 at ht
    generalize tm.getD 38 undef = y38 at ht
    generalize tm.getD 39 undef = y39 at ht
    generalize tm.getD 40 undef = y40 at ht
    generalize tm.getD 41 undef = y41 at ht
    generalize tm.getD 42 undef = y42 at ht
    generalize tm.getD 43 undef = y43 at ht
    generalize tm.getD 44 undef = y44 at ht
    generalize tm.getD 45 undef = y45 at ht
    generalize tm.getD 46 undef = y46 at ht
    generalize tm.getD 47 undef = y47 at ht
    generalize tm.getD 48 undef = y48 at ht
    generalize tm.getD 49 undef = y49 at ht
    generalize tm.getD 50 undef = y50 at ht
    generalize tm.getD 51 undef = y51 at ht
    generalize tm.getD 52 undef = y52 at ht
    generalize tm.getD 53 undef = y53 at ht
    generalize tm.getD 54 undef = y54 at ht
    generalize tm.getD 55 undef = y55 at ht
    generalize tm.getD 56 undef = y56 at ht
    generalize tm.getD 57 undef = y57 at ht
    generalize tm.getD 58 undef = y58 at ht
    generalize tm.getD 59 undef = y59 at ht
    generalize tm.getD 60 undef = y60 at ht
    generalize tm.getD 61 undef = y61 at ht
    generalize tm.getD 62 undef = y62 at ht
    generalize tm.getD 63 undef = y63 at ht
    generalize tm.getD 64 undef = y64 at ht
    generalize tm.getD 65 undef = y65 at ht
    generalize tm.getD 66 undef = y66 at ht
    generalize tm.getD 67 undef = y67 at ht
    generalize tm.getD 68 undef = y68 at ht
    generalize tm.getD 69 undef = y69 at ht
    generalize tm.getD 70 undef = y70 at ht
    generalize tm.getD 71 undef = y71 at ht
    generalize tm.getD 72 undef = y72 at ht
    generalize tm.getD 73 undef = y73 at ht
    generalize tm.getD 74 undef = y74 at ht
    generalize tm.getD 75 undef = y75 at ht
    generalize tm.getD 76 undef = y76 at ht
    generalize tm.getD 77 undef = y77 at ht
    generalize tm.getD 78 undef = y78 at ht
    generalize tm.getD 79 undef = y79 at ht
    generalize tm.getD 80 undef = y80 at ht
    generalize tm.getD 81 undef = y81 at ht
    generalize tm.getD 82 undef = y82 at ht
    generalize tm.getD 83 undef = y83 at ht
    generalize tm.getD 84 undef = y84 at ht
    generalize tm.getD 85 undef = y85 at ht
    generalize tm.getD 86 undef = y86 at ht
    generalize tm.getD 87 undef = y87 at ht
    generalize tm.getD 88 undef = y88 at ht
    generalize tm.getD 89 undef = y89 at ht
    generalize tm.getD 90 undef = y90 at ht
    generalize tm.getD 91 undef = y91 at ht
    generalize tm.getD 92 undef = y92 at ht
    generalize tm.getD 93 undef = y93 at ht
    generalize tm.getD 94 undef = y94 at ht
    generalize tm.getD 95 undef = y95 at ht
    generalize tm.getD 96 undef = y96 at ht
    generalize tm.getD 97 undef = y97 at ht
    generalize tm.getD 98 undef = y98 at ht
    generalize tm.getD 99 undef = y99 at ht
    generalize tm.getD 100 undef = y100 at ht
    generalize tm.getD 101 undef = y101 at ht
    generalize tm.getD 102 undef = y102 at ht
    generalize tm.getD 103 undef = y103 at ht
    generalize tm.getD 104 undef = y104 at ht
    generalize tm.getD 105 undef = y105 at ht
    generalize tm.getD 106 undef = y106 at ht
    generalize tm.getD 107 undef = y107 at ht
    generalize tm.getD 108 undef = y108 at ht
    generalize tm.getD 109 undef = y109 at ht
    generalize tm.getD 110 undef = y110 at ht
    generalize tm.getD 111 undef = y111 at ht
    subst ht
    have KX := Lib.hid hH
    clear hH
    obtain ⟨W9, eW⟩ : ∃ x, x = w := ⟨_, rfl⟩
    rw [← eW] at A12 KX ⊢
    clear eW
    have A1 := Lib.hid (A1.out.keeps KX.out)
    have G2 := Lib.hid (G2.out.keeps KX.out)
    have G3 := Lib.hid (G3.out.keeps KX.out)
    have G5 := Lib.hid (G5.out.keeps KX.out)
    have A10 := Lib.hid (A10.out.keeps KX.out)
    have A11 := Lib.hid (A11.out.keeps KX.out)
    have K1 := Lib.hid (K1.out.trans KX.out)
    clear C1 C2 C3 C4 C5 C6 C7 C8 C9 KX SL ZB cv
    go_upto_region 10 with fail
    refine region_drawn2 (N := 112) (fix := ([(1, .pointer (some ⟨z1, 0, none⟩)), (2, .slice o2 13 c2), (3, .slice o3 5 c3), (4, .bool true), (5, .slice o5 8 c5), (7, .bool true), (9, .bool false), (10, .pointer (some ⟨z10, 0, none⟩)), (11, .pointer (some ⟨z11, 0, none⟩)), (12, .pointer (some ⟨z12, 0, none⟩))] : List (Tmp × Value)).map (·.1)) (Fix := FixOf [(1, .pointer (some ⟨z1, 0, none⟩)), (2, .slice o2 13 c2), (3, .slice o3 5 c3), (4, .bool true), (5, .slice o5 8 c5), (7, .bool true), (9, .bool false), (10, .pointer (some ⟨z10, 0, none⟩)), (11, .pointer (some ⟨z11, 0, none⟩)), (12, .pointer (some ⟨z12, 0, none⟩))]) (H := Keeps W9) (R := Keeps) (deps := fun gi => ([[], [], [], [], [], [], [], [], [], [], [], [], [], [], [], [], [], [], [], [], [], [], [], [], [], [], [], [], [], [], [], [], [], [], [], [], [], [], [], [], [], [], [], [], [], [], [], [], [], [], [], [], [], [], [], [], [], [], [], [], [], []] : List (List Tmp)).getD gi []) (Good := goodOf2 [valA (.slice o2 13 c2), valA (.int .i64 13), valA (.bool true), valA (.bool true), valA (.bool true), valA (.bool true), valA (.bool true), valA (.slice o3 5 c3), valA (.string { data := #[112, 108, 97, 105, 110] }), valA (.bool true), valA (.bool true), valA (.bool true), valA (.slice o5 8 c5), valA (.int .i64 8), valA (.bool true), valA (.bool true), valA (.bool true), valA (.bool true), valA (.bool true), valA (.bool true), valA (.bool false), valA (.bool true), valA (.bool true), valA (.bool true), valA (.slice o5 8 c5), valA (.string (txtOf (m2.take 8))), valA (.slice (some ⟨z11, 0, none⟩) 8 32), valA (.string (txtOf (m2.take 8))), valA (.bool true), valA (.bool true), valA (.bool true), valA (.agg (vals8 m1).toArray), valA (.agg (vals8 m2).toArray), valA (.bool true), valA (.bool true), valA (.bool true), valA (.agg (vals8 key).toArray), holdA (m3.take 5), valA (.string (txtOf (m3.take 5))), valA (.slice (some ⟨z12, 0, none⟩) 5 32), valA (.string (txtOf (m3.take 5))), valA (.bool true), valA (.bool true), valA (.bool true), valA (.agg (vals8 key).toArray), holdA ([]), valA (.int .i64 0), valA (.bool true), valA (.bool true), valA (.bool true), valA (.agg (vals8 key).toArray), holdA ([]), valA (.int .i64 0), valA (.bool true), valA (.bool true), valA (.bool true), valA (.agg (vals8 key).toArray), holdA (s33), valA (.int .i64 33), valA (.bool true), valA (.bool true), valA (.bool true)])
      (by kernel_rfl) (fix_all _) (fun gi gv ga gw gx hl => good_lasts2 (R := Keeps) (gs := [valA (.slice o2 13 c2), valA (.int .i64 13), valA (.bool true), valA (.bool true), valA (.bool true), valA (.bool true), valA (.bool true), valA (.slice o3 5 c3), valA (.string { data := #[112, 108, 97, 105, 110] }), valA (.bool true), valA (.bool true), valA (.bool true), valA (.slice o5 8 c5), valA (.int .i64 8), valA (.bool true), valA (.bool true), valA (.bool true), valA (.bool true), valA (.bool true), valA (.bool true), valA (.bool false), valA (.bool true), valA (.bool true), valA (.bool true), valA (.slice o5 8 c5), valA (.string (txtOf (m2.take 8))), valA (.slice (some ⟨z11, 0, none⟩) 8 32), valA (.string (txtOf (m2.take 8))), valA (.bool true), valA (.bool true), valA (.bool true), valA (.agg (vals8 m1).toArray), valA (.agg (vals8 m2).toArray), valA (.bool true), valA (.bool true), valA (.bool true), valA (.agg (vals8 key).toArray), holdA (m3.take 5), valA (.string (txtOf (m3.take 5))), valA (.slice (some ⟨z12, 0, none⟩) 5 32), valA (.string (txtOf (m3.take 5))), valA (.bool true), valA (.bool true), valA (.bool true), valA (.agg (vals8 key).toArray), holdA ([]), valA (.int .i64 0), valA (.bool true), valA (.bool true), valA (.bool true), valA (.agg (vals8 key).toArray), holdA ([]), valA (.int .i64 0), valA (.bool true), valA (.bool true), valA (.bool true), valA (.agg (vals8 key).toArray), holdA (s33), valA (.int .i64 33), valA (.bool true), valA (.bool true), valA (.bool true)]) (k := 0) ⟨Or.inr (valA_lasts _), Or.inr (valA_lasts _), Or.inr (valA_lasts _), Or.inr (valA_lasts _), Or.inr (valA_lasts _), Or.inr (valA_lasts _), Or.inr (valA_lasts _), Or.inr (valA_lasts _), Or.inr (valA_lasts _), Or.inr (valA_lasts _), Or.inr (valA_lasts _), Or.inr (valA_lasts _), Or.inr (valA_lasts _), Or.inr (valA_lasts _), Or.inr (valA_lasts _), Or.inr (valA_lasts _), Or.inr (valA_lasts _), Or.inr (valA_lasts _), Or.inr (valA_lasts _), Or.inr (valA_lasts _), Or.inr (valA_lasts _), Or.inr (valA_lasts _), Or.inr (valA_lasts _), Or.inr (valA_lasts _), Or.inr (valA_lasts _), Or.inr (valA_lasts _), Or.inr (valA_lasts _), Or.inr (valA_lasts _), Or.inr (valA_lasts _), Or.inr (valA_lasts _), Or.inr (valA_lasts _), Or.inr (valA_lasts _), Or.inr (valA_lasts _), Or.inr (valA_lasts _), Or.inr (valA_lasts _), Or.inr (valA_lasts _), Or.inr (valA_lasts _), Or.inr (holdA_lasts _), Or.inr (valA_lasts _), Or.inr (valA_lasts _), Or.inr (valA_lasts _), Or.inr (valA_lasts _), Or.inr (valA_lasts _), Or.inr (valA_lasts _), Or.inr (valA_lasts _), Or.inr (holdA_lasts _), Or.inr (valA_lasts _), Or.inr (valA_lasts _), Or.inr (valA_lasts _), Or.inr (valA_lasts _), Or.inr (valA_lasts _), Or.inr (holdA_lasts _), Or.inr (valA_lasts _), Or.inr (valA_lasts _), Or.inr (valA_lasts _), Or.inr (valA_lasts _), Or.inr (valA_lasts _), Or.inr (holdA_lasts _), Or.inr (valA_lasts _), Or.inr (valA_lasts _), Or.inr (valA_lasts _), Or.inr (valA_lasts _), trivial⟩ gi gv ga gw gx (by rw [Nat.zero_add]; exact hl)) (fun gi gv ga gb gw hd => good_leans (dss := [[], [], [], [], [], [], [], [], [], [], [], [], [], [], [], [], [], [], [], [], [], [], [], [], [], [], [], [], [], [], [], [], [], [], [], [], [], [], [], [], [], [], [], [], [], [], [], [], [], [], [], [], [], [], [], [], [], [], [], [], [], []]) (gs := [valA (.slice o2 13 c2), valA (.int .i64 13), valA (.bool true), valA (.bool true), valA (.bool true), valA (.bool true), valA (.bool true), valA (.slice o3 5 c3), valA (.string { data := #[112, 108, 97, 105, 110] }), valA (.bool true), valA (.bool true), valA (.bool true), valA (.slice o5 8 c5), valA (.int .i64 8), valA (.bool true), valA (.bool true), valA (.bool true), valA (.bool true), valA (.bool true), valA (.bool true), valA (.bool false), valA (.bool true), valA (.bool true), valA (.bool true), valA (.slice o5 8 c5), valA (.string (txtOf (m2.take 8))), valA (.slice (some ⟨z11, 0, none⟩) 8 32), valA (.string (txtOf (m2.take 8))), valA (.bool true), valA (.bool true), valA (.bool true), valA (.agg (vals8 m1).toArray), valA (.agg (vals8 m2).toArray), valA (.bool true), valA (.bool true), valA (.bool true), valA (.agg (vals8 key).toArray), holdA (m3.take 5), valA (.string (txtOf (m3.take 5))), valA (.slice (some ⟨z12, 0, none⟩) 5 32), valA (.string (txtOf (m3.take 5))), valA (.bool true), valA (.bool true), valA (.bool true), valA (.agg (vals8 key).toArray), holdA ([]), valA (.int .i64 0), valA (.bool true), valA (.bool true), valA (.bool true), valA (.agg (vals8 key).toArray), holdA ([]), valA (.int .i64 0), valA (.bool true), valA (.bool true), valA (.bool true), valA (.agg (vals8 key).toArray), holdA (s33), valA (.int .i64 33), valA (.bool true), valA (.bool true), valA (.bool true)]) (k := 0) ⟨valA_leans _ _, valA_leans _ _, valA_leans _ _, valA_leans _ _, valA_leans _ _, valA_leans _ _, valA_leans _ _, valA_leans _ _, valA_leans _ _, valA_leans _ _, valA_leans _ _, valA_leans _ _, valA_leans _ _, valA_leans _ _, valA_leans _ _, valA_leans _ _, valA_leans _ _, valA_leans _ _, valA_leans _ _, valA_leans _ _, valA_leans _ _, valA_leans _ _, valA_leans _ _, valA_leans _ _, valA_leans _ _, valA_leans _ _, valA_leans _ _, valA_leans _ _, valA_leans _ _, valA_leans _ _, valA_leans _ _, valA_leans _ _, valA_leans _ _, valA_leans _ _, valA_leans _ _, valA_leans _ _, valA_leans _ _, holdA_leans _ _, valA_leans _ _, valA_leans _ _, valA_leans _ _, valA_leans _ _, valA_leans _ _, valA_leans _ _, valA_leans _ _, holdA_leans _ _, valA_leans _ _, valA_leans _ _, valA_leans _ _, valA_leans _ _, valA_leans _ _, holdA_leans _ _, valA_leans _ _, valA_leans _ _, valA_leans _ _, valA_leans _ _, valA_leans _ _, holdA_leans _ _, valA_leans _ _, valA_leans _ _, valA_leans _ _, valA_leans _ _, trivial⟩ gi gv ga gb gw (by rw [Nat.zero_add]; exact hd))
      (by kernel_rfl) (by kernel_rfl) (by kernel_rfl) (by kernel_rfl) rfl ?_ ((Keeps.refl _).drew) ?_ ?_
    · refine ⟨rfl, fun x hx => ?_⟩
      simp only [List.mem_cons, List.not_mem_nil, or_false] at hx
      rcases hx with rfl | rfl | rfl | rfl | rfl | rfl | rfl | rfl | rfl | rfl
      · rfl
      · rfl
      · rfl
      · rfl
      · rfl
      · rfl
      · rfl
      · rfl
      · rfl
      · rfl
    · intro fa w hN hF hH hG
      obtain ⟨tm, df⟩ := fa
      obtain rfl : df = [] := hF.1
      obtain ⟨x0, s0, rfl⟩ := good_end hG 61 _ 0 rfl rfl
      have e0 : ∀ hd, tm[0]'hd = .bool true := s0.at
      go_wp2_with fail
      go_ret
      exact ⟨congrArg Ending.returned s0.eval, K1.out.trans hH⟩
    · refine ⟨?_, ?_, ?_, ?_, ?_, ?_, ?_, ?_, ?_, ?_, ?_, ?_, ?_, ?_, ?_, ?_, ?_, ?_, ?_, ?_, ?_, ?_, ?_, ?_, ?_, ?_, ?_, ?_, ?_, ?_, ?_, ?_, ?_, ?_, ?_, ?_, ?_, ?_, ?_, ?_, ?_, ?_, ?_, ?_, ?_, ?_, ?_, ?_, ?_, ?_, ?_, ?_, ?_, ?_, ?_, ?_, ?_, ?_, ?_, ?_, ?_, ?_, trivial⟩
      · as_aux_lemma =>
        intro fa w K hN hF hH hG hK
        have s2 : Slot fa 2 (.slice o2 13 c2) := hF.2 (2, .slice o2 13 c2) (by simp)
        have e2 := s2.at
        rw [if_pos (wanted_none rfl)]
        refine wp_value (.slice o2 13 c2) ?_ (hK _ _ hH (Keeps.refl _) rfl)
        go_simp
      · as_aux_lemma =>
        intro fa w K hN hF hH hG hK
        obtain ⟨x51, s51, rfl⟩ := good_slot hG 0 _ 51 rfl rfl rfl
        have e51 := s51.at
        rw [if_pos (wanted_none rfl)]
        refine wp_value (.int .i64 13) ?_ (hK _ _ hH (Keeps.refl _) rfl)
        go_simp
      · as_aux_lemma =>
        intro fa w K hN hF hH hG hK
        obtain ⟨x52, s52, rfl⟩ := good_slot hG 1 _ 52 rfl rfl rfl
        have e52 := s52.at
        rw [if_pos (wanted_none rfl)]
        refine wp_value (.bool true) ?_ (hK _ _ hH (Keeps.refl _) rfl)
        go_simp
      · as_aux_lemma =>
        intro fa w K hN hF hH hG hK
        obtain ⟨x53, s53, rfl⟩ := good_slot hG 2 _ 53 rfl rfl rfl
        have e53 := s53.at
        rw [if_pos (wanted_none rfl)]
        refine wp_value (.bool true) ?_ (hK _ _ hH (Keeps.refl _) rfl)
        go_simp
      · as_aux_lemma =>
        intro fa w K hN hF hH hG hK
        have s4 : Slot fa 4 (.bool true) := hF.2 (4, .bool true) (by simp)
        have e4 := s4.at
        obtain ⟨x54, s54, rfl⟩ := good_slot hG 3 _ 54 rfl rfl rfl
        rw [if_pos (wanted_slot (g := 3) rfl rfl rfl s54)]
        refine wp_value (.bool true) ?_ (hK _ _ hH (Keeps.refl _) rfl)
        go_simp
      · as_aux_lemma =>
        intro fa w K hN hF hH hG hK
        obtain ⟨x54, s54, rfl⟩ := good_slot hG 3 _ 54 rfl rfl rfl
        have e54 := s54.at
        obtain ⟨x55, s55, rfl⟩ := good_slot hG 4 _ 55 rfl rfl rfl
        have e55 := s55.at
        rw [if_pos (wanted_none rfl)]
        refine wp_value (.bool true) ?_ (hK _ _ hH (Keeps.refl _) rfl)
        go_simp
      · as_aux_lemma =>
        intro fa w K hN hF hH hG hK
        obtain ⟨x56, s56, rfl⟩ := good_slot hG 5 _ 56 rfl rfl rfl
        have e56 := s56.at
        rw [if_pos (wanted_none rfl)]
        refine wp_value (.bool true) ?_ (hK _ _ hH (Keeps.refl _) rfl)
        go_simp
      · as_aux_lemma =>
        intro fa w K hN hF hH hG hK
        have s3 : Slot fa 3 (.slice o3 5 c3) := hF.2 (3, .slice o3 5 c3) (by simp)
        have e3 := s3.at
        obtain ⟨x57, s57, rfl⟩ := good_slot hG 6 _ 57 rfl rfl rfl
        rw [if_pos (wanted_slot (g := 6) rfl rfl rfl s57)]
        refine wp_value (.slice o3 5 c3) ?_ (hK _ _ hH (Keeps.refl _) rfl)
        go_simp
      · as_aux_lemma =>
        intro fa w K hN hF hH hG hK
        obtain ⟨x58, s58, rfl⟩ := good_slot hG 7 _ 58 rfl rfl rfl
        have e58 := s58.at
        obtain ⟨x57, s57, rfl⟩ := good_slot hG 6 _ 57 rfl rfl rfl
        rw [if_pos (wanted_slot (g := 6) rfl rfl rfl s57)]
        have sq := run_conv_text (G3.out.keeps hH) (by decide)
        rw [show txtOf plainF = ({ data := #[112, 108, 97, 105, 110] } : ByteArray) by kernel_rfl] at sq
        refine wp_value (.string { data := #[112, 108, 97, 105, 110] }) ?_ (hK _ _ hH (Keeps.refl _) rfl)
        go_simp
      · as_aux_lemma =>
        intro fa w K hN hF hH hG hK
        obtain ⟨x59, s59, rfl⟩ := good_slot hG 8 _ 59 rfl rfl rfl
        have e59 := s59.at
        obtain ⟨x57, s57, rfl⟩ := good_slot hG 6 _ 57 rfl rfl rfl
        rw [if_pos (wanted_slot (g := 6) rfl rfl rfl s57)]
        refine wp_value (.bool true) ?_ (hK _ _ hH (Keeps.refl _) rfl)
        go_simp
      · as_aux_lemma =>
        intro fa w K hN hF hH hG hK
        obtain ⟨x57, s57, rfl⟩ := good_slot hG 6 _ 57 rfl rfl rfl
        have e57 := s57.at
        obtain ⟨x60, s60, rfl⟩ := good_slot hG 9 _ 60 rfl rfl rfl
        have e60 := s60.at
        rw [if_pos (wanted_none rfl)]
        refine wp_value (.bool true) ?_ (hK _ _ hH (Keeps.refl _) rfl)
        go_simp
      · as_aux_lemma =>
        intro fa w K hN hF hH hG hK
        obtain ⟨x61, s61, rfl⟩ := good_slot hG 10 _ 61 rfl rfl rfl
        have e61 := s61.at
        rw [if_pos (wanted_none rfl)]
        refine wp_value (.bool true) ?_ (hK _ _ hH (Keeps.refl _) rfl)
        go_simp
      · as_aux_lemma =>
        intro fa w K hN hF hH hG hK
        have s5 : Slot fa 5 (.slice o5 8 c5) := hF.2 (5, .slice o5 8 c5) (by simp)
        have e5 := s5.at
        obtain ⟨x62, s62, rfl⟩ := good_slot hG 11 _ 62 rfl rfl rfl
        rw [if_pos (wanted_slot (g := 11) rfl rfl rfl s62)]
        refine wp_value (.slice o5 8 c5) ?_ (hK _ _ hH (Keeps.refl _) rfl)
        go_simp
      · as_aux_lemma =>
        intro fa w K hN hF hH hG hK
        obtain ⟨x63, s63, rfl⟩ := good_slot hG 12 _ 63 rfl rfl rfl
        have e63 := s63.at
        obtain ⟨x62, s62, rfl⟩ := good_slot hG 11 _ 62 rfl rfl rfl
        rw [if_pos (wanted_slot (g := 11) rfl rfl rfl s62)]
        refine wp_value (.int .i64 8) ?_ (hK _ _ hH (Keeps.refl _) rfl)
        go_simp
      · as_aux_lemma =>
        intro fa w K hN hF hH hG hK
        obtain ⟨x64, s64, rfl⟩ := good_slot hG 13 _ 64 rfl rfl rfl
        have e64 := s64.at
        obtain ⟨x62, s62, rfl⟩ := good_slot hG 11 _ 62 rfl rfl rfl
        rw [if_pos (wanted_slot (g := 11) rfl rfl rfl s62)]
        refine wp_value (.bool true) ?_ (hK _ _ hH (Keeps.refl _) rfl)
        go_simp
      · as_aux_lemma =>
        intro fa w K hN hF hH hG hK
        obtain ⟨x62, s62, rfl⟩ := good_slot hG 11 _ 62 rfl rfl rfl
        have e62 := s62.at
        obtain ⟨x65, s65, rfl⟩ := good_slot hG 14 _ 65 rfl rfl rfl
        have e65 := s65.at
        rw [if_pos (wanted_none rfl)]
        refine wp_value (.bool true) ?_ (hK _ _ hH (Keeps.refl _) rfl)
        go_simp
      · as_aux_lemma =>
        intro fa w K hN hF hH hG hK
        obtain ⟨x66, s66, rfl⟩ := good_slot hG 15 _ 66 rfl rfl rfl
        have e66 := s66.at
        rw [if_pos (wanted_none rfl)]
        refine wp_value (.bool true) ?_ (hK _ _ hH (Keeps.refl _) rfl)
        go_simp
      · as_aux_lemma =>
        intro fa w K hN hF hH hG hK
        have s7 : Slot fa 7 (.bool true) := hF.2 (7, .bool true) (by simp)
        have e7 := s7.at
        obtain ⟨x67, s67, rfl⟩ := good_slot hG 16 _ 67 rfl rfl rfl
        rw [if_pos (wanted_slot (g := 16) rfl rfl rfl s67)]
        refine wp_value (.bool true) ?_ (hK _ _ hH (Keeps.refl _) rfl)
        go_simp
      · as_aux_lemma =>
        intro fa w K hN hF hH hG hK
        obtain ⟨x67, s67, rfl⟩ := good_slot hG 16 _ 67 rfl rfl rfl
        have e67 := s67.at
        obtain ⟨x68, s68, rfl⟩ := good_slot hG 17 _ 68 rfl rfl rfl
        have e68 := s68.at
        rw [if_pos (wanted_none rfl)]
        refine wp_value (.bool true) ?_ (hK _ _ hH (Keeps.refl _) rfl)
        go_simp
      · as_aux_lemma =>
        intro fa w K hN hF hH hG hK
        obtain ⟨x69, s69, rfl⟩ := good_slot hG 18 _ 69 rfl rfl rfl
        have e69 := s69.at
        rw [if_pos (wanted_none rfl)]
        refine wp_value (.bool true) ?_ (hK _ _ hH (Keeps.refl _) rfl)
        go_simp
      · as_aux_lemma =>
        intro fa w K hN hF hH hG hK
        have s9 : Slot fa 9 (.bool false) := hF.2 (9, .bool false) (by simp)
        have e9 := s9.at
        obtain ⟨x70, s70, rfl⟩ := good_slot hG 19 _ 70 rfl rfl rfl
        rw [if_pos (wanted_slot (g := 19) rfl rfl rfl s70)]
        refine wp_value (.bool false) ?_ (hK _ _ hH (Keeps.refl _) rfl)
        go_simp
      · as_aux_lemma =>
        intro fa w K hN hF hH hG hK
        obtain ⟨x71, s71, rfl⟩ := good_slot hG 20 _ 71 rfl rfl rfl
        have e71 := s71.at
        obtain ⟨x70, s70, rfl⟩ := good_slot hG 19 _ 70 rfl rfl rfl
        rw [if_pos (wanted_slot (g := 19) rfl rfl rfl s70)]
        refine wp_value (.bool true) ?_ (hK _ _ hH (Keeps.refl _) rfl)
        go_simp
      · as_aux_lemma =>
        intro fa w K hN hF hH hG hK
        obtain ⟨x70, s70, rfl⟩ := good_slot hG 19 _ 70 rfl rfl rfl
        have e70 := s70.at
        obtain ⟨x72, s72, rfl⟩ := good_slot hG 21 _ 72 rfl rfl rfl
        have e72 := s72.at
        rw [if_pos (wanted_none rfl)]
        refine wp_value (.bool true) ?_ (hK _ _ hH (Keeps.refl _) rfl)
        go_simp
      · as_aux_lemma =>
        intro fa w K hN hF hH hG hK
        obtain ⟨x73, s73, rfl⟩ := good_slot hG 22 _ 73 rfl rfl rfl
        have e73 := s73.at
        rw [if_pos (wanted_none rfl)]
        refine wp_value (.bool true) ?_ (hK _ _ hH (Keeps.refl _) rfl)
        go_simp
      · as_aux_lemma =>
        intro fa w K hN hF hH hG hK
        have s5 : Slot fa 5 (.slice o5 8 c5) := hF.2 (5, .slice o5 8 c5) (by simp)
        have e5 := s5.at
        obtain ⟨x74, s74, rfl⟩ := good_slot hG 23 _ 74 rfl rfl rfl
        rw [if_pos (wanted_slot (g := 23) rfl rfl rfl s74)]
        refine wp_value (.slice o5 8 c5) ?_ (hK _ _ hH (Keeps.refl _) rfl)
        go_simp
      · as_aux_lemma =>
        intro fa w K hN hF hH hG hK
        obtain ⟨x75, s75, rfl⟩ := good_slot hG 24 _ 75 rfl rfl rfl
        have e75 := s75.at
        obtain ⟨x74, s74, rfl⟩ := good_slot hG 23 _ 74 rfl rfl rfl
        rw [if_pos (wanted_slot (g := 23) rfl rfl rfl s74)]
        have sq := run_conv_text (G5.out.keeps hH) (by rw [L8.out]; decide)
        refine wp_value (.string (txtOf (m2.take 8))) ?_ (hK _ _ hH (Keeps.refl _) rfl)
        go_simp
      · as_aux_lemma =>
        intro fa w K hN hF hH hG hK
        have s11 : Slot fa 11 (.pointer (some ⟨z11, 0, none⟩)) := hF.2 (11, .pointer (some ⟨z11, 0, none⟩)) (by simp)
        have e11 := s11.at
        obtain ⟨x74, s74, rfl⟩ := good_slot hG 23 _ 74 rfl rfl rfl
        rw [if_pos (wanted_slot (g := 23) rfl rfl rfl s74)]
        have sq := run_slice8s z11 w
        refine wp_value (.slice (some ⟨z11, 0, none⟩) 8 32) ?_ (hK _ _ hH (Keeps.refl _) rfl)
        go_simp
      · as_aux_lemma =>
        intro fa w K hN hF hH hG hK
        obtain ⟨x77, s77, rfl⟩ := good_slot hG 26 _ 77 rfl rfl rfl
        have e77 := s77.at
        obtain ⟨x74, s74, rfl⟩ := good_slot hG 23 _ 74 rfl rfl rfl
        rw [if_pos (wanted_slot (g := 23) rfl rfl rfl s74)]
        have sq := run_conv_text (sum_sliceN (A11.out.keeps hH) H2.out.1 8 (by decide)) (by rw [L8.out]; decide)
        refine wp_value (.string (txtOf (m2.take 8))) ?_ (hK _ _ hH (Keeps.refl _) rfl)
        go_simp
      · as_aux_lemma =>
        intro fa w K hN hF hH hG hK
        obtain ⟨x76, s76, rfl⟩ := good_slot hG 25 _ 76 rfl rfl rfl
        have e76 := s76.at
        obtain ⟨x78, s78, rfl⟩ := good_slot hG 27 _ 78 rfl rfl rfl
        have e78 := s78.at
        obtain ⟨x74, s74, rfl⟩ := good_slot hG 23 _ 74 rfl rfl rfl
        rw [if_pos (wanted_slot (g := 23) rfl rfl rfl s74)]
        refine wp_value (.bool true) ?_ (hK _ _ hH (Keeps.refl _) rfl)
        go_simp
      · as_aux_lemma =>
        intro fa w K hN hF hH hG hK
        obtain ⟨x74, s74, rfl⟩ := good_slot hG 23 _ 74 rfl rfl rfl
        have e74 := s74.at
        obtain ⟨x79, s79, rfl⟩ := good_slot hG 28 _ 79 rfl rfl rfl
        have e79 := s79.at
        rw [if_pos (wanted_none rfl)]
        refine wp_value (.bool true) ?_ (hK _ _ hH (Keeps.refl _) rfl)
        go_simp
      · as_aux_lemma =>
        intro fa w K hN hF hH hG hK
        obtain ⟨x80, s80, rfl⟩ := good_slot hG 29 _ 80 rfl rfl rfl
        have e80 := s80.at
        rw [if_pos (wanted_none rfl)]
        refine wp_value (.bool true) ?_ (hK _ _ hH (Keeps.refl _) rfl)
        go_simp
      · as_aux_lemma =>
        intro fa w K hN hF hH hG hK
        have s10 : Slot fa 10 (.pointer (some ⟨z10, 0, none⟩)) := hF.2 (10, .pointer (some ⟨z10, 0, none⟩)) (by simp)
        have e10 := s10.eval
        obtain ⟨x81, s81, rfl⟩ := good_slot hG 30 _ 81 rfl rfl rfl
        rw [if_pos (wanted_slot (g := 30) rfl rfl rfl s81)]
        exact wp_load_mid 23 (.tmp 10) rfl z10 0 e10 (vals8 m1) _ ((A10.out.keeps hH).range) undSum rfl (by rw [show (vals8 m1).length = 32 by rw [vals8, List.length_map]; exact H1.out.1]; exact sizSum) (hK _ _ hH (Keeps.refl _) rfl)
      · as_aux_lemma =>
        intro fa w K hN hF hH hG hK
        have s11 : Slot fa 11 (.pointer (some ⟨z11, 0, none⟩)) := hF.2 (11, .pointer (some ⟨z11, 0, none⟩)) (by simp)
        have e11 := s11.eval
        obtain ⟨x81, s81, rfl⟩ := good_slot hG 30 _ 81 rfl rfl rfl
        rw [if_pos (wanted_slot (g := 30) rfl rfl rfl s81)]
        exact wp_load_mid 23 (.tmp 11) rfl z11 0 e11 (vals8 m2) _ ((A11.out.keeps hH).range) undSum rfl (by rw [show (vals8 m2).length = 32 by rw [vals8, List.length_map]; exact H2.out.1]; exact sizSum) (hK _ _ hH (Keeps.refl _) rfl)
      · as_aux_lemma =>
        intro fa w K hN hF hH hG hK
        obtain ⟨x82, s82, rfl⟩ := good_slot hG 31 _ 82 rfl rfl rfl
        have e82 := s82.at
        obtain ⟨x83, s83, rfl⟩ := good_slot hG 32 _ 83 rfl rfl rfl
        have e83 := s83.at
        obtain ⟨x81, s81, rfl⟩ := good_slot hG 30 _ 81 rfl rfl rfl
        rw [if_pos (wanted_slot (g := 30) rfl rfl rfl s81)]
        have sq := NE.out w
        refine wp_value (.bool true) ?_ (hK _ _ hH (Keeps.refl _) rfl)
        go_simp
      · as_aux_lemma =>
        intro fa w K hN hF hH hG hK
        obtain ⟨x81, s81, rfl⟩ := good_slot hG 30 _ 81 rfl rfl rfl
        have e81 := s81.at
        obtain ⟨x84, s84, rfl⟩ := good_slot hG 33 _ 84 rfl rfl rfl
        have e84 := s84.at
        rw [if_pos (wanted_none rfl)]
        refine wp_value (.bool true) ?_ (hK _ _ hH (Keeps.refl _) rfl)
        go_simp
      · as_aux_lemma =>
        intro fa w K hN hF hH hG hK
        obtain ⟨x85, s85, rfl⟩ := good_slot hG 34 _ 85 rfl rfl rfl
        have e85 := s85.at
        rw [if_pos (wanted_none rfl)]
        refine wp_value (.bool true) ?_ (hK _ _ hH (Keeps.refl _) rfl)
        go_simp
      · as_aux_lemma =>
        intro fa w K hN hF hH hG hK
        have s1 : Slot fa 1 (.pointer (some ⟨z1, 0, none⟩)) := hF.2 (1, .pointer (some ⟨z1, 0, none⟩)) (by simp)
        have e1 := s1.eval
        obtain ⟨x86, s86, rfl⟩ := good_slot hG 35 _ 86 rfl rfl rfl
        rw [if_pos (wanted_slot (g := 35) rfl rfl rfl s86)]
        exact wp_load_mid 23 (.tmp 1) rfl z1 0 e1 (vals8 key) _ ((A1.out.keeps hH).range) undSum rfl (by rw [show (vals8 key).length = 32 by rw [vals8, List.length_map]; exact HM.out.1]; exact sizSum) (hK _ _ hH (Keeps.refl _) rfl)
      · as_aux_lemma =>
        intro fa w K hN hF hH hG hK
        obtain ⟨x87, s87, rfl⟩ := good_slot hG 36 _ 87 rfl rfl rfl
        have e87 := s87.at
        obtain ⟨x86, s86, rfl⟩ := good_slot hG 35 _ 86 rfl rfl rfl
        rw [if_pos (wanted_slot (g := 35) rfl rfl rfl s86)]
        go_simp
        (go_at_call 12; (refine (CA.out _ (K1.out.trans hH)).mono ?_); rintro e w' ⟨o, c, rfl, ho, hk⟩)
        exact hK _ _ (hH.trans hk) hk ho
      · as_aux_lemma =>
        intro fa w K hN hF hH hG hK
        obtain ⟨x88, s88, h88⟩ := good_slot hG 37 _ 88 rfl rfl rfl
        obtain ⟨o88, n88, c88, rfl⟩ : ∃ o n c, x88 = .slice o n c := by obtain ⟨_, o, n, c, e, _⟩ := h88; exact ⟨o, n, c, e⟩
        have h88 : Holds8 w (.slice o88 n88 c88) (m3.take 5) := h88
        have e88 := s88.at
        obtain ⟨x86, s86, rfl⟩ := good_slot hG 35 _ 86 rfl rfl rfl
        rw [if_pos (wanted_slot (g := 35) rfl rfl rfl s86)]
        have sq := run_conv_text h88 (by rw [L5.out]; decide)
        refine wp_value (.string (txtOf (m3.take 5))) ?_ (hK _ _ hH (Keeps.refl _) rfl)
        go_simp
      · as_aux_lemma =>
        intro fa w K hN hF hH hG hK
        have s12 : Slot fa 12 (.pointer (some ⟨z12, 0, none⟩)) := hF.2 (12, .pointer (some ⟨z12, 0, none⟩)) (by simp)
        have e12 := s12.at
        obtain ⟨x86, s86, rfl⟩ := good_slot hG 35 _ 86 rfl rfl rfl
        rw [if_pos (wanted_slot (g := 35) rfl rfl rfl s86)]
        have sq := run_slice5s z12 w
        refine wp_value (.slice (some ⟨z12, 0, none⟩) 5 32) ?_ (hK _ _ hH (Keeps.refl _) rfl)
        go_simp
      · as_aux_lemma =>
        intro fa w K hN hF hH hG hK
        obtain ⟨x90, s90, rfl⟩ := good_slot hG 39 _ 90 rfl rfl rfl
        have e90 := s90.at
        obtain ⟨x86, s86, rfl⟩ := good_slot hG 35 _ 86 rfl rfl rfl
        rw [if_pos (wanted_slot (g := 35) rfl rfl rfl s86)]
        have sq := run_conv_text (sum_sliceN (A12.out.keeps hH) H3.out.1 5 (by decide)) (by rw [L5.out]; decide)
        refine wp_value (.string (txtOf (m3.take 5))) ?_ (hK _ _ hH (Keeps.refl _) rfl)
        go_simp
      · as_aux_lemma =>
        intro fa w K hN hF hH hG hK
        obtain ⟨x89, s89, rfl⟩ := good_slot hG 38 _ 89 rfl rfl rfl
        have e89 := s89.at
        obtain ⟨x91, s91, rfl⟩ := good_slot hG 40 _ 91 rfl rfl rfl
        have e91 := s91.at
        obtain ⟨x86, s86, rfl⟩ := good_slot hG 35 _ 86 rfl rfl rfl
        rw [if_pos (wanted_slot (g := 35) rfl rfl rfl s86)]
        refine wp_value (.bool true) ?_ (hK _ _ hH (Keeps.refl _) rfl)
        go_simp
      · as_aux_lemma =>
        intro fa w K hN hF hH hG hK
        obtain ⟨x86, s86, rfl⟩ := good_slot hG 35 _ 86 rfl rfl rfl
        have e86 := s86.at
        obtain ⟨x92, s92, rfl⟩ := good_slot hG 41 _ 92 rfl rfl rfl
        have e92 := s92.at
        rw [if_pos (wanted_none rfl)]
        refine wp_value (.bool true) ?_ (hK _ _ hH (Keeps.refl _) rfl)
        go_simp
      · as_aux_lemma =>
        intro fa w K hN hF hH hG hK
        obtain ⟨x93, s93, rfl⟩ := good_slot hG 42 _ 93 rfl rfl rfl
        have e93 := s93.at
        rw [if_pos (wanted_none rfl)]
        refine wp_value (.bool true) ?_ (hK _ _ hH (Keeps.refl _) rfl)
        go_simp
      · as_aux_lemma =>
        intro fa w K hN hF hH hG hK
        have s1 : Slot fa 1 (.pointer (some ⟨z1, 0, none⟩)) := hF.2 (1, .pointer (some ⟨z1, 0, none⟩)) (by simp)
        have e1 := s1.eval
        obtain ⟨x94, s94, rfl⟩ := good_slot hG 43 _ 94 rfl rfl rfl
        rw [if_pos (wanted_slot (g := 43) rfl rfl rfl s94)]
        exact wp_load_mid 23 (.tmp 1) rfl z1 0 e1 (vals8 key) _ ((A1.out.keeps hH).range) undSum rfl (by rw [show (vals8 key).length = 32 by rw [vals8, List.length_map]; exact HM.out.1]; exact sizSum) (hK _ _ hH (Keeps.refl _) rfl)
      · as_aux_lemma =>
        intro fa w K hN hF hH hG hK
        obtain ⟨x95, s95, rfl⟩ := good_slot hG 44 _ 95 rfl rfl rfl
        have e95 := s95.at
        obtain ⟨x94, s94, rfl⟩ := good_slot hG 43 _ 94 rfl rfl rfl
        rw [if_pos (wanted_slot (g := 43) rfl rfl rfl s94)]
        go_simp
        (go_at_call 12; (refine (CB.out _ (K1.out.trans hH)).mono ?_); rintro e w' ⟨o, c, rfl, ho, hk⟩)
        exact hK _ _ (hH.trans hk) hk ho
      · as_aux_lemma =>
        intro fa w K hN hF hH hG hK
        obtain ⟨x96, s96, h96⟩ := good_slot hG 45 _ 96 rfl rfl rfl
        obtain ⟨o96, n96, c96, rfl⟩ : ∃ o n c, x96 = .slice o n c := by obtain ⟨_, o, n, c, e, _⟩ := h96; exact ⟨o, n, c, e⟩
        have h96 : Holds8 w (.slice o96 n96 c96) ([]) := h96
        have e96 := s96.at
        obtain ⟨x94, s94, rfl⟩ := good_slot hG 43 _ 94 rfl rfl rfl
        rw [if_pos (wanted_slot (g := 43) rfl rfl rfl s94)]
        obtain rfl := holds_len h96 (m := 0) rfl
        refine wp_value (.int .i64 0) ?_ (hK _ _ hH (Keeps.refl _) rfl)
        go_simp
      · as_aux_lemma =>
        intro fa w K hN hF hH hG hK
        obtain ⟨x97, s97, rfl⟩ := good_slot hG 46 _ 97 rfl rfl rfl
        have e97 := s97.at
        obtain ⟨x94, s94, rfl⟩ := good_slot hG 43 _ 94 rfl rfl rfl
        rw [if_pos (wanted_slot (g := 43) rfl rfl rfl s94)]
        refine wp_value (.bool true) ?_ (hK _ _ hH (Keeps.refl _) rfl)
        go_simp
      · as_aux_lemma =>
        intro fa w K hN hF hH hG hK
        obtain ⟨x94, s94, rfl⟩ := good_slot hG 43 _ 94 rfl rfl rfl
        have e94 := s94.at
        obtain ⟨x98, s98, rfl⟩ := good_slot hG 47 _ 98 rfl rfl rfl
        have e98 := s98.at
        rw [if_pos (wanted_none rfl)]
        refine wp_value (.bool true) ?_ (hK _ _ hH (Keeps.refl _) rfl)
        go_simp
      · as_aux_lemma =>
        intro fa w K hN hF hH hG hK
        obtain ⟨x99, s99, rfl⟩ := good_slot hG 48 _ 99 rfl rfl rfl
        have e99 := s99.at
        rw [if_pos (wanted_none rfl)]
        refine wp_value (.bool true) ?_ (hK _ _ hH (Keeps.refl _) rfl)
        go_simp
      · as_aux_lemma =>
        intro fa w K hN hF hH hG hK
        have s1 : Slot fa 1 (.pointer (some ⟨z1, 0, none⟩)) := hF.2 (1, .pointer (some ⟨z1, 0, none⟩)) (by simp)
        have e1 := s1.eval
        obtain ⟨x100, s100, rfl⟩ := good_slot hG 49 _ 100 rfl rfl rfl
        rw [if_pos (wanted_slot (g := 49) rfl rfl rfl s100)]
        exact wp_load_mid 23 (.tmp 1) rfl z1 0 e1 (vals8 key) _ ((A1.out.keeps hH).range) undSum rfl (by rw [show (vals8 key).length = 32 by rw [vals8, List.length_map]; exact HM.out.1]; exact sizSum) (hK _ _ hH (Keeps.refl _) rfl)
      · as_aux_lemma =>
        intro fa w K hN hF hH hG hK
        obtain ⟨x101, s101, rfl⟩ := good_slot hG 50 _ 101 rfl rfl rfl
        have e101 := s101.at
        obtain ⟨x100, s100, rfl⟩ := good_slot hG 49 _ 100 rfl rfl rfl
        rw [if_pos (wanted_slot (g := 49) rfl rfl rfl s100)]
        go_simp
        (go_at_call 12; (refine (CC.out _ (K1.out.trans hH)).mono ?_); rintro e w' ⟨o, c, rfl, ho, hk⟩)
        exact hK _ _ (hH.trans hk) hk ho
      · as_aux_lemma =>
        intro fa w K hN hF hH hG hK
        obtain ⟨x102, s102, h102⟩ := good_slot hG 51 _ 102 rfl rfl rfl
        obtain ⟨o102, n102, c102, rfl⟩ : ∃ o n c, x102 = .slice o n c := by obtain ⟨_, o, n, c, e, _⟩ := h102; exact ⟨o, n, c, e⟩
        have h102 : Holds8 w (.slice o102 n102 c102) ([]) := h102
        have e102 := s102.at
        obtain ⟨x100, s100, rfl⟩ := good_slot hG 49 _ 100 rfl rfl rfl
        rw [if_pos (wanted_slot (g := 49) rfl rfl rfl s100)]
        obtain rfl := holds_len h102 (m := 0) rfl
        refine wp_value (.int .i64 0) ?_ (hK _ _ hH (Keeps.refl _) rfl)
        go_simp
      · as_aux_lemma =>
        intro fa w K hN hF hH hG hK
        obtain ⟨x103, s103, rfl⟩ := good_slot hG 52 _ 103 rfl rfl rfl
        have e103 := s103.at
        obtain ⟨x100, s100, rfl⟩ := good_slot hG 49 _ 100 rfl rfl rfl
        rw [if_pos (wanted_slot (g := 49) rfl rfl rfl s100)]
        refine wp_value (.bool true) ?_ (hK _ _ hH (Keeps.refl _) rfl)
        go_simp
      · as_aux_lemma =>
        intro fa w K hN hF hH hG hK
        obtain ⟨x100, s100, rfl⟩ := good_slot hG 49 _ 100 rfl rfl rfl
        have e100 := s100.at
        obtain ⟨x104, s104, rfl⟩ := good_slot hG 53 _ 104 rfl rfl rfl
        have e104 := s104.at
        rw [if_pos (wanted_none rfl)]
        refine wp_value (.bool true) ?_ (hK _ _ hH (Keeps.refl _) rfl)
        go_simp
      · as_aux_lemma =>
        intro fa w K hN hF hH hG hK
        obtain ⟨x105, s105, rfl⟩ := good_slot hG 54 _ 105 rfl rfl rfl
        have e105 := s105.at
        rw [if_pos (wanted_none rfl)]
        refine wp_value (.bool true) ?_ (hK _ _ hH (Keeps.refl _) rfl)
        go_simp
      · as_aux_lemma =>
        intro fa w K hN hF hH hG hK
        have s1 : Slot fa 1 (.pointer (some ⟨z1, 0, none⟩)) := hF.2 (1, .pointer (some ⟨z1, 0, none⟩)) (by simp)
        have e1 := s1.eval
        obtain ⟨x106, s106, rfl⟩ := good_slot hG 55 _ 106 rfl rfl rfl
        rw [if_pos (wanted_slot (g := 55) rfl rfl rfl s106)]
        exact wp_load_mid 23 (.tmp 1) rfl z1 0 e1 (vals8 key) _ ((A1.out.keeps hH).range) undSum rfl (by rw [show (vals8 key).length = 32 by rw [vals8, List.length_map]; exact HM.out.1]; exact sizSum) (hK _ _ hH (Keeps.refl _) rfl)
      · as_aux_lemma =>
        intro fa w K hN hF hH hG hK
        obtain ⟨x107, s107, rfl⟩ := good_slot hG 56 _ 107 rfl rfl rfl
        have e107 := s107.at
        obtain ⟨x106, s106, rfl⟩ := good_slot hG 55 _ 106 rfl rfl rfl
        rw [if_pos (wanted_slot (g := 55) rfl rfl rfl s106)]
        go_simp
        (go_at_call 12; (refine (CD.out _ (K1.out.trans hH)).mono ?_); rintro e w' ⟨o, c, rfl, ho, hk⟩)
        exact hK _ _ (hH.trans hk) hk ho
      · as_aux_lemma =>
        intro fa w K hN hF hH hG hK
        obtain ⟨x108, s108, h108⟩ := good_slot hG 57 _ 108 rfl rfl rfl
        obtain ⟨o108, n108, c108, rfl⟩ : ∃ o n c, x108 = .slice o n c := by obtain ⟨_, o, n, c, e, _⟩ := h108; exact ⟨o, n, c, e⟩
        have h108 : Holds8 w (.slice o108 n108 c108) (s33) := h108
        have e108 := s108.at
        obtain ⟨x106, s106, rfl⟩ := good_slot hG 55 _ 106 rfl rfl rfl
        rw [if_pos (wanted_slot (g := 55) rfl rfl rfl s106)]
        obtain rfl := holds_len h108 (m := 33) L33.out
        refine wp_value (.int .i64 33) ?_ (hK _ _ hH (Keeps.refl _) rfl)
        go_simp
      · as_aux_lemma =>
        intro fa w K hN hF hH hG hK
        obtain ⟨x109, s109, rfl⟩ := good_slot hG 58 _ 109 rfl rfl rfl
        have e109 := s109.at
        obtain ⟨x106, s106, rfl⟩ := good_slot hG 55 _ 106 rfl rfl rfl
        rw [if_pos (wanted_slot (g := 55) rfl rfl rfl s106)]
        refine wp_value (.bool true) ?_ (hK _ _ hH (Keeps.refl _) rfl)
        go_simp
      · as_aux_lemma =>
        intro fa w K hN hF hH hG hK
        obtain ⟨x106, s106, rfl⟩ := good_slot hG 55 _ 106 rfl rfl rfl
        have e106 := s106.at
        obtain ⟨x110, s110, rfl⟩ := good_slot hG 59 _ 110 rfl rfl rfl
        have e110 := s110.at
        rw [if_pos (wanted_none rfl)]
        refine wp_value (.bool true) ?_ (hK _ _ hH (Keeps.refl _) rfl)
        go_simp
      · as_aux_lemma =>
        intro fa w K hN hF hH hG hK
        obtain ⟨x111, s111, rfl⟩ := good_slot hG 60 _ 111 rfl rfl rfl
        have e111 := s111.at
        rw [if_pos (wanted_none rfl)]
        refine wp_value (.bool true) ?_ (hK _ _ hH (Keeps.refl _) rfl)
        go_simp
  · refine ⟨?_, ?_, ?_, ?_, ?_, ?_, trivial⟩
    · as_aux_lemma =>
      intro fa w K hN hF hH hG hK
      have s1 : Slot fa 1 (.pointer (some ⟨z1, 0, none⟩)) := hF.2 (1, .pointer (some ⟨z1, 0, none⟩)) (by simp)
      have e1 := s1.at
      rw [if_pos (wanted_none rfl)]
      have sq := SL.out z1 w
      refine wp_value (.slice (some ⟨z1, 0, none⟩) 32 32) ?_ (hK _ _ hH (StepV.of (Keeps.refl _)) rfl)
      go_simp
    · as_aux_lemma =>
      intro fa w K hN hF hH hG hK
      rw [if_pos (wanted_none rfl)]
      have sq := make8 w
      have own := own_lit8 w w.heap.size (Nat.le_refl _) (List.replicate 8 0) (by decide) (by decide) (c := (vals8 (List.replicate 8 0)).toArray) rfl (n := 8) rfl
      go_simp
      exact hK _ _ (hH.alloc _) (StepV.of ((Keeps.refl _).alloc _)) ⟨own.holds, own_leads own⟩
    · as_aux_lemma =>
      intro fa w K hN hF hH hG hK
      obtain ⟨x47, s47, rfl⟩ := good_slot hG 0 _ 47 rfl rfl rfl
      have e47 := s47.at
      obtain ⟨x48, s48, h48⟩ := good_slot hG 1 _ 48 rfl rfl rfl
      obtain ⟨o48, n48, c48, rfl⟩ : ∃ o n c, x48 = .slice o n c := by obtain ⟨⟨_, o, n, c, e, _⟩, _⟩ := h48; exact ⟨o, n, c, e⟩
      have h48 : Holds8 w (.slice o48 n48 c48) (List.replicate 8 0) ∧ leadsTo 5 W8.heap.size w (.slice o48 n48 c48) := h48
      have e48 := s48.at
      rw [if_pos (wanted_none rfl)]
      go_simp
      exact hK _ _ (hH.alloc _) (StepV.of ((Keeps.refl _).alloc _)) (partsV_lit (a := fa) (vs := [.slice (some ⟨z1, 0, none⟩) 32 32, .slice o48 n48 c48]) (ls := [key, List.replicate 8 0]) (show EachV W8.heap.size w [.slice (some ⟨z1, 0, none⟩) 32 32, .slice o48 n48 c48] [key, List.replicate 8 0] from ⟨⟨sum_slice (A1.out.keeps hH) HM.out.1, low_leads ZB.out⟩, h48, trivial⟩) (by simp) rfl rfl rfl)
    · as_aux_lemma =>
      intro fa w K hN hF hH hG hK
      obtain ⟨x49, s49, h49⟩ := good_slot hG 2 _ 49 rfl rfl rfl
      have h49 : partsV W8.heap.size [key, List.replicate 8 0] x49 fa w := h49
      have e49 := s49.at
      rw [if_pos (wanted_none rfl)]
      go_simp
      (go_at_call 16; (refine Calls.mono (C9.out _ _ (K1.out.trans hH) (partsV_parts h49)) ?_); rintro e w' ⟨rfl, hk⟩)
      exact hK _ _ (hH.trans hk) (StepV.of hk) rfl
    · as_aux_lemma =>
      intro fa w K hN hF hH hG hK
      rw [if_pos (wanted_none rfl)]
      go_simp
      exact hK _ _ (hH.alloc _) (StepV.of ((Keeps.refl _).alloc _)) ⟨_, _, rfl, hH.size, (MapKept.heap_alloc w _).1, rfl⟩
    · as_aux_lemma =>
      intro fa w K hN hF hH hG hK
      obtain ⟨x12, s12, g12, cs12, rfl, b12, m12, n12⟩ := good_slot hG 4 _ 12 rfl rfl rfl
      have e12 := s12.eval
      obtain ⟨x50, s50, rfl⟩ := good_slot hG 3 _ 50 rfl rfl rfl
      have e50 := s50.eval
      rw [if_pos (wanted_none rfl)]
      refine wp_store_blk (k := .u8) (L := m3) sizSum _ _ rfl e12 e50 m12 n12 H3.out.1 ?_
      exact hK _ _ (below_setRow' hH b12 _) (StepV.row m12 b12 (by rw [n12]; first | rfl | (rw [List.size_toArray, cellsK_len]; exact H3.out.1))) ⟨_, s12.put_other (by simp) _, b12, setRow_heap _ _ _ _ _ _ m12⟩
end Go.Proofs.YtboogomenmlhjaaDoor
