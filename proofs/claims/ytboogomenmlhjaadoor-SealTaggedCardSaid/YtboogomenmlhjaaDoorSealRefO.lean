/- The document's own seals, and what opens them. -/
import Derived.Test.YtboogomenmlhjaaDoorSealRefS
import Derived.Test.YtboogomenmlhjaaDoorRowCut
set_option linter.unusedVariables false
set_option linter.unusedSimpArgs false
set_option maxRecDepth 10000
namespace Go.Proofs.YtboogomenmlhjaaDoor
open Go.RowKit Go.HashMath

theorem wp_named9 {P : Program} {c : Code} {Q : Exit → Act → World → Prop} {a : Act} {wr : World} {Z cs : Array Value} {T : TypeId} (h : ∀ W z, Keeps wr W → W.heap[z]? = some (.cells cs T (0, 0)) → z = wr.heap.size → c.wp P Q a W) : c.wp P Q a ((wr.alloc (.cells Z T)).setRow wr.heap.size cs) :=
  h _ _ (below_setRow' ((Keeps.refl wr).alloc _) (Nat.le_refl _) _) (setRow_heap _ _ _ _ T (0, 0) (heap_alloc_new _ _)) rfl
theorem run_slice8 (z : Nat) (w : World) : (Instr.sliceAt 23 (.pointer (some ⟨z, 0, none⟩)) none (some (.int .i64 8)) none).run Tryd.prog w = .ok (.slice (some ⟨z, 0, none⟩) 8 32) w := by
  rw [run_sliceAt_array_h w _ _ undHash2 .i64 8 (by omega) (by rw [arrHash]; omega), arrHash, run_size (P := Tryd.prog) (T := Tryd.prog.elem 23) (by rw [show Tryd.prog.elem 23 = 5 by kernel_rfl]; kernel_rfl)]
  simp [Result.andThen, slicedAt, Addr.add]
theorem sum_slice8 {w : World} {z : Nat} {m : List Nat} (h : ArrN .u8 256 23 w z m) (hl : m.length = 32) : Holds8 w (.slice (some ⟨z, 0, none⟩) 8 32) (m.take 8) := ArrN.holds8 h 8 32 (by omega) (by decide) (by decide)
theorem stream9 (key : List Nat) (n : Nat) (w : World) (hm : Sum32 key) (hn : n ≤ 65536) : Calls Tryd.prog 13 #[.agg (vals8 key).toArray, .int .i64 (n : Int)] w (GivesS w (streamB key n)) := by
  have q := ref9_stream key n w hm (by omega) (by omega)
  unfold streamL at q
  rw [if_pos (by omega), Int.toNat_natCast] at q
  exact q
set_option maxHeartbeats 4000000 in
set_option maxRecDepth 100000 in
theorem ref9_seal (key xs : List Nat) (v : Value) (w0 : World) (hm : Sum32 key) (h : Holds8 w0 v xs) : Calls Tryd.prog 15 #[.agg (vals8 key).toArray, v] w0 (GivesS w0 (sealL key xs)) := by
  have HM := Lib.hid hm
  have HX := Lib.hid h
  have SL := Lib.hid run_sliceAll
  have lx := h.len
  obtain ⟨_, ao, n, c, rfl, hn, _⟩ := h
  subst hn
  clear hm
  have L0 : (0 : Int) ≤ (xs.length : Int) := by omega
  have L1 : (xs.length : Int) ≤ 9223372036854775807 := by omega
  by_cases g : xs.length ≤ 65536
  · have e : sealL key xs = sealB key xs := if_pos g
    rw [e]
    clear e
    have d1 : ¬ (xs.length : Int) > 65536 := by omega
    have ST := Lib.hid (fun w => stream9 key xs.length w HM.out g)
    have OV := Lib.hid (fun u w (h1 : Holds8 w (.slice ao xs.length c) xs) (h2 : Holds8 w u (streamB key xs.length)) => show Calls Tryd.prog 21 #[.slice ao xs.length c, u] w (GivesS w (hideB key xs)) from ref9_over _ u xs (streamB key xs.length) w h1 h2 (by rw [stream_len]; exact Nat.le_refl _) (by omega))
    have TG := Lib.hid (fun v w (q : Parts w v [key, hideB key xs]) => show Calls Tryd.prog 23 #[.string { data := #[115, 101, 97, 108] }, v] w (fun e w' => e = .returned (.agg (vals8 (sha (tagB nSeal [key, hideB key xs]))).toArray) ∧ Keeps w w') from ref_tag _ v [key, hideB key xs] w q (by rw [tag_len]; have := HM.out.1; have := hide_len key xs; simp only [List.map_cons, List.map_nil, List.sum_cons, List.sum_nil, *]; have e4 : (strB { data := #[115, 101, 97, 108] }).length = 4 := rfl; omega))
    have AL := Lib.hid (show (hideB key xs).length + ((sha (tagB nSeal [key, hideB key xs])).take 8).length ≤ 140737488355328 by rw [hide_len]; have := mark_len8 key (hideB key xs); unfold markS at this; omega)
    have SM := Lib.hid (sum32_sha (tagB nSeal [key, hideB key xs]))
    clear g
    go_enter Tryd.func15, Tryd.ntmps15
    go_upto_region 1 with fail
    obtain ⟨W0, eW⟩ : ∃ W, W = w0.alloc (.cells (vals8 key).toArray 23) := ⟨_, rfl⟩
    have A0 : ArrN .u8 256 23 W0 w0.heap.size key := by rw [eW]; exact ArrN.new w0 key HM.out.2
    have K0 : Keeps w0 W0 := by rw [eW]; exact (Keeps.refl w0).alloc _
    change Code.wp _ _ _ _ (w0.alloc (.cells (vals8 key).toArray 23))
    rw [← eW]
    clear eW
    obtain ⟨z, ez⟩ : ∃ z, z = w0.heap.size := ⟨_, rfl⟩
    rw [← ez] at A0 ⊢
    have A0 := Lib.hid A0
    have K0 := Lib.hid K0
    have RG := Lib.hid A0.out.range
    have X0 := Lib.hid (HX.out.keeps K0.out)
    clear ez
    go_upto_region 4 with (first
      | (refine wpList_load_sm (L := key) rfl (.tmp 2) rfl (by rfl) RG.out HM.out.1 ?_)
      | (go_at_call 13; (refine (ST.out _).mono ?_); rintro e w1 ⟨v1, rfl, ho1, hk1⟩)
      | (go_at_call 21; (refine (OV.out _ _ (X0.out.keeps hk1) ho1.holds).mono ?_); rintro e w2 ⟨v2, rfl, ho2, hk2⟩))
    have K2 := Lib.hid (hk1.trans hk2)
    have O2 := Lib.hid (ho2.low hk1.size)
    have A2 := Lib.hid (A0.out.keeps K2.out)
    obtain ⟨o2, n2, c2, rfl⟩ : ∃ o n c, v2 = .slice o n c := by obtain ⟨_, o, n, c, e, _⟩ := ho2.holds; exact ⟨o, n, c, e⟩
    clear ho1 hk1 ho2 hk2
    have sq := SL.out z w2
    go_upto_region 5 with (first
      | (go_at_call 23; (refine Calls.mono (TG.out _ _ (parts_lit (vs := [.slice (some ⟨z, 0, none⟩) 32 32, .slice o2 n2 c2]) (ls := [key, hideB key xs]) ⟨sum_slice A2.out HM.out.1, O2.out.holds, trivial⟩ (by simp) rfl rfl rfl)) ?_); rintro e w3 ⟨rfl, hk3⟩)
      | (refine wpList_store_arr (k := .u8) (m := 256) (L := sha (tagB nSeal [key, hideB key xs])) sizSum rfl _ _ (by rfl) (List.replicate 32 0) (by rfl) (by rfl) (ArrN.new w3 (List.replicate 32 0) (noughts_lt 32)) (by rw [List.length_replicate]) SM.out.1 ?_))
    refine wp_named9 fun W4 z4 hk4 hb4 ez => ?_
    have K3 := Lib.hid (show Keeps w2 W4 from ((Keeps.refl w2).alloc _).trans (hk3.trans hk4))
    have A4 := Lib.hid (show ArrN .u8 256 23 W4 z4 (sha (tagB nSeal [key, hideB key xs])) from ⟨SM.out.2, hb4⟩)
    have O4 := Lib.hid (O2.out.keeps K3.out)
    rw [← ez]
    clear hk4 hb4 ez hk3
    have sq8 := run_slice8 z4 W4
    go_wp2_with (at_builtin; refine wpList_append8h rfl (.tmp 20) (.tmp 21) rfl W0.heap.size _ _ _ _ (by rfl) O4.out (by rfl) (sum_slice8 A4.out SM.out.1) AL.out (K2.out.trans K3.out).size ?_)
    intro v5 w5 ho5 hb5 hg5
    have K5 := Lib.hid (show Keeps W0 w5 from Below.trans (K2.out.trans K3.out) hb5)
    have O5 := Lib.hid (show Own8 w5 w0.heap.size v5 (sealB key xs) from ho5.low K0.out.size)
    clear hb5 hg5 ho5
    go_wp2_with fail
    go_ret
    exact ⟨_, rfl, O5.out, K0.out.trans K5.out⟩
  · have e : sealL key xs = [] := if_neg g
    rw [e]
    clear e
    have d1 : (xs.length : Int) > 65536 := by omega
    clear g
    have K0 := Lib.hid ((Keeps.refl w0).alloc (.cells (vals8 key).toArray 23))
    go_enter Tryd.func15, Tryd.ntmps15
    go_wp2_with fail
    go_ret
    exact ⟨_, rfl, own8_nil _ _, K0.out⟩
end Go.Proofs.YtboogomenmlhjaaDoor
