/- Texts of one proof, laid together: ShaDAddIn, ShaDBytes, ShaDReadS, ShaDLast. -/
import Derived.Test.YtckikgfckihniaaDoorU1
import Derived.Test.YtckikgfckihniaaDoorU2
import Derived.Test.YtckikgfckihniaaDoorU3
import Derived.Deep.AppendLies
import Derived.Test.YtckikgfckihniaaDoorDrawnS
set_option linter.unusedVariables false
set_option linter.unusedSimpArgs false
set_option maxRecDepth 10000
/- The document's own store: what Add adds. -/
namespace Go.Proofs.YtckikgfckihniaaDoor
open Go.RowKit Go.HashMath Go.CodeMath

theorem built_f (n : Int) (f : Nat → Nat) : Tryd.prog.built 61 [(0, .int .i64 n), (1, .agg (vals8 ((List.range 32).map f)).toArray)] = some (Value.int .i64 n :: vals8 ((List.range 32).map f)).toArray := by kernel_rfl
theorem built_sum (n : Int) (x : List Nat) (h : x.length = 32) : Tryd.prog.built 61 [(0, .int .i64 n), (1, .agg (vals8 x).toArray)] = some (Value.int .i64 n :: vals8 x).toArray := by
  have e : x = (List.range 32).map fun i => x.getD i 0 := by
    apply List.ext_getElem (by simp [h])
    intro i h1 h2
    simp [List.getD, h1]
  rw [e]
  exact built_f n _
theorem wpList_buildOne {ops : Array Oper} {rest : List Oper} {o : Oper} {a : Act} {w : World} {Q : Exit → Act → World → Prop} (hg : o.guard = none) (p q : Operand) (ho : o.op = .build 61 #[(0, p), (1, q)]) (n : Int) (x : List Nat) (hx : x.length = 32) (hp : a.eval p = .int .i64 n) (hq : a.eval q = .agg (vals8 x).toArray)
    (h : wpList Tryd.prog ops Q rest (a.put o.dst (.agg (Value.int .i64 n :: vals8 x).toArray)) w) : wpList Tryd.prog ops Q (o :: rest) a w := by
  refine wpList_buildTo hg 61 #[(0, p), (1, q)] ho _ rfl _ ?_ h
  have e := built_sum n x hx
  simpa [hp, hq] using e
theorem infoOne : (Tryd.prog.info? 61).map (fun i => (i.zero, i.size, i.bytes)) = some (some (.agg (.int .i64 0 :: vals8 (List.replicate 32 0)).toArray), 33, 40) := by kernel_rfl
theorem sizOne : (Tryd.prog.info? 61).map (·.size) = some 33 := by kernel_rfl
theorem range_new (w : World) (cs : List Value) (T : TypeId) : (w.alloc (.cells cs.toArray T)).rangeAt w.heap.size 0 cs := fun j v hj => by
  simp only [World.cell?, heap_alloc_new w (.cells cs.toArray T), Nat.zero_add]
  simpa using hj
theorem encE_len {e : Nat × List Nat} (h : e.2.length = 32) : (encE e).length = 33 := by unfold encE; rw [List.length_cons, vals8, List.length_map, h]
theorem encE_one (e : Nat × List Nat) : ∀ u ∈ encE e, u.oneCell' = true := by
  intro u hu
  rcases List.mem_cons.1 hu with q | q
  · rw [q]; rfl
  · obtain ⟨y, _, rfl⟩ := List.mem_map.1 q; rfl
theorem filt_yes {α : Type} {L : List α} {p : α → Bool} {i : Nat} {e : α} (he : L[i]? = some e) (h : p e = true) : (L.take (i + 1)).filter p = (L.take i).filter p ++ [e] := by
  obtain ⟨hi, rfl⟩ := List.getElem?_eq_some_iff.1 he
  rw [List.take_succ_eq_append_getElem hi, List.filter_append, List.filter_cons, if_pos h, List.filter_nil]
theorem filt_no {α : Type} {L : List α} {p : α → Bool} {i : Nat} {e : α} (he : L[i]? = some e) (h : p e = false) : (L.take (i + 1)).filter p = (L.take i).filter p := by
  obtain ⟨hi, rfl⟩ := List.getElem?_eq_some_iff.1 he
  rw [List.take_succ_eq_append_getElem hi, List.filter_append, List.filter_cons, h]
  simp
def lowF (hh : Nat) (e : Nat × List Nat) : Bool := decide (hgtN e.1 < hh)
def highF (hh : Nat) (e : Nat × List Nat) : Bool := decide (hh < hgtN e.1)
/-- So far those below were looked at. -/
def AddAt (W : World) (L : KeptL) (hh : Nat) (x : List Nat) (sa si : Value) (wr : World) : Prop := ∃ i : Nat, i ≤ L.length ∧ si = .int .i64 (i : Int) ∧ OwnB encE 33 61 wr W.heap.size sa ((L.take i).filter (lowF hh)) ∧ (∀ e ∈ L.take i, hgtN e.1 < hh → toS x hh (plc e.1) = e.2) ∧ Keeps W wr
/-- So far those above were laid behind. -/
def MoreAt (W : World) (L A : KeptL) (hh : Nat) (sa si : Value) (wr : World) : Prop := ∃ i : Nat, i ≤ L.length ∧ si = .int .i64 (i : Int) ∧ OwnB encE 33 61 wr W.heap.size sa (A ++ (L.take i).filter (highF hh)) ∧ Keeps W wr
theorem OwnB.wrt {α : Type} {enc : α → List Value} {sz : Nat} {T : TypeId} {w w' : World} {B g : Nat} {v : Value} {l : List α} (h : OwnB enc sz T w B v l) (k : Wrt g w w') (hg : g < B) : OwnB enc sz T w' B v l := by
  obtain ⟨⟨h1, h2⟩, h3⟩ := h
  refine ⟨⟨h1, ?_⟩, h3⟩
  rcases h2 with h2 | ⟨q, cap, cur, e, hq, hr, ht⟩
  · exact Or.inl h2
  · exact Or.inr ⟨q, cap, cur, e, hq, (k.block q (lt_of_block hr) (by omega)).trans hr, ht⟩
theorem OwnB.low {α : Type} {enc : α → List Value} {sz : Nat} {T : TypeId} {w : World} {B B' : Nat} {v : Value} {l : List α} (h : OwnB enc sz T w B v l) (hB : B' ≤ B) : OwnB enc sz T w B' v l := by
  obtain ⟨⟨h1, h2⟩, h3⟩ := h
  refine ⟨⟨h1, ?_⟩, h3⟩
  rcases h2 with h2 | ⟨q, cap, cur, e, hq, hr⟩
  · exact Or.inl h2
  · exact Or.inr ⟨q, cap, cur, e, Nat.le_trans hB hq, hr⟩
/-- The store behind what was added. -/
theorem std_put {w wr : World} {g n m : Nat} {row row' : Value} {S : Nat → Prop} {M : KeptL} {B : Nat} (hg : wr.heap[g]? = some (.cells #[.int .i64 (n : Int), row] 58 (0, 0))) (hk : Keeps w wr) (sg : S g) (sb : ∀ i, S i → i < w.heap.size) (ho : OwnB encE 33 61 wr B row' M) (hB : w.heap.size ≤ B) (G : Good m M) :
    Mut S w ((wr.setCell ⟨g, 1, none⟩ row').setCell ⟨g, 0, none⟩ (.int .i64 (m : Int))) ∧ ∃ S', StD ((wr.setCell ⟨g, 1, none⟩ row').setCell ⟨g, 0, none⟩ (.int .i64 (m : Int))) (.pointer (some ⟨g, 0, none⟩)) S' m M ∧ ∀ i, S' i → S i ∨ w.heap.size ≤ i := by
  have hW : Wrt g wr ((wr.setCell ⟨g, 1, none⟩ row').setCell ⟨g, 0, none⟩ (.int .i64 (m : Int))) := ((Wrt.refl g wr).set 1 _).set 0 _
  have gB : g < B := Nat.lt_of_lt_of_le (sb g sg) hB
  refine ⟨(Mut.of hk S).trans (Mut.wrt hW sg), fun i => S i ∨ ∃ l c, row' = .slice (some ⟨i, 0, none⟩) l c, ⟨g, row', rfl, ?_, (ho.wrt hW gB).low (Nat.zero_le _), G, Or.inl sg, fun i hi => ?_, fun i l c e => ?_⟩, fun i hi => ?_⟩
  · simp [World.setCell, Array.getElem?_modify, hg]
  · rcases hi with hi | ⟨l, c, e⟩
    · exact Nat.lt_of_lt_of_le (sb i hi) (Nat.le_trans hk.size hW.size)
    · rcases ho.block with q | ⟨g', c', q, h1, h2⟩
      · rw [q] at e; cases e
      · rw [q] at e; cases e
        exact Nat.lt_of_lt_of_le h2 hW.size
  · refine ⟨Or.inr ⟨l, c, e⟩, fun q => ?_⟩
    rcases ho.block with r | ⟨g', c', r, h1, h2⟩
    · rw [r] at e; cases e
    · rw [r] at e; cases e; omega
  · rcases hi with hi | ⟨l, c, e⟩
    · exact Or.inl hi
    · rcases ho.block with r | ⟨g', c', r, h1, h2⟩
      · rw [r] at e; cases e
      · rw [r] at e; cases e
        exact Or.inr (Nat.le_trans hB h1)
theorem addE_bad {n : Nat} {L : KeptL} {x : List Nat} (hn : n < 1048576) (h : addOk L n x = false) : addE n L (n : Int) x = 23 ∧ addN n L (n : Int) x = n ∧ addK n L (n : Int) x = L := by
  have e : addE n L (n : Int) x = 23 := by unfold addE; rw [if_pos ⟨rfl, hn⟩, h]; rfl
  refine ⟨e, ?_, ?_⟩
  · unfold addN; rw [e]; rfl
  · unfold addK; rw [e]; rfl
theorem addE_good {n : Nat} {L : KeptL} {x : List Nat} (hn : n < 1048576) (h : addOk L n x = true) : addE n L (n : Int) x = 0 ∧ addN n L (n : Int) x = n + 1 ∧ addK n L (n : Int) x = addL L n x := by
  have e : addE n L (n : Int) x = 0 := addE_yes hn h
  refine ⟨e, ?_, ?_⟩
  · unfold addN; rw [e]; rfl
  · unfold addK; rw [e]; rfl
set_option maxHeartbeats 4000000 in
set_option maxRecDepth 100000 in
theorem ref10_add_in (S : Nat → Prop) (v : Value) (n : Nat) (L : KeptL) (x : List Nat) (w00 : World) (h : StD w00 v S n L) (hx : Sum32 x) (hn : n < 1048576) :
    Calls Tryd.prog 14 #[v, .int .i64 (n : Int), .agg (vals8 x).toArray] w00 (fun e w' => e = .returned (.int .i64 (addE n L (n : Int) x : Int)) ∧ Mut S w00 w' ∧ ∃ S', StD w' v S' (addN n L (n : Int) x) (addK n L (n : Int) x) ∧ ∀ i, S' i → S i ∨ w00.heap.size ≤ i) := by
  obtain ⟨W, eW⟩ : ∃ W, W = w00.alloc (.cells (vals8 x).toArray 23) := ⟨_, rfl⟩
  have K0 : Keeps w00 W := by rw [eW]; exact (Keeps.refl w00).alloc _
  have A0 : ArrN .u8 256 23 W w00.heap.size x := by rw [eW]; exact ArrN.new w00 x hx.2
  have HS := Lib.hid (std_lasts S (fun _ => False) w00 W v n L h (Mut.of K0 _) (fun _ _ q => q))
  have SB0 := Lib.hid (std_bound S w00 v n L h)
  have EW := Lib.hid eW
  have hs := HS.out
  obtain ⟨g, row, rfl, hg, ho, hG, sg, sb, sr⟩ := hs
  have SG := Lib.hid sg
  have GD := Lib.hid hG
  have HG := Lib.hid hg
  have GS := Lib.hid (lt_of_block hg)
  have HO := Lib.hid ho.holds
  obtain ⟨ao, len, cap, rfl, hl, _⟩ := HO.out
  have HL := Lib.hid hl
  have HN := Lib.hid hn
  have HX := Lib.hid hx
  have K0 := Lib.hid K0
  have CPN := Lib.hid (ref10_place n (by omega))
  have CHN := Lib.hid (ref10_height (plc n) (by unfold plc; omega))
  have SX := Lib.hid (show (Tryd.prog.info? 23).map (·.size) = some (vals8 x).length by rw [vals8, List.length_map, hx.1]; exact sizSum)
  obtain ⟨c0, c1⟩ := std_cells hg
  have n0 : ¬ (n : Int) < 0 := by omega
  have n0' : (0 : Int) ≤ (n : Int) := by omega
  have n1 : ¬ (n : Int) ≥ 1048576 := by omega
  have n1' : (n : Int) < 1048576 := by omega
  have n2 : ((n : Int) != (n : Int)) = false := bne_self_eq_false _
  obtain ⟨hh, ehh⟩ : ∃ hh, hh = hgtN n := ⟨_, rfl⟩
  have EHH := Lib.hid ehh
  have CHN := Lib.hid (fun w => show Calls Tryd.prog 33 #[.int .i64 (plc n : Int)] w (fun e w' => e = .returned (.int .i64 (hh : Int)) ∧ w = w') from by rw [EHH.out]; exact CHN.out w)
  have H20 := Lib.hid (show hh ≤ 20 by rw [EHH.out]; exact hgt_le _)
  obtain ⟨z, ez⟩ : ∃ z, z = w00.heap.size := ⟨_, rfl⟩
  rw [← ez] at A0
  have AW := Lib.hid A0
  have EZ := Lib.hid ez
  have C1W := Lib.hid c1
  clear h hx hg ho hG sg sb sr hl eW hn ehh A0
  go_enter Tryd.func14, Tryd.ntmps14
  go_upto_region 1 with fail
  change Code.wp _ _ _ _ (w00.alloc (.cells (vals8 x).toArray 23))
  rw [← EW.out, ← ez]
  clear ez
  go_upto_region 4 with (first
    | (go_at_call 30; (with_reducible refine (CPN.out _).mono ?_); rintro e w' ⟨rfl, rfl⟩)
    | (go_at_call 33; (with_reducible refine (CHN.out _).mono ?_); rintro e w' ⟨rfl, rfl⟩))
  clear c0 c1 n2 n0 n1
  go_wp2_with fail
  go_loopw [8, 9] (fun sa si wr => AddAt W L hh x sa si wr) (fun _ si _ => L.length - (intOf si).toNat)
  case atStart => exact ⟨0, Nat.zero_le _, rfl, OwnB.nil _ _ _ _ _, fun e q => absurd q (by simp), Keeps.refl _⟩
  case round =>
    obtain ⟨i, hi, rfl, hown, hall, hk⟩ := hrel
    have HK := Lib.hid hk
    have HO2 := Lib.hid hown
    have ALL := Lib.hid hall
    have AZ := Lib.hid (AW.out.keeps hk)
    have C1 : wr.cell? ⟨g, 1, none⟩ = some (.slice ao len cap) := (hk.cell GS.out).trans C1W.out
    have c1 := C1
    have C1 := Lib.hid C1
    obtain ⟨yo, yn, yc, rfl⟩ : ∃ a b c, u8 = .slice a b c := by obtain ⟨a, b, c, e, _⟩ := hown.holds; exact ⟨a, b, c, e⟩
    rcases Nat.lt_or_ge i L.length with hlt | hge
    · obtain ⟨e, he⟩ : ∃ e, L[i]? = some e := ⟨L[i], by simp [hlt]⟩
      obtain ⟨b, off, n2, c2, ev, hln, hbs, hr⟩ := (HO.out.keeps hk).at he
      obtain ⟨rfl, rfl, rfl⟩ : ao = some ⟨b, off, none⟩ ∧ len = n2 ∧ cap = c2 := by simpa using ev
      obtain ⟨d0, _⟩ := encE_at hr
      have BS := Lib.hid hbs
      have FEW := Lib.hid (show ((L.take i).filter (lowF hh)).length + 1 ≤ 23 by have h1 := few_kept GD.out; have h2 := List.length_filter_le (lowF hh) (L.take i); rw [List.length_take] at h2; omega)
      have DR := Lib.hid (fun w (q : Keeps wr w) => show World.rangeAt w b (off + i * 33) (encE e) from fun j u hj => (Below.cell q hbs).trans (hr j u hj))
      have i0 : (0 : Int) ≤ (i : Int) := by omega
      have i2 : (i : Int) ≤ 100 := by have := few_kept GD.out; omega
      have i1 : (i : Int) < (len : Int) := by have := HL.out; omega
      have I0 := Lib.hid i0
      have I1 := Lib.hid i1
      have I2 := Lib.hid i2
      have I3 := Lib.hid (show (len : Int) ≤ 100 by have := few_kept GD.out; have := HL.out; omega)
      have BI := Lib.hid (show i < L.length from hlt)
      have GS := Lib.hid (Nat.lt_of_lt_of_le GS.out hk.size)
      clear hr hk hi hln ev hown hall hlt
      have LE := Lib.hid (GD.out.last e (List.mem_of_getElem? he))
      have CE := Lib.hid (ref10_place e.1 (by have := LE.out.1; have := HN.out; omega))
      have SS := Lib.hid (GD.out.sums e (List.mem_of_getElem? he))
      have SE := Lib.hid (show (Tryd.prog.info? 23).map (·.size) = some (vals8 e.2).length by rw [vals8, List.length_map, SS.out.1]; exact sizSum)
      obtain ⟨k, ek⟩ : ∃ k, k = hgtN e.1 := ⟨_, rfl⟩
      have EK := Lib.hid ek
      have CHE := Lib.hid (fun w => show Calls Tryd.prog 33 #[.int .i64 (plc e.1 : Int)] w (fun e' w' => e' = .returned (.int .i64 (k : Int)) ∧ Keeps w w') from by rw [EK.out]; exact (ref10_height (plc e.1) (by unfold plc; omega) w).mono fun e' w' q => ⟨q.1, q.2 ▸ Keeps.refl _⟩)
      have CT := Lib.hid (ref10_to x hh (plc e.1) HX.out H20.out (by unfold plc; omega))
      obtain ⟨t, et⟩ : ∃ t, t = toS x hh (plc e.1) := ⟨_, rfl⟩
      have OT := Lib.hid (show Sum32 t by rw [et]; exact to_ok _ _ HX.out)
      rw [← et] at CT
      have ET := Lib.hid et
      have HE := Lib.hid he
      clear ek et he
      go_upto_region 9 with (go_at_call 30; (with_reducible refine (CE.out _).mono ?_); rintro e w' ⟨rfl, rfl⟩)
      clear c1 d0
      by_cases lt : k < hh
      · have T1 := Lib.hid (show (k : Int) < (hh : Int) by omega)
        have T2 := T1
        by_cases eq : t = e.2
        · have EQ := Lib.hid (fun W => show (Op.equalIn 10000 23 (.agg (vals8 t).toArray) (.agg (vals8 e.2).toArray)).run Tryd.prog W = .ok true W from by have z := equal8 OT.out SS.out W; rw [decide_eq_true eq] at z; exact z)
          have NX := Lib.hid (filt_yes (p := lowF hh) HE.out (by unfold lowF; rw [← EK.out]; exact decide_eq_true lt))
          have AL := Lib.hid (show ∀ f ∈ L.take (i + 1), hgtN f.1 < hh → toS x hh (plc f.1) = f.2 from fun f hf hl => by
            obtain ⟨q1, q2⟩ := List.getElem?_eq_some_iff.1 HE.out
            rw [List.take_succ_eq_append_getElem q1, q2] at hf
            rcases List.mem_append.1 hf with r | r
            · exact ALL.out f r hl
            · rw [List.mem_singleton] at r; rw [r, ← ET.out, eq])
          clear lt eq
          as_aux_lemma =>
            refine region_drawn5 (N := 126) (fx := [(0, .pointer (some ⟨g, 0, none⟩)), (1, .int .i64 (n : Int)), (2, .agg (vals8 x).toArray), (3, undef), (4, undef), (5, .pointer (some ⟨z, 0, none⟩)), (7, .int .i64 (hh : Int)), (8, .slice yo yn yc), (9, .int .i64 (i : Int)), (10, .int .i64 (plc e.1 : Int)), (11, undef), (12, .int .i64 (n : Int)), (13, .pointer (some ⟨g, 0, none⟩)), (14, .pointer (some ⟨g, 0, none⟩)), (15, .pointer (some ⟨g, 0, none⟩)), (16, .int .i64 (n : Int)), (17, .bool false), (18, .bool false), (19, .int .i64 (n : Int)), (20, .bool false), (21, .bool false), (22, .bool false), (23, .int .i64 (n : Int)), (24, .bool false), (25, .bool false), (26, .int .i64 (n : Int)), (27, .int .i64 (plc n : Int)), (28, .int .i64 (hh : Int)), (80, undef), (81, undef), (82, undef), (83, undef), (84, undef), (85, undef), (86, undef), (87, undef), (88, undef), (89, undef), (90, undef), (91, undef), (92, undef), (93, undef), (94, undef), (95, undef), (96, undef), (97, undef), (98, undef), (99, undef), (100, undef), (101, undef), (102, undef), (103, undef), (104, undef), (105, undef), (106, undef), (107, undef), (108, undef), (109, undef), (110, undef), (111, undef), (112, undef), (113, undef), (114, undef), (115, undef), (116, undef), (117, undef), (118, undef), (119, undef), (120, undef), (121, undef), (122, undef), (123, undef), (124, undef), (125, undef)]) (H := Keeps wr) (R := Keeps) (dss := [[], [], [], [], [], [], [], [], [], [], [], [], [], [], [], [], [], [], []]) (gs := [valA (.int .i64 (plc e.1 : Int)), valA (.int .i64 (k : Int)), valA (.int .i64 (hh : Int)), valA (.bool true), valA (.bool true), valA (.agg (vals8 x).toArray), valA (.int .i64 (hh : Int)), valA (.int .i64 (plc e.1 : Int)), valA (.agg (vals8 t).toArray), valA (.pointer (some ⟨g, 0, none⟩)), valA (.pointer (some ⟨g, 0, none⟩)), valA (.pointer (some ⟨g, 1, none⟩)), valA (.slice (some ⟨b, off, none⟩) len cap), valA (.int .i64 (i : Int)), valA (.pointer (some ⟨b, off + i * 33, none⟩)), valA (.pointer (some ⟨b, off + i * 33 + 1, none⟩)), valA (.agg (vals8 e.2).toArray), valA (.bool false), valA (.bool false)])
              ⟨gw2, gw2, gw2, gw2, gw2, gw2, gw2, gw2, gw2, gw2, gw2, gw2, gw2, gw2, gw2, gw2, gw2, gw2, gw2, trivial⟩ ⟨vl, vl, vl, vl, vl, vl, vl, vl, vl, vl, vl, vl, vl, vl, vl, vl, vl, vl, vl, trivial⟩
              (by kernel_rfl) (by kernel_rfl) (by kernel_rfl) (by kernel_rfl) (by kernel_rfl) rfl ?_ ((Keeps.refl _).drew) ?_ ?_
            · exact fix_lit (by kernel_rfl) (by kernel_rfl)
            · refine ⟨?_, ?_, ?_, ?_, ?_, ?_, ?_, ?_, ?_, ?_, ?_, ?_, ?_, ?_, ?_, ?_, ?_, ?_, ?_, trivial⟩
              · as_aux_lemma =>
                intro fa w K hN hF hH hG hK
                have s10 : Slot fa 10 (.int .i64 (plc e.1 : Int)) := hF.get 9 (by kernel_rfl)
                have e10 := s10.at
                rw [if_pos (wanted_none rfl)]
                refine wp_value (.int .i64 (plc e.1 : Int)) ?_ (hK _ _ hH (Keeps.refl _) rfl)
                go_simp
              · as_aux_lemma =>
                intro fa w K hN hF hH hG hK
                obtain ⟨x47, s47, rfl⟩ := good_slot hG 0 _ 47 rfl rfl rfl
                have e47 := s47.at
                rw [if_pos (wanted_none rfl)]
                go_simp
                (go_at_call 33; (refine (CHE.out _).mono ?_); rintro e' w' ⟨rfl, hk⟩)
                exact hK _ _ (hH.trans hk) hk rfl
              · as_aux_lemma =>
                intro fa w K hN hF hH hG hK
                have s7 : Slot fa 7 (.int .i64 (hh : Int)) := hF.get 6 (by kernel_rfl)
                have e7 := s7.at
                rw [if_pos (wanted_none rfl)]
                refine wp_value (.int .i64 (hh : Int)) ?_ (hK _ _ hH (Keeps.refl _) rfl)
                go_simp
              · as_aux_lemma =>
                intro fa w K hN hF hH hG hK
                obtain ⟨x48, s48, rfl⟩ := good_slot hG 1 _ 48 rfl rfl rfl
                have e48 := s48.at
                obtain ⟨x49, s49, rfl⟩ := good_slot hG 2 _ 49 rfl rfl rfl
                have e49 := s49.at
                rw [if_pos (wanted_none rfl)]
                have q1 := T1.out
                have q2 := T2.out
                refine wp_value (.bool true) ?_ (hK _ _ hH (Keeps.refl _) rfl)
                go_simp
              · as_aux_lemma =>
                intro fa w K hN hF hH hG hK
                obtain ⟨x50, s50, rfl⟩ := good_slot hG 3 _ 50 rfl rfl rfl
                have e50 := s50.at
                rw [if_pos (wanted_none rfl)]
                refine wp_value (.bool true) ?_ (hK _ _ hH (Keeps.refl _) rfl)
                go_simp
              · as_aux_lemma =>
                intro fa w K hN hF hH hG hK
                have s5 : Slot fa 5 (.pointer (some ⟨z, 0, none⟩)) := hF.get 5 (by kernel_rfl)
                have e5 := s5.eval
                obtain ⟨x51, s51, rfl⟩ := good_slot hG 4 _ 51 rfl rfl rfl
                rw [if_pos (wanted_slot (g := 4) rfl rfl rfl s51)]
                exact wp_load_mid 23 (.tmp 5) rfl z 0 e5 (vals8 x) _ ((AZ.out.keeps hH).range) undSum rfl SX.out (hK _ _ hH (Keeps.refl _) rfl)
              · as_aux_lemma =>
                intro fa w K hN hF hH hG hK
                have s7 : Slot fa 7 (.int .i64 (hh : Int)) := hF.get 6 (by kernel_rfl)
                have e7 := s7.at
                obtain ⟨x51, s51, rfl⟩ := good_slot hG 4 _ 51 rfl rfl rfl
                rw [if_pos (wanted_slot (g := 4) rfl rfl rfl s51)]
                refine wp_value (.int .i64 (hh : Int)) ?_ (hK _ _ hH (Keeps.refl _) rfl)
                go_simp
              · as_aux_lemma =>
                intro fa w K hN hF hH hG hK
                have s10 : Slot fa 10 (.int .i64 (plc e.1 : Int)) := hF.get 9 (by kernel_rfl)
                have e10 := s10.at
                obtain ⟨x51, s51, rfl⟩ := good_slot hG 4 _ 51 rfl rfl rfl
                rw [if_pos (wanted_slot (g := 4) rfl rfl rfl s51)]
                refine wp_value (.int .i64 (plc e.1 : Int)) ?_ (hK _ _ hH (Keeps.refl _) rfl)
                go_simp
              · as_aux_lemma =>
                intro fa w K hN hF hH hG hK
                obtain ⟨x52, s52, rfl⟩ := good_slot hG 5 _ 52 rfl rfl rfl
                have e52 := s52.at
                obtain ⟨x53, s53, rfl⟩ := good_slot hG 6 _ 53 rfl rfl rfl
                have e53 := s53.at
                obtain ⟨x54, s54, rfl⟩ := good_slot hG 7 _ 54 rfl rfl rfl
                have e54 := s54.at
                obtain ⟨x51, s51, rfl⟩ := good_slot hG 4 _ 51 rfl rfl rfl
                rw [if_pos (wanted_slot (g := 4) rfl rfl rfl s51)]
                go_simp
                (go_at_call 29; (refine (CT.out _).mono ?_); rintro e' w' ⟨rfl, hk⟩)
                exact hK _ _ (hH.trans hk) hk rfl
              · as_aux_lemma =>
                intro fa w K hN hF hH hG hK
                have s0 : Slot fa 0 (.pointer (some ⟨g, 0, none⟩)) := hF.get 0 (by kernel_rfl)
                have e0 := s0.at
                obtain ⟨x51, s51, rfl⟩ := good_slot hG 4 _ 51 rfl rfl rfl
                rw [if_pos (wanted_slot (g := 4) rfl rfl rfl s51)]
                refine wp_value (.pointer (some ⟨g, 0, none⟩)) ?_ (hK _ _ hH (Keeps.refl _) rfl)
                go_simp
              · as_aux_lemma =>
                intro fa w K hN hF hH hG hK
                obtain ⟨x56, s56, rfl⟩ := good_slot hG 9 _ 56 rfl rfl rfl
                have e56 := s56.at
                obtain ⟨x51, s51, rfl⟩ := good_slot hG 4 _ 51 rfl rfl rfl
                rw [if_pos (wanted_slot (g := 4) rfl rfl rfl s51)]
                refine wp_value (.pointer (some ⟨g, 0, none⟩)) ?_ (hK _ _ hH (Keeps.refl _) rfl)
                go_simp
              · as_aux_lemma =>
                intro fa w K hN hF hH hG hK
                obtain ⟨x57, s57, rfl⟩ := good_slot hG 10 _ 57 rfl rfl rfl
                have e57 := s57.at
                obtain ⟨x51, s51, rfl⟩ := good_slot hG 4 _ 51 rfl rfl rfl
                rw [if_pos (wanted_slot (g := 4) rfl rfl rfl s51)]
                refine wp_value (.pointer (some ⟨g, 1, none⟩)) ?_ (hK _ _ hH (Keeps.refl _) rfl)
                go_simp
              · as_aux_lemma =>
                intro fa w K hN hF hH hG hK
                obtain ⟨x58, s58, rfl⟩ := good_slot hG 11 _ 58 rfl rfl rfl
                have e58 := s58.at
                obtain ⟨x51, s51, rfl⟩ := good_slot hG 4 _ 51 rfl rfl rfl
                rw [if_pos (wanted_slot (g := 4) rfl rfl rfl s51)]
                have cf : w.cell? ⟨g, 1, none⟩ = some (.slice (some ⟨b, off, none⟩) len cap) := (hH.cell GS.out).trans C1.out
                refine wp_value (.slice (some ⟨b, off, none⟩) len cap) ?_ (hK _ _ hH (Keeps.refl _) rfl)
                go_simp
              · as_aux_lemma =>
                intro fa w K hN hF hH hG hK
                have s9 : Slot fa 9 (.int .i64 (i : Int)) := hF.get 8 (by kernel_rfl)
                have e9 := s9.at
                obtain ⟨x51, s51, rfl⟩ := good_slot hG 4 _ 51 rfl rfl rfl
                rw [if_pos (wanted_slot (g := 4) rfl rfl rfl s51)]
                refine wp_value (.int .i64 (i : Int)) ?_ (hK _ _ hH (Keeps.refl _) rfl)
                go_simp
              · as_aux_lemma =>
                intro fa w K hN hF hH hG hK
                obtain ⟨x59, s59, rfl⟩ := good_slot hG 12 _ 59 rfl rfl rfl
                have e59 := s59.at
                obtain ⟨x60, s60, rfl⟩ := good_slot hG 13 _ 60 rfl rfl rfl
                have e60 := s60.at
                obtain ⟨x51, s51, rfl⟩ := good_slot hG 4 _ 51 rfl rfl rfl
                rw [if_pos (wanted_slot (g := 4) rfl rfl rfl s51)]
                have q0 := I0.out
                have q1 := I1.out
                have q2 := I2.out
                have q3 := I3.out
                refine wp_value (.pointer (some ⟨b, off + i * 33, none⟩)) ?_ (hK _ _ hH (Keeps.refl _) rfl)
                go_simp
              · as_aux_lemma =>
                intro fa w K hN hF hH hG hK
                obtain ⟨x61, s61, rfl⟩ := good_slot hG 14 _ 61 rfl rfl rfl
                have e61 := s61.at
                obtain ⟨x51, s51, rfl⟩ := good_slot hG 4 _ 51 rfl rfl rfl
                rw [if_pos (wanted_slot (g := 4) rfl rfl rfl s51)]
                refine wp_value (.pointer (some ⟨b, off + i * 33 + 1, none⟩)) ?_ (hK _ _ hH (Keeps.refl _) rfl)
                go_simp
              · as_aux_lemma =>
                intro fa w K hN hF hH hG hK
                obtain ⟨x62, s62, rfl⟩ := good_slot hG 15 _ 62 rfl rfl rfl
                have e62 := s62.eval
                obtain ⟨x51, s51, rfl⟩ := good_slot hG 4 _ 51 rfl rfl rfl
                rw [if_pos (wanted_slot (g := 4) rfl rfl rfl s51)]
                exact wp_load_mid 23 (.tmp 62) rfl b (off + i * 33 + 1) e62 (vals8 e.2) _ (encE_at (DR.out w hH)).2 undSum rfl SE.out (hK _ _ hH (Keeps.refl _) rfl)
              · as_aux_lemma =>
                intro fa w K hN hF hH hG hK
                obtain ⟨x55, s55, rfl⟩ := good_slot hG 8 _ 55 rfl rfl rfl
                have e55 := s55.at
                obtain ⟨x63, s63, rfl⟩ := good_slot hG 16 _ 63 rfl rfl rfl
                have e63 := s63.at
                obtain ⟨x51, s51, rfl⟩ := good_slot hG 4 _ 51 rfl rfl rfl
                rw [if_pos (wanted_slot (g := 4) rfl rfl rfl s51)]
                have q1 := EQ.out w
                refine wp_value (.bool false) ?_ (hK _ _ hH (Keeps.refl _) rfl)
                go_simp
              · as_aux_lemma =>
                intro fa w K hN hF hH hG hK
                obtain ⟨x51, s51, rfl⟩ := good_slot hG 4 _ 51 rfl rfl rfl
                have e51 := s51.at
                obtain ⟨x64, s64, rfl⟩ := good_slot hG 17 _ 64 rfl rfl rfl
                have e64 := s64.at
                rw [if_pos (wanted_none rfl)]
                refine wp_value (.bool false) ?_ (hK _ _ hH (Keeps.refl _) rfl)
                go_simp
            intro fa w hN hF hH hG
            obtain ⟨tm, df⟩ := fa
            obtain rfl : df = [] := hF.1
            refine hF.all ?_; intro s0 s1 s2 s3 s4 s5 s7 s8 s9 s10 s11 s12 s13 s14 s15 s16 s17 s18 s19 s20 s21 s22 s23 s24 s25 s26 s27 s28 s80 s81 s82 s83 s84 s85 s86 s87 s88 s89 s90 s91 s92 s93 s94 s95 s96 s97 s98 s99 s100 s101 s102 s103 s104 s105 s106 s107 s108 s109 s110 s111 s112 s113 s114 s115 s116 s117 s118 s119 s120 s121 s122 s123 s124 s125; refine .nil ?_
            obtain ⟨x65, s65, rfl⟩ := good_end hG 18 _ 65 rfl rfl
            have s65 : Slot ⟨tm, []⟩ 65 (.bool false) := s65
            refine lay_all [some (.pointer (some ⟨g, 0, none⟩)), some (.int .i64 (n : Int)), some (.agg (vals8 x).toArray), some (undef), some (undef), some (.pointer (some ⟨z, 0, none⟩)), none, some (.int .i64 (hh : Int)), some (.slice yo yn yc), some (.int .i64 (i : Int)), some (.int .i64 (plc e.1 : Int)), some (undef), some (.int .i64 (n : Int)), some (.pointer (some ⟨g, 0, none⟩)), some (.pointer (some ⟨g, 0, none⟩)), some (.pointer (some ⟨g, 0, none⟩)), some (.int .i64 (n : Int)), some (.bool false), some (.bool false), some (.int .i64 (n : Int)), some (.bool false), some (.bool false), some (.bool false), some (.int .i64 (n : Int)), some (.bool false), some (.bool false), some (.int .i64 (n : Int)), some (.int .i64 (plc n : Int)), some (.int .i64 (hh : Int)), none, none, none, none, none, none, none, none, none, none, none, none, none, none, none, none, none, none, none, none, none, none, none, none, none, none, none, none, none, none, none, none, none, none, none, none, some (.bool false), none, none, none, none, none, none, none, none, none, none, none, none, none, none, some (undef), some (undef), some (undef), some (undef), some (undef), some (undef), some (undef), some (undef), some (undef), some (undef), some (undef), some (undef), some (undef), some (undef), some (undef), some (undef), some (undef), some (undef), some (undef), some (undef), some (undef), some (undef), some (undef), some (undef), some (undef), some (undef), some (undef), some (undef), some (undef), some (undef), some (undef), some (undef), some (undef), some (undef), some (undef), some (undef), some (undef), some (undef), some (undef), some (undef), some (undef), some (undef), some (undef), some (undef), some (undef), some (undef)] hN (by kernel_rfl) ⟨s0, s1, s2, s3, s4, s5, s7, s8, s9, s10, s11, s12, s13, s14, s15, s16, s17, s18, s19, s20, s21, s22, s23, s24, s25, s26, s27, s28, s65, s80, s81, s82, s83, s84, s85, s86, s87, s88, s89, s90, s91, s92, s93, s94, s95, s96, s97, s98, s99, s100, s101, s102, s103, s104, s105, s106, s107, s108, s109, s110, s111, s112, s113, s114, s115, s116, s117, s118, s119, s120, s121, s122, s123, s124, s125, trivial⟩ ?_
            intro y6 y29 y30 y31 y32 y33 y34 y35 y36 y37 y38 y39 y40 y41 y42 y43 y44 y45 y46 y47 y48 y49 y50 y51 y52 y53 y54 y55 y56 y57 y58 y59 y60 y61 y62 y63 y64 y66 y67 y68 y69 y70 y71 y72 y73 y74 y75 y76 y77 y78 y79 eL
            subst eL
            clear s0 s1 s2 s3 s4 s5 s7 s8 s9 s10 s11 s12 s13 s14 s15 s16 s17 s18 s19 s20 s21 s22 s23 s24 s25 s26 s27 s28 s65 s80 s81 s82 s83 s84 s85 s86 s87 s88 s89 s90 s91 s92 s93 s94 s95 s96 s97 s98 s99 s100 s101 s102 s103 s104 s105 s106 s107 s108 s109 s110 s111 s112 s113 s114 s115 s116 s117 s118 s119 s120 s121 s122 s123 s124 s125 hF hG hN
            have GS9 := Lib.hid (Nat.lt_of_lt_of_le GS.out hH.size)
            have BS9 := Lib.hid (Nat.lt_of_lt_of_le BS.out hH.size)
            have K9 := Lib.hid (HK.out.trans hH)
            have O9 := Lib.hid (HO2.out.keeps hH)
            have DR9 := Lib.hid (DR.out w hH)
            have c1 : w.cell? ⟨g, 1, none⟩ = some (.slice (some ⟨b, off, none⟩) len cap) := (hH.cell GS.out).trans C1.out
            clear hH
            have C9 := Lib.hid c1
            have q1 := T1.out
            have q2 := I0.out
            have q3 := I1.out
            have q4 := I2.out
            have q5 := I3.out
            clear c1
            go_wp2_with (first
              | (go_at_call 33; (with_reducible refine (CHE.out _).mono ?_); rintro e' w5 ⟨rfl, hk5⟩; have K5 := Lib.hid hk5; have c1 := (hk5.cell GS9.out).trans C9.out)
              | (refine wpList_load_mid rfl 61 (.tmp 76) rfl b (off + i * 33) (by rfl) (encE e) _ (fun j u hj => (K5.out.cell BS9.out).trans (DR9.out j u hj)) Tryd.underlying61 rfl (by rw [encE_len SS.out.1]; exact sizOne) ?_)
              | (refine wpList_oneB Tryd.underlying56 infoOne rfl (by decide) (by decide) rfl (.tmp 77) rfl (encE e) (by rfl) (encE_len SS.out.1) ?_)
              | (at_builtin; refine wpList_appendB Tryd.underlying56 infoOne rfl (by decide) rfl (.tmp 70) (.tmp 78) rfl W.heap.size _ ((L.take i).filter (lowF hh)) e w5.heap.size 1 (by rfl) ((O9.out.keeps K5.out).keeps ((Keeps.refl _).alloc _)) (by rfl) (encE_len SS.out.1) (encE_one e) (range_new w5 _ _) (by have := FEW.out; omega) (by have := FEW.out; unfold maxLen; omega) (((K9.out.trans K5.out).alloc _).size) ?_))
            intro v4 w4 ho4 hb4 hg4
            have O4 := Lib.hid (show OwnB encE 33 61 w4 W.heap.size v4 ((L.take (i + 1)).filter (lowF hh)) by rw [NX.out]; exact ho4)
            have K4 := Lib.hid (show Keeps W w4 from Below.trans ((K9.out.trans K5.out).alloc _) hb4)
            clear ho4 hb4 hg4
            go_wp2_with fail
            go_roundw
            case rel => exact ⟨i + 1, BI.out, by go_num, O4.out, AL.out, K4.out⟩
            case measure =>
              have := BI.out
              simp [intOf] <;> omega
        · have EQ := Lib.hid (fun W => show (Op.equalIn 10000 23 (.agg (vals8 t).toArray) (.agg (vals8 e.2).toArray)).run Tryd.prog W = .ok false W from by have z := equal8 OT.out SS.out W; rw [decide_eq_false eq] at z; exact z)
          have NO := Lib.hid (show addOk L n x = false from by
            cases q : addOk L n x with
            | false => rfl
            | true => exact absurd (ET.out.trans (by have := addOk_at q (List.mem_of_getElem? HE.out) (by rw [← EK.out, ← EHH.out]; exact lt); rw [← EHH.out] at this; exact this)) eq)
          clear lt eq
          as_aux_lemma =>
            refine region_drawn5 (N := 126) (fx := [(0, .pointer (some ⟨g, 0, none⟩)), (1, .int .i64 (n : Int)), (2, .agg (vals8 x).toArray), (3, undef), (4, undef), (5, .pointer (some ⟨z, 0, none⟩)), (7, .int .i64 (hh : Int)), (8, .slice yo yn yc), (9, .int .i64 (i : Int)), (10, .int .i64 (plc e.1 : Int)), (11, undef), (12, .int .i64 (n : Int)), (13, .pointer (some ⟨g, 0, none⟩)), (14, .pointer (some ⟨g, 0, none⟩)), (15, .pointer (some ⟨g, 0, none⟩)), (16, .int .i64 (n : Int)), (17, .bool false), (18, .bool false), (19, .int .i64 (n : Int)), (20, .bool false), (21, .bool false), (22, .bool false), (23, .int .i64 (n : Int)), (24, .bool false), (25, .bool false), (26, .int .i64 (n : Int)), (27, .int .i64 (plc n : Int)), (28, .int .i64 (hh : Int)), (80, undef), (81, undef), (82, undef), (83, undef), (84, undef), (85, undef), (86, undef), (87, undef), (88, undef), (89, undef), (90, undef), (91, undef), (92, undef), (93, undef), (94, undef), (95, undef), (96, undef), (97, undef), (98, undef), (99, undef), (100, undef), (101, undef), (102, undef), (103, undef), (104, undef), (105, undef), (106, undef), (107, undef), (108, undef), (109, undef), (110, undef), (111, undef), (112, undef), (113, undef), (114, undef), (115, undef), (116, undef), (117, undef), (118, undef), (119, undef), (120, undef), (121, undef), (122, undef), (123, undef), (124, undef), (125, undef)]) (H := Keeps wr) (R := Keeps) (dss := [[], [], [], [], [], [], [], [], [], [], [], [], [], [], [], [], [], [], []]) (gs := [valA (.int .i64 (plc e.1 : Int)), valA (.int .i64 (k : Int)), valA (.int .i64 (hh : Int)), valA (.bool true), valA (.bool true), valA (.agg (vals8 x).toArray), valA (.int .i64 (hh : Int)), valA (.int .i64 (plc e.1 : Int)), valA (.agg (vals8 t).toArray), valA (.pointer (some ⟨g, 0, none⟩)), valA (.pointer (some ⟨g, 0, none⟩)), valA (.pointer (some ⟨g, 1, none⟩)), valA (.slice (some ⟨b, off, none⟩) len cap), valA (.int .i64 (i : Int)), valA (.pointer (some ⟨b, off + i * 33, none⟩)), valA (.pointer (some ⟨b, off + i * 33 + 1, none⟩)), valA (.agg (vals8 e.2).toArray), valA (.bool true), valA (.bool true)])
              ⟨gw2, gw2, gw2, gw2, gw2, gw2, gw2, gw2, gw2, gw2, gw2, gw2, gw2, gw2, gw2, gw2, gw2, gw2, gw2, trivial⟩ ⟨vl, vl, vl, vl, vl, vl, vl, vl, vl, vl, vl, vl, vl, vl, vl, vl, vl, vl, vl, trivial⟩
              (by kernel_rfl) (by kernel_rfl) (by kernel_rfl) (by kernel_rfl) (by kernel_rfl) rfl ?_ ((Keeps.refl _).drew) ?_ ?_
            · exact fix_lit (by kernel_rfl) (by kernel_rfl)
            · refine ⟨?_, ?_, ?_, ?_, ?_, ?_, ?_, ?_, ?_, ?_, ?_, ?_, ?_, ?_, ?_, ?_, ?_, ?_, ?_, trivial⟩
              · as_aux_lemma =>
                intro fa w K hN hF hH hG hK
                have s10 : Slot fa 10 (.int .i64 (plc e.1 : Int)) := hF.get 9 (by kernel_rfl)
                have e10 := s10.at
                rw [if_pos (wanted_none rfl)]
                refine wp_value (.int .i64 (plc e.1 : Int)) ?_ (hK _ _ hH (Keeps.refl _) rfl)
                go_simp
              · as_aux_lemma =>
                intro fa w K hN hF hH hG hK
                obtain ⟨x47, s47, rfl⟩ := good_slot hG 0 _ 47 rfl rfl rfl
                have e47 := s47.at
                rw [if_pos (wanted_none rfl)]
                go_simp
                (go_at_call 33; (refine (CHE.out _).mono ?_); rintro e' w' ⟨rfl, hk⟩)
                exact hK _ _ (hH.trans hk) hk rfl
              · as_aux_lemma =>
                intro fa w K hN hF hH hG hK
                have s7 : Slot fa 7 (.int .i64 (hh : Int)) := hF.get 6 (by kernel_rfl)
                have e7 := s7.at
                rw [if_pos (wanted_none rfl)]
                refine wp_value (.int .i64 (hh : Int)) ?_ (hK _ _ hH (Keeps.refl _) rfl)
                go_simp
              · as_aux_lemma =>
                intro fa w K hN hF hH hG hK
                obtain ⟨x48, s48, rfl⟩ := good_slot hG 1 _ 48 rfl rfl rfl
                have e48 := s48.at
                obtain ⟨x49, s49, rfl⟩ := good_slot hG 2 _ 49 rfl rfl rfl
                have e49 := s49.at
                rw [if_pos (wanted_none rfl)]
                have q1 := T1.out
                have q2 := T2.out
                refine wp_value (.bool true) ?_ (hK _ _ hH (Keeps.refl _) rfl)
                go_simp
              · as_aux_lemma =>
                intro fa w K hN hF hH hG hK
                obtain ⟨x50, s50, rfl⟩ := good_slot hG 3 _ 50 rfl rfl rfl
                have e50 := s50.at
                rw [if_pos (wanted_none rfl)]
                refine wp_value (.bool true) ?_ (hK _ _ hH (Keeps.refl _) rfl)
                go_simp
              · as_aux_lemma =>
                intro fa w K hN hF hH hG hK
                have s5 : Slot fa 5 (.pointer (some ⟨z, 0, none⟩)) := hF.get 5 (by kernel_rfl)
                have e5 := s5.eval
                obtain ⟨x51, s51, rfl⟩ := good_slot hG 4 _ 51 rfl rfl rfl
                rw [if_pos (wanted_slot (g := 4) rfl rfl rfl s51)]
                exact wp_load_mid 23 (.tmp 5) rfl z 0 e5 (vals8 x) _ ((AZ.out.keeps hH).range) undSum rfl SX.out (hK _ _ hH (Keeps.refl _) rfl)
              · as_aux_lemma =>
                intro fa w K hN hF hH hG hK
                have s7 : Slot fa 7 (.int .i64 (hh : Int)) := hF.get 6 (by kernel_rfl)
                have e7 := s7.at
                obtain ⟨x51, s51, rfl⟩ := good_slot hG 4 _ 51 rfl rfl rfl
                rw [if_pos (wanted_slot (g := 4) rfl rfl rfl s51)]
                refine wp_value (.int .i64 (hh : Int)) ?_ (hK _ _ hH (Keeps.refl _) rfl)
                go_simp
              · as_aux_lemma =>
                intro fa w K hN hF hH hG hK
                have s10 : Slot fa 10 (.int .i64 (plc e.1 : Int)) := hF.get 9 (by kernel_rfl)
                have e10 := s10.at
                obtain ⟨x51, s51, rfl⟩ := good_slot hG 4 _ 51 rfl rfl rfl
                rw [if_pos (wanted_slot (g := 4) rfl rfl rfl s51)]
                refine wp_value (.int .i64 (plc e.1 : Int)) ?_ (hK _ _ hH (Keeps.refl _) rfl)
                go_simp
              · as_aux_lemma =>
                intro fa w K hN hF hH hG hK
                obtain ⟨x52, s52, rfl⟩ := good_slot hG 5 _ 52 rfl rfl rfl
                have e52 := s52.at
                obtain ⟨x53, s53, rfl⟩ := good_slot hG 6 _ 53 rfl rfl rfl
                have e53 := s53.at
                obtain ⟨x54, s54, rfl⟩ := good_slot hG 7 _ 54 rfl rfl rfl
                have e54 := s54.at
                obtain ⟨x51, s51, rfl⟩ := good_slot hG 4 _ 51 rfl rfl rfl
                rw [if_pos (wanted_slot (g := 4) rfl rfl rfl s51)]
                go_simp
                (go_at_call 29; (refine (CT.out _).mono ?_); rintro e' w' ⟨rfl, hk⟩)
                exact hK _ _ (hH.trans hk) hk rfl
              · as_aux_lemma =>
                intro fa w K hN hF hH hG hK
                have s0 : Slot fa 0 (.pointer (some ⟨g, 0, none⟩)) := hF.get 0 (by kernel_rfl)
                have e0 := s0.at
                obtain ⟨x51, s51, rfl⟩ := good_slot hG 4 _ 51 rfl rfl rfl
                rw [if_pos (wanted_slot (g := 4) rfl rfl rfl s51)]
                refine wp_value (.pointer (some ⟨g, 0, none⟩)) ?_ (hK _ _ hH (Keeps.refl _) rfl)
                go_simp
              · as_aux_lemma =>
                intro fa w K hN hF hH hG hK
                obtain ⟨x56, s56, rfl⟩ := good_slot hG 9 _ 56 rfl rfl rfl
                have e56 := s56.at
                obtain ⟨x51, s51, rfl⟩ := good_slot hG 4 _ 51 rfl rfl rfl
                rw [if_pos (wanted_slot (g := 4) rfl rfl rfl s51)]
                refine wp_value (.pointer (some ⟨g, 0, none⟩)) ?_ (hK _ _ hH (Keeps.refl _) rfl)
                go_simp
              · as_aux_lemma =>
                intro fa w K hN hF hH hG hK
                obtain ⟨x57, s57, rfl⟩ := good_slot hG 10 _ 57 rfl rfl rfl
                have e57 := s57.at
                obtain ⟨x51, s51, rfl⟩ := good_slot hG 4 _ 51 rfl rfl rfl
                rw [if_pos (wanted_slot (g := 4) rfl rfl rfl s51)]
                refine wp_value (.pointer (some ⟨g, 1, none⟩)) ?_ (hK _ _ hH (Keeps.refl _) rfl)
                go_simp
              · as_aux_lemma =>
                intro fa w K hN hF hH hG hK
                obtain ⟨x58, s58, rfl⟩ := good_slot hG 11 _ 58 rfl rfl rfl
                have e58 := s58.at
                obtain ⟨x51, s51, rfl⟩ := good_slot hG 4 _ 51 rfl rfl rfl
                rw [if_pos (wanted_slot (g := 4) rfl rfl rfl s51)]
                have cf : w.cell? ⟨g, 1, none⟩ = some (.slice (some ⟨b, off, none⟩) len cap) := (hH.cell GS.out).trans C1.out
                refine wp_value (.slice (some ⟨b, off, none⟩) len cap) ?_ (hK _ _ hH (Keeps.refl _) rfl)
                go_simp
              · as_aux_lemma =>
                intro fa w K hN hF hH hG hK
                have s9 : Slot fa 9 (.int .i64 (i : Int)) := hF.get 8 (by kernel_rfl)
                have e9 := s9.at
                obtain ⟨x51, s51, rfl⟩ := good_slot hG 4 _ 51 rfl rfl rfl
                rw [if_pos (wanted_slot (g := 4) rfl rfl rfl s51)]
                refine wp_value (.int .i64 (i : Int)) ?_ (hK _ _ hH (Keeps.refl _) rfl)
                go_simp
              · as_aux_lemma =>
                intro fa w K hN hF hH hG hK
                obtain ⟨x59, s59, rfl⟩ := good_slot hG 12 _ 59 rfl rfl rfl
                have e59 := s59.at
                obtain ⟨x60, s60, rfl⟩ := good_slot hG 13 _ 60 rfl rfl rfl
                have e60 := s60.at
                obtain ⟨x51, s51, rfl⟩ := good_slot hG 4 _ 51 rfl rfl rfl
                rw [if_pos (wanted_slot (g := 4) rfl rfl rfl s51)]
                have q0 := I0.out
                have q1 := I1.out
                have q2 := I2.out
                have q3 := I3.out
                refine wp_value (.pointer (some ⟨b, off + i * 33, none⟩)) ?_ (hK _ _ hH (Keeps.refl _) rfl)
                go_simp
              · as_aux_lemma =>
                intro fa w K hN hF hH hG hK
                obtain ⟨x61, s61, rfl⟩ := good_slot hG 14 _ 61 rfl rfl rfl
                have e61 := s61.at
                obtain ⟨x51, s51, rfl⟩ := good_slot hG 4 _ 51 rfl rfl rfl
                rw [if_pos (wanted_slot (g := 4) rfl rfl rfl s51)]
                refine wp_value (.pointer (some ⟨b, off + i * 33 + 1, none⟩)) ?_ (hK _ _ hH (Keeps.refl _) rfl)
                go_simp
              · as_aux_lemma =>
                intro fa w K hN hF hH hG hK
                obtain ⟨x62, s62, rfl⟩ := good_slot hG 15 _ 62 rfl rfl rfl
                have e62 := s62.eval
                obtain ⟨x51, s51, rfl⟩ := good_slot hG 4 _ 51 rfl rfl rfl
                rw [if_pos (wanted_slot (g := 4) rfl rfl rfl s51)]
                exact wp_load_mid 23 (.tmp 62) rfl b (off + i * 33 + 1) e62 (vals8 e.2) _ (encE_at (DR.out w hH)).2 undSum rfl SE.out (hK _ _ hH (Keeps.refl _) rfl)
              · as_aux_lemma =>
                intro fa w K hN hF hH hG hK
                obtain ⟨x55, s55, rfl⟩ := good_slot hG 8 _ 55 rfl rfl rfl
                have e55 := s55.at
                obtain ⟨x63, s63, rfl⟩ := good_slot hG 16 _ 63 rfl rfl rfl
                have e63 := s63.at
                obtain ⟨x51, s51, rfl⟩ := good_slot hG 4 _ 51 rfl rfl rfl
                rw [if_pos (wanted_slot (g := 4) rfl rfl rfl s51)]
                have q1 := EQ.out w
                refine wp_value (.bool true) ?_ (hK _ _ hH (Keeps.refl _) rfl)
                go_simp
              · as_aux_lemma =>
                intro fa w K hN hF hH hG hK
                obtain ⟨x51, s51, rfl⟩ := good_slot hG 4 _ 51 rfl rfl rfl
                have e51 := s51.at
                obtain ⟨x64, s64, rfl⟩ := good_slot hG 17 _ 64 rfl rfl rfl
                have e64 := s64.at
                rw [if_pos (wanted_none rfl)]
                refine wp_value (.bool true) ?_ (hK _ _ hH (Keeps.refl _) rfl)
                go_simp
            intro fa w hN hF hH hG
            obtain ⟨tm, df⟩ := fa
            obtain rfl : df = [] := hF.1
            refine hF.all ?_; intro s0 s1 s2 s3 s4 s5 s7 s8 s9 s10 s11 s12 s13 s14 s15 s16 s17 s18 s19 s20 s21 s22 s23 s24 s25 s26 s27 s28 s80 s81 s82 s83 s84 s85 s86 s87 s88 s89 s90 s91 s92 s93 s94 s95 s96 s97 s98 s99 s100 s101 s102 s103 s104 s105 s106 s107 s108 s109 s110 s111 s112 s113 s114 s115 s116 s117 s118 s119 s120 s121 s122 s123 s124 s125; refine .nil ?_
            obtain ⟨x65, s65, rfl⟩ := good_end hG 18 _ 65 rfl rfl
            have s65 : Slot ⟨tm, []⟩ 65 (.bool true) := s65
            refine lay_all [some (.pointer (some ⟨g, 0, none⟩)), some (.int .i64 (n : Int)), some (.agg (vals8 x).toArray), some (undef), some (undef), some (.pointer (some ⟨z, 0, none⟩)), none, some (.int .i64 (hh : Int)), some (.slice yo yn yc), some (.int .i64 (i : Int)), some (.int .i64 (plc e.1 : Int)), some (undef), some (.int .i64 (n : Int)), some (.pointer (some ⟨g, 0, none⟩)), some (.pointer (some ⟨g, 0, none⟩)), some (.pointer (some ⟨g, 0, none⟩)), some (.int .i64 (n : Int)), some (.bool false), some (.bool false), some (.int .i64 (n : Int)), some (.bool false), some (.bool false), some (.bool false), some (.int .i64 (n : Int)), some (.bool false), some (.bool false), some (.int .i64 (n : Int)), some (.int .i64 (plc n : Int)), some (.int .i64 (hh : Int)), none, none, none, none, none, none, none, none, none, none, none, none, none, none, none, none, none, none, none, none, none, none, none, none, none, none, none, none, none, none, none, none, none, none, none, none, some (.bool true), none, none, none, none, none, none, none, none, none, none, none, none, none, none, some (undef), some (undef), some (undef), some (undef), some (undef), some (undef), some (undef), some (undef), some (undef), some (undef), some (undef), some (undef), some (undef), some (undef), some (undef), some (undef), some (undef), some (undef), some (undef), some (undef), some (undef), some (undef), some (undef), some (undef), some (undef), some (undef), some (undef), some (undef), some (undef), some (undef), some (undef), some (undef), some (undef), some (undef), some (undef), some (undef), some (undef), some (undef), some (undef), some (undef), some (undef), some (undef), some (undef), some (undef), some (undef), some (undef)] hN (by kernel_rfl) ⟨s0, s1, s2, s3, s4, s5, s7, s8, s9, s10, s11, s12, s13, s14, s15, s16, s17, s18, s19, s20, s21, s22, s23, s24, s25, s26, s27, s28, s65, s80, s81, s82, s83, s84, s85, s86, s87, s88, s89, s90, s91, s92, s93, s94, s95, s96, s97, s98, s99, s100, s101, s102, s103, s104, s105, s106, s107, s108, s109, s110, s111, s112, s113, s114, s115, s116, s117, s118, s119, s120, s121, s122, s123, s124, s125, trivial⟩ ?_
            intro y6 y29 y30 y31 y32 y33 y34 y35 y36 y37 y38 y39 y40 y41 y42 y43 y44 y45 y46 y47 y48 y49 y50 y51 y52 y53 y54 y55 y56 y57 y58 y59 y60 y61 y62 y63 y64 y66 y67 y68 y69 y70 y71 y72 y73 y74 y75 y76 y77 y78 y79 eL
            subst eL
            clear s0 s1 s2 s3 s4 s5 s7 s8 s9 s10 s11 s12 s13 s14 s15 s16 s17 s18 s19 s20 s21 s22 s23 s24 s25 s26 s27 s28 s65 s80 s81 s82 s83 s84 s85 s86 s87 s88 s89 s90 s91 s92 s93 s94 s95 s96 s97 s98 s99 s100 s101 s102 s103 s104 s105 s106 s107 s108 s109 s110 s111 s112 s113 s114 s115 s116 s117 s118 s119 s120 s121 s122 s123 s124 s125 hF hG hN
            have GS9 := Lib.hid (Nat.lt_of_lt_of_le GS.out hH.size)
            have BS9 := Lib.hid (Nat.lt_of_lt_of_le BS.out hH.size)
            have K9 := Lib.hid (HK.out.trans hH)
            have O9 := Lib.hid (HO2.out.keeps hH)
            have DR9 := Lib.hid (DR.out w hH)
            have c1 : w.cell? ⟨g, 1, none⟩ = some (.slice (some ⟨b, off, none⟩) len cap) := (hH.cell GS.out).trans C1.out
            clear hH
            clear c1
            go_wp2_with fail
            go_ret
            exact ⟨by rw [(addE_bad HN.out NO.out).1]; rfl, Mut.of (K0.out.trans K9.out) S, S, by rw [(addE_bad HN.out NO.out).2.1, (addE_bad HN.out NO.out).2.2]; exact std_lasts S (fun _ => False) _ _ _ _ _ HS.out (Mut.of K9.out _) (fun _ _ q => q), fun i q => Or.inl q⟩
      · have T1 := Lib.hid (show ¬ (k : Int) < (hh : Int) by omega)
        have T2 := Lib.hid (show (hh : Int) ≤ (k : Int) by omega)
        have NX := Lib.hid (filt_no (p := lowF hh) HE.out (by unfold lowF; rw [← EK.out]; exact decide_eq_false lt))
        have AL := Lib.hid (show ∀ f ∈ L.take (i + 1), hgtN f.1 < hh → toS x hh (plc f.1) = f.2 from fun f hf hl => by
          obtain ⟨q1, q2⟩ := List.getElem?_eq_some_iff.1 HE.out
          rw [List.take_succ_eq_append_getElem q1, q2] at hf
          rcases List.mem_append.1 hf with r | r
          · exact ALL.out f r hl
          · rw [List.mem_singleton] at r; rw [r, ← EK.out] at hl; exact absurd hl lt)
        clear lt
        as_aux_lemma =>
          refine region_drawn5 (N := 126) (fx := [(0, .pointer (some ⟨g, 0, none⟩)), (1, .int .i64 (n : Int)), (2, .agg (vals8 x).toArray), (3, undef), (4, undef), (5, .pointer (some ⟨z, 0, none⟩)), (7, .int .i64 (hh : Int)), (8, .slice yo yn yc), (9, .int .i64 (i : Int)), (10, .int .i64 (plc e.1 : Int)), (11, undef), (12, .int .i64 (n : Int)), (13, .pointer (some ⟨g, 0, none⟩)), (14, .pointer (some ⟨g, 0, none⟩)), (15, .pointer (some ⟨g, 0, none⟩)), (16, .int .i64 (n : Int)), (17, .bool false), (18, .bool false), (19, .int .i64 (n : Int)), (20, .bool false), (21, .bool false), (22, .bool false), (23, .int .i64 (n : Int)), (24, .bool false), (25, .bool false), (26, .int .i64 (n : Int)), (27, .int .i64 (plc n : Int)), (28, .int .i64 (hh : Int)), (80, undef), (81, undef), (82, undef), (83, undef), (84, undef), (85, undef), (86, undef), (87, undef), (88, undef), (89, undef), (90, undef), (91, undef), (92, undef), (93, undef), (94, undef), (95, undef), (96, undef), (97, undef), (98, undef), (99, undef), (100, undef), (101, undef), (102, undef), (103, undef), (104, undef), (105, undef), (106, undef), (107, undef), (108, undef), (109, undef), (110, undef), (111, undef), (112, undef), (113, undef), (114, undef), (115, undef), (116, undef), (117, undef), (118, undef), (119, undef), (120, undef), (121, undef), (122, undef), (123, undef), (124, undef), (125, undef)]) (H := Keeps wr) (R := Keeps) (dss := [[], [], [], [], [], [], [], [], [], [], [], [], [], [], [], [], [], [], []]) (gs := [valA (.int .i64 (plc e.1 : Int)), valA (.int .i64 (k : Int)), valA (.int .i64 (hh : Int)), valA (.bool false), valA (.bool false), valA undef, valA undef, valA undef, valA undef, valA undef, valA undef, valA undef, valA undef, valA undef, valA undef, valA undef, valA undef, valA undef, valA (.bool false)])
            ⟨gw2, gw2, gw2, gw2, gw2, gw2, gw2, gw2, gw2, gw2, gw2, gw2, gw2, gw2, gw2, gw2, gw2, gw2, gw2, trivial⟩ ⟨vl, vl, vl, vl, vl, vl, vl, vl, vl, vl, vl, vl, vl, vl, vl, vl, vl, vl, vl, trivial⟩
            (by kernel_rfl) (by kernel_rfl) (by kernel_rfl) (by kernel_rfl) (by kernel_rfl) rfl ?_ ((Keeps.refl _).drew) ?_ ?_
          · exact fix_lit (by kernel_rfl) (by kernel_rfl)
          · refine ⟨?_, ?_, ?_, ?_, ?_, ?_, ?_, ?_, ?_, ?_, ?_, ?_, ?_, ?_, ?_, ?_, ?_, ?_, ?_, trivial⟩
            · as_aux_lemma =>
              intro fa w K hN hF hH hG hK
              have s10 : Slot fa 10 (.int .i64 (plc e.1 : Int)) := hF.get 9 (by kernel_rfl)
              have e10 := s10.at
              rw [if_pos (wanted_none rfl)]
              refine wp_value (.int .i64 (plc e.1 : Int)) ?_ (hK _ _ hH (Keeps.refl _) rfl)
              go_simp
            · as_aux_lemma =>
              intro fa w K hN hF hH hG hK
              obtain ⟨x47, s47, rfl⟩ := good_slot hG 0 _ 47 rfl rfl rfl
              have e47 := s47.at
              rw [if_pos (wanted_none rfl)]
              go_simp
              (go_at_call 33; (refine (CHE.out _).mono ?_); rintro e' w' ⟨rfl, hk⟩)
              exact hK _ _ (hH.trans hk) hk rfl
            · as_aux_lemma =>
              intro fa w K hN hF hH hG hK
              have s7 : Slot fa 7 (.int .i64 (hh : Int)) := hF.get 6 (by kernel_rfl)
              have e7 := s7.at
              rw [if_pos (wanted_none rfl)]
              refine wp_value (.int .i64 (hh : Int)) ?_ (hK _ _ hH (Keeps.refl _) rfl)
              go_simp
            · as_aux_lemma =>
              intro fa w K hN hF hH hG hK
              obtain ⟨x48, s48, rfl⟩ := good_slot hG 1 _ 48 rfl rfl rfl
              have e48 := s48.at
              obtain ⟨x49, s49, rfl⟩ := good_slot hG 2 _ 49 rfl rfl rfl
              have e49 := s49.at
              rw [if_pos (wanted_none rfl)]
              have q1 := T1.out
              have q2 := T2.out
              refine wp_value (.bool false) ?_ (hK _ _ hH (Keeps.refl _) rfl)
              go_simp
            · as_aux_lemma =>
              intro fa w K hN hF hH hG hK
              obtain ⟨x50, s50, rfl⟩ := good_slot hG 3 _ 50 rfl rfl rfl
              have e50 := s50.at
              rw [if_pos (wanted_none rfl)]
              refine wp_value (.bool false) ?_ (hK _ _ hH (Keeps.refl _) rfl)
              go_simp
            · as_aux_lemma =>
              intro fa w K hN hF hH hG hK
              obtain ⟨x51, s51, rfl⟩ := good_slot hG 4 _ 51 rfl rfl rfl
              rw [if_neg (unwanted_slot (g := 4) rfl rfl rfl s51)]
              exact hK _ _ hH (Keeps.refl _) rfl
            · as_aux_lemma =>
              intro fa w K hN hF hH hG hK
              obtain ⟨x51, s51, rfl⟩ := good_slot hG 4 _ 51 rfl rfl rfl
              rw [if_neg (unwanted_slot (g := 4) rfl rfl rfl s51)]
              exact hK _ _ hH (Keeps.refl _) rfl
            · as_aux_lemma =>
              intro fa w K hN hF hH hG hK
              obtain ⟨x51, s51, rfl⟩ := good_slot hG 4 _ 51 rfl rfl rfl
              rw [if_neg (unwanted_slot (g := 4) rfl rfl rfl s51)]
              exact hK _ _ hH (Keeps.refl _) rfl
            · as_aux_lemma =>
              intro fa w K hN hF hH hG hK
              obtain ⟨x51, s51, rfl⟩ := good_slot hG 4 _ 51 rfl rfl rfl
              rw [if_neg (unwanted_slot (g := 4) rfl rfl rfl s51)]
              exact hK _ _ hH (Keeps.refl _) rfl
            · as_aux_lemma =>
              intro fa w K hN hF hH hG hK
              obtain ⟨x51, s51, rfl⟩ := good_slot hG 4 _ 51 rfl rfl rfl
              rw [if_neg (unwanted_slot (g := 4) rfl rfl rfl s51)]
              exact hK _ _ hH (Keeps.refl _) rfl
            · as_aux_lemma =>
              intro fa w K hN hF hH hG hK
              obtain ⟨x51, s51, rfl⟩ := good_slot hG 4 _ 51 rfl rfl rfl
              rw [if_neg (unwanted_slot (g := 4) rfl rfl rfl s51)]
              exact hK _ _ hH (Keeps.refl _) rfl
            · as_aux_lemma =>
              intro fa w K hN hF hH hG hK
              obtain ⟨x51, s51, rfl⟩ := good_slot hG 4 _ 51 rfl rfl rfl
              rw [if_neg (unwanted_slot (g := 4) rfl rfl rfl s51)]
              exact hK _ _ hH (Keeps.refl _) rfl
            · as_aux_lemma =>
              intro fa w K hN hF hH hG hK
              obtain ⟨x51, s51, rfl⟩ := good_slot hG 4 _ 51 rfl rfl rfl
              rw [if_neg (unwanted_slot (g := 4) rfl rfl rfl s51)]
              exact hK _ _ hH (Keeps.refl _) rfl
            · as_aux_lemma =>
              intro fa w K hN hF hH hG hK
              obtain ⟨x51, s51, rfl⟩ := good_slot hG 4 _ 51 rfl rfl rfl
              rw [if_neg (unwanted_slot (g := 4) rfl rfl rfl s51)]
              exact hK _ _ hH (Keeps.refl _) rfl
            · as_aux_lemma =>
              intro fa w K hN hF hH hG hK
              obtain ⟨x51, s51, rfl⟩ := good_slot hG 4 _ 51 rfl rfl rfl
              rw [if_neg (unwanted_slot (g := 4) rfl rfl rfl s51)]
              exact hK _ _ hH (Keeps.refl _) rfl
            · as_aux_lemma =>
              intro fa w K hN hF hH hG hK
              obtain ⟨x51, s51, rfl⟩ := good_slot hG 4 _ 51 rfl rfl rfl
              rw [if_neg (unwanted_slot (g := 4) rfl rfl rfl s51)]
              exact hK _ _ hH (Keeps.refl _) rfl
            · as_aux_lemma =>
              intro fa w K hN hF hH hG hK
              obtain ⟨x51, s51, rfl⟩ := good_slot hG 4 _ 51 rfl rfl rfl
              rw [if_neg (unwanted_slot (g := 4) rfl rfl rfl s51)]
              exact hK _ _ hH (Keeps.refl _) rfl
            · as_aux_lemma =>
              intro fa w K hN hF hH hG hK
              obtain ⟨x51, s51, rfl⟩ := good_slot hG 4 _ 51 rfl rfl rfl
              rw [if_neg (unwanted_slot (g := 4) rfl rfl rfl s51)]
              exact hK _ _ hH (Keeps.refl _) rfl
            · as_aux_lemma =>
              intro fa w K hN hF hH hG hK
              obtain ⟨x51, s51, rfl⟩ := good_slot hG 4 _ 51 rfl rfl rfl
              have e51 := s51.at
              obtain ⟨x64, s64, rfl⟩ := good_slot hG 17 _ 64 rfl rfl rfl
              have e64 := s64.at
              rw [if_pos (wanted_none rfl)]
              refine wp_value (.bool false) ?_ (hK _ _ hH (Keeps.refl _) rfl)
              go_simp
          intro fa w hN hF hH hG
          obtain ⟨tm, df⟩ := fa
          obtain rfl : df = [] := hF.1
          refine hF.all ?_; intro s0 s1 s2 s3 s4 s5 s7 s8 s9 s10 s11 s12 s13 s14 s15 s16 s17 s18 s19 s20 s21 s22 s23 s24 s25 s26 s27 s28 s80 s81 s82 s83 s84 s85 s86 s87 s88 s89 s90 s91 s92 s93 s94 s95 s96 s97 s98 s99 s100 s101 s102 s103 s104 s105 s106 s107 s108 s109 s110 s111 s112 s113 s114 s115 s116 s117 s118 s119 s120 s121 s122 s123 s124 s125; refine .nil ?_
          obtain ⟨x65, s65, rfl⟩ := good_end hG 18 _ 65 rfl rfl
          have s65 : Slot ⟨tm, []⟩ 65 (.bool false) := s65
          refine lay_all [some (.pointer (some ⟨g, 0, none⟩)), some (.int .i64 (n : Int)), some (.agg (vals8 x).toArray), some (undef), some (undef), some (.pointer (some ⟨z, 0, none⟩)), none, some (.int .i64 (hh : Int)), some (.slice yo yn yc), some (.int .i64 (i : Int)), some (.int .i64 (plc e.1 : Int)), some (undef), some (.int .i64 (n : Int)), some (.pointer (some ⟨g, 0, none⟩)), some (.pointer (some ⟨g, 0, none⟩)), some (.pointer (some ⟨g, 0, none⟩)), some (.int .i64 (n : Int)), some (.bool false), some (.bool false), some (.int .i64 (n : Int)), some (.bool false), some (.bool false), some (.bool false), some (.int .i64 (n : Int)), some (.bool false), some (.bool false), some (.int .i64 (n : Int)), some (.int .i64 (plc n : Int)), some (.int .i64 (hh : Int)), none, none, none, none, none, none, none, none, none, none, none, none, none, none, none, none, none, none, none, none, none, none, none, none, none, none, none, none, none, none, none, none, none, none, none, none, some (.bool false), none, none, none, none, none, none, none, none, none, none, none, none, none, none, some (undef), some (undef), some (undef), some (undef), some (undef), some (undef), some (undef), some (undef), some (undef), some (undef), some (undef), some (undef), some (undef), some (undef), some (undef), some (undef), some (undef), some (undef), some (undef), some (undef), some (undef), some (undef), some (undef), some (undef), some (undef), some (undef), some (undef), some (undef), some (undef), some (undef), some (undef), some (undef), some (undef), some (undef), some (undef), some (undef), some (undef), some (undef), some (undef), some (undef), some (undef), some (undef), some (undef), some (undef), some (undef), some (undef)] hN (by kernel_rfl) ⟨s0, s1, s2, s3, s4, s5, s7, s8, s9, s10, s11, s12, s13, s14, s15, s16, s17, s18, s19, s20, s21, s22, s23, s24, s25, s26, s27, s28, s65, s80, s81, s82, s83, s84, s85, s86, s87, s88, s89, s90, s91, s92, s93, s94, s95, s96, s97, s98, s99, s100, s101, s102, s103, s104, s105, s106, s107, s108, s109, s110, s111, s112, s113, s114, s115, s116, s117, s118, s119, s120, s121, s122, s123, s124, s125, trivial⟩ ?_
          intro y6 y29 y30 y31 y32 y33 y34 y35 y36 y37 y38 y39 y40 y41 y42 y43 y44 y45 y46 y47 y48 y49 y50 y51 y52 y53 y54 y55 y56 y57 y58 y59 y60 y61 y62 y63 y64 y66 y67 y68 y69 y70 y71 y72 y73 y74 y75 y76 y77 y78 y79 eL
          subst eL
          clear s0 s1 s2 s3 s4 s5 s7 s8 s9 s10 s11 s12 s13 s14 s15 s16 s17 s18 s19 s20 s21 s22 s23 s24 s25 s26 s27 s28 s65 s80 s81 s82 s83 s84 s85 s86 s87 s88 s89 s90 s91 s92 s93 s94 s95 s96 s97 s98 s99 s100 s101 s102 s103 s104 s105 s106 s107 s108 s109 s110 s111 s112 s113 s114 s115 s116 s117 s118 s119 s120 s121 s122 s123 s124 s125 hF hG hN
          have GS9 := Lib.hid (Nat.lt_of_lt_of_le GS.out hH.size)
          have BS9 := Lib.hid (Nat.lt_of_lt_of_le BS.out hH.size)
          have K9 := Lib.hid (HK.out.trans hH)
          have O9 := Lib.hid (HO2.out.keeps hH)
          have DR9 := Lib.hid (DR.out w hH)
          have c1 : w.cell? ⟨g, 1, none⟩ = some (.slice (some ⟨b, off, none⟩) len cap) := (hH.cell GS.out).trans C1.out
          clear hH
          have C9 := Lib.hid c1
          have q1 := T1.out
          have q2 := T2.out
          have q3 : decide ((k : Int) < (hh : Int)) = false := decide_eq_false T1.out
          have q4 : decide (k < hh) = false := decide_eq_false (by omega)
          clear c1
          go_wp2_with ((go_at_call 33; (with_reducible refine (CHE.out _).mono ?_); rintro e' w5 ⟨rfl, hk5⟩))
          go_roundw
          case rel => exact ⟨i + 1, BI.out, by go_num, by rw [NX.out]; exact O9.out.keeps hk5, AL.out, K9.out.trans hk5⟩
          case measure =>
            have := BI.out
            simp [intOf] <;> omega
    · obtain rfl : i = L.length := by omega
      as_aux_lemma =>
        obtain rfl := HL.out
        have OKY := Lib.hid (show addOk L n x = true from List.all_eq_true.2 fun f hf => by
          have q := ALL.out f (by rw [List.take_length]; exact hf)
          by_cases lt : hgtN f.1 < hgtN n
          · rw [decide_eq_true lt, decide_eq_true (by rw [← EHH.out] at lt ⊢; exact q lt)]; rfl
          · rw [decide_eq_false lt]; rfl)
        have O3 := Lib.hid (show OwnB encE 33 61 wr W.heap.size (.slice yo yn yc) (L.filter (lowF hh)) by have := HO2.out; rw [List.take_length] at this; exact this)
        have i1 : ¬ (L.length : Int) < (L.length : Int) := Int.lt_irrefl _
        have FW := Lib.hid (show (L.filter (lowF hh)).length + 1 ≤ 23 by have h1 := few_kept GD.out; have h2 := List.length_filter_le (lowF hh) L; omega)
        clear hi hge hown hall hk HO2 ALL
        go_upto_region 14 with (first
          | (refine wpList_load_mid rfl 23 (.tmp 5) rfl z 0 (by rfl) (vals8 x) _ AZ.out.range undSum rfl SX.out ?_)
          | (refine wpList_buildOne rfl (.tmp 81) (.tmp 82) rfl (n : Int) x HX.out.1 (by rfl) (by rfl) ?_)
          | (refine wpList_oneB Tryd.underlying56 infoOne rfl (by decide) (by decide) rfl (.tmp 83) rfl (encE (n, x)) (by rfl) (encE_len HX.out.1) ?_)
          | (at_builtin; refine wpList_appendB Tryd.underlying56 infoOne rfl (by decide) rfl (.tmp 80) (.tmp 84) rfl W.heap.size _ (L.filter (lowF hh)) (n, x) wr.heap.size 1 (by rfl) (O3.out.keeps ((Keeps.refl _).alloc _)) (by rfl) (encE_len HX.out.1) (encE_one (n, x)) (range_new wr _ _) (by have := FW.out; omega) (by have := FW.out; unfold maxLen; omega) ((HK.out.alloc _).size) ?_; intro v4 w4 ho4 hb4 hg4; have O4 := Lib.hid ho4; have K4 := Lib.hid (show Keeps W w4 from Below.trans (HK.out.alloc _) hb4); obtain ⟨qo, qn, qc, rfl⟩ : ∃ a b c, v4 = .slice a b c := (by obtain ⟨a, b, c, e, _⟩ := ho4.holds; exact ⟨a, b, c, e⟩); clear ho4 hb4 hg4))
        obtain ⟨A, eA⟩ : ∃ A, A = L.filter (lowF hh) ++ [(n, x)] := ⟨_, rfl⟩
        have EA := Lib.hid eA
        have FA := Lib.hid (show A.length ≤ 23 by rw [eA, List.length_append]; exact FW.out)
        have O4 := Lib.hid (show OwnB encE 33 61 w4 W.heap.size (.slice qo qn qc) (A ++ (L.take 0).filter (highF hh)) by rw [eA, List.take_zero, List.filter_nil, List.append_nil]; exact O4.out)
        clear eA c1 i1 O3 FW HK AZ C1
        go_wp2_with fail
        go_loopw [8, 11] (fun sa si wr => MoreAt W L A hh sa si wr) (fun _ si _ => L.length - (intOf si).toNat)
        case atStart => exact ⟨0, Nat.zero_le _, rfl, O4.out, K4.out⟩
        case round =>
          clear O4 K4
          obtain ⟨j, hj, rfl, hown, hk⟩ := hrel
          have HK := Lib.hid hk
          have HO2 := Lib.hid hown
          have c1 : wr.cell? ⟨g, 1, none⟩ = some (.slice ao L.length cap) := (hk.cell GS.out).trans C1W.out
          have C1 := Lib.hid c1
          obtain ⟨yo, yn, yc, rfl⟩ : ∃ a b c, u8 = .slice a b c := by obtain ⟨a, b, c, e, _⟩ := hown.holds; exact ⟨a, b, c, e⟩
          rcases Nat.lt_or_ge j L.length with hlt | hge
          · obtain ⟨e, he⟩ : ∃ e, L[j]? = some e := ⟨L[j], by simp [hlt]⟩
            obtain ⟨b, off, n2, c2, ev, hln, hbs, hr⟩ := (HO.out.keeps hk).at he
            obtain ⟨rfl, hn2, rfl⟩ : ao = some ⟨b, off, none⟩ ∧ L.length = n2 ∧ cap = c2 := by simpa using ev
            clear hn2
            obtain ⟨d0, _⟩ := encE_at hr
            have DR := Lib.hid hr
            have FEW := Lib.hid (show (A ++ (L.take j).filter (highF hh)).length + 1 ≤ 50 by have h1 := few_kept GD.out; have h2 := List.length_filter_le (highF hh) (L.take j); rw [List.length_take] at h2; rw [List.length_append]; have := FA.out; omega)
            have i0 : (0 : Int) ≤ (j : Int) := by omega
            have i2 : (j : Int) ≤ 100 := by have := few_kept GD.out; omega
            have i1 : (j : Int) < (L.length : Int) := by have := HL.out; omega
            have BI := Lib.hid (show j < L.length from hlt)
            clear hr hk hj hln ev hown hlt
            have LE := Lib.hid (GD.out.last e (List.mem_of_getElem? he))
            have CE := Lib.hid (ref10_place e.1 (by have := LE.out.1; have := HN.out; omega))
            have SS := Lib.hid (GD.out.sums e (List.mem_of_getElem? he))
            obtain ⟨k, ek⟩ : ∃ k, k = hgtN e.1 := ⟨_, rfl⟩
            have EK := Lib.hid ek
            have CHE := Lib.hid (fun w => show Calls Tryd.prog 33 #[.int .i64 (plc e.1 : Int)] w (fun e' w' => e' = .returned (.int .i64 (k : Int)) ∧ w = w') from by rw [EK.out]; exact ref10_height (plc e.1) (by unfold plc; omega) w)
            have HE := Lib.hid he
            clear ek he
            by_cases gt : hh < k
            · have t1 : (hh : Int) < (k : Int) := by omega
              have NX := Lib.hid (filt_yes (p := highF hh) HE.out (by unfold highF; rw [← EK.out]; exact decide_eq_true gt))
              clear gt
              as_aux_lemma =>
                go_wp2_with (first
                  | (go_at_call 30; (with_reducible refine (CE.out _).mono ?_); rintro e' w' ⟨rfl, rfl⟩)
                  | (go_at_call 33; (with_reducible refine (CHE.out _).mono ?_); rintro e' w' ⟨rfl, rfl⟩)
                  | (refine wpList_load_mid rfl 61 (.tmp 113) rfl b (off + j * 33) (by rfl) (encE e) _ DR.out Tryd.underlying61 rfl (by rw [encE_len SS.out.1]; exact sizOne) ?_)
                  | (refine wpList_oneB Tryd.underlying56 infoOne rfl (by decide) (by decide) rfl (.tmp 114) rfl (encE e) (by rfl) (encE_len SS.out.1) ?_)
                  | (at_builtin; refine wpList_appendB Tryd.underlying56 infoOne rfl (by decide) rfl (.tmp 107) (.tmp 115) rfl W.heap.size _ (A ++ (L.take j).filter (highF hh)) e wr.heap.size 1 (by rfl) (HO2.out.keeps ((Keeps.refl _).alloc _)) (by rfl) (encE_len SS.out.1) (encE_one e) (range_new wr _ _) (by have := FEW.out; omega) (by have := FEW.out; unfold maxLen; omega) ((HK.out.alloc _).size) ?_))
                intro v4 w4 ho4 hb4 hg4
                have O4 := Lib.hid (show OwnB encE 33 61 w4 W.heap.size v4 (A ++ (L.take (j + 1)).filter (highF hh)) by rw [NX.out]; first | exact ho4 | (rw [← List.append_assoc]; exact ho4))
                have K4 := Lib.hid (show Keeps W w4 from Below.trans (HK.out.alloc _) hb4)
                clear ho4 hb4 hg4
                go_wp2_with fail
                go_roundw
                case rel => exact ⟨j + 1, BI.out, by go_num, O4.out, K4.out⟩
                case measure =>
                  have := BI.out
                  simp [intOf] <;> omega
            · have t1 : ¬ (hh : Int) < (k : Int) := by omega
              have t2 : (k : Int) ≤ (hh : Int) := by omega
              have t3 : decide ((hh : Int) < (k : Int)) = false := decide_eq_false t1
              have t4 : decide (hh < k) = false := decide_eq_false gt
              have NX := Lib.hid (filt_no (p := highF hh) HE.out (by unfold highF; rw [← EK.out]; exact decide_eq_false gt))
              clear gt
              as_aux_lemma =>
                go_wp2_with (first
                  | (go_at_call 30; (with_reducible refine (CE.out _).mono ?_); rintro e' w' ⟨rfl, rfl⟩)
                  | (go_at_call 33; (with_reducible refine (CHE.out _).mono ?_); rintro e' w' ⟨rfl, rfl⟩))
                go_roundw
                case rel => exact ⟨j + 1, BI.out, by go_num, by rw [NX.out]; exact HO2.out, HK.out⟩
                case measure =>
                  have := BI.out
                  simp [intOf] <;> omega
          · obtain rfl : j = L.length := by omega
            have O5 := Lib.hid (show OwnB encE 33 61 wr W.heap.size (.slice yo yn yc) (addL L n x) by
              have := HO2.out
              rw [List.take_length, EA.out, List.append_assoc] at this
              unfold addL
              rw [← EHH.out]
              exact this)
            have i1 : ¬ (L.length : Int) < (L.length : Int) := Int.lt_irrefl _
            have hgr : wr.heap[g]? = some (.cells #[.int .i64 (n : Int), .slice ao L.length cap] 58 (0, 0)) := (Below.block hk g GS.out).trans HG.out
            have FIN := Lib.hid (std_put hgr (K0.out.trans hk) SG.out SB0.out O5.out K0.out.size (good_add GD.out HN.out HX.out OKY.out))
            have e1 : ((n + 1 : Nat) : Int) = (n : Int) + 1 := by omega
            rw [e1] at FIN
            have f0 : wr.frozen? ⟨g, 0, none⟩ = false := by simp [World.frozen?, hgr]
            have f1 : wr.frozen? ⟨g, 1, none⟩ = false := by simp [World.frozen?, hgr]
            obtain ⟨c0, _⟩ := std_cells hgr
            clear hgr hk hj hown hge
            as_aux_lemma =>
              go_wp2_with fail
              go_ret
              rw [(addE_good HN.out OKY.out).1, (addE_good HN.out OKY.out).2.1, (addE_good HN.out OKY.out).2.2]
              exact ⟨rfl, FIN.out⟩
/-- The document's own Add. -/
theorem ref10_add (S : Nat → Prop) (v : Value) (n : Nat) (L : KeptL) (no : Int) (x : List Nat) (w : World) (h : StD w v S n L) (hx : Sum32 x) (h0 : -9223372036854775808 ≤ no) (h1 : no ≤ 9223372036854775807) :
    Calls Tryd.prog 14 #[v, .int .i64 no, .agg (vals8 x).toArray] w (fun e w' => e = .returned (.int .i64 (addE n L no x : Int)) ∧ Mut S w w' ∧ ∃ S', StD w' v S' (addN n L no x) (addK n L no x) ∧ ∀ i, S' i → S i ∨ w.heap.size ≤ i) := by
  by_cases g : no = (n : Int) ∧ n < 1048576
  · obtain ⟨rfl, g2⟩ := g
    exact ref10_add_in S v n L x w h hx g2
  · exact ref10_add_arg S v n L no x w h hx h0 h1 g
end Go.Proofs.YtckikgfckihniaaDoor
/- The document's own store: its bytes. -/
namespace Go.Proofs.YtckikgfckihniaaDoor
open Go.RowKit Go.HashMath Go.CodeMath

theorem own8_low {w : World} {B B' : Nat} {v : Value} {xs : List Nat} (h : Own8 w B v xs) (hB : B' ≤ B) : Own8 w B' v xs := by
  obtain ⟨⟨h1, h2⟩, h3⟩ := h
  refine ⟨⟨h1, ?_⟩, h3⟩
  rcases h2 with h2 | ⟨g, cap, cur, e, hg0, hr⟩
  · exact Or.inl h2
  · exact Or.inr ⟨g, cap, cur, e, Nat.le_trans hB hg0, hr⟩
theorem wpList_load_smO {ops : Array Oper} {rest : List Oper} {op : Oper} {a : Act} {Q : Exit → Act → World → Prop} {w : World} {G o : Nat} {L : List Nat} (hgd : op.guard = none) (x : Operand) (ho : op.op = .load 23 x) (hx : a.eval x = .pointer (some ⟨G, o, none⟩))
    (hA : w.rangeAt G o (vals8 L)) (hl : L.length = 32) (h : wpList Tryd.prog ops Q rest (a.put op.dst (.agg (vals8 L).toArray)) w) : wpList Tryd.prog ops Q (op :: rest) a w :=
  wpList_load_mid hgd 23 x ho G o hx (vals8 L) _ hA undSum rfl (by rw [show (vals8 L).length = 32 by rw [vals8, List.length_map, hl]]; exact sizSum) h
theorem sums_more {L : KeptL} {i : Nat} {e : Nat × List Nat} (h : L[i]? = some e) : sumsL (L.take (i + 1)) = sumsL (L.take i) ++ e.2 := by
  unfold sumsL
  rw [List.take_add_one, h, Option.toList_some, List.map_append, List.flatten_append]
  simp
def BytesAt (w0 : World) (n : Nat) (L : KeptL) (su si : Value) (wr : World) : Prop := ∃ i : Nat, i ≤ L.length ∧ si = .int .i64 (i : Int) ∧ Own8 wr w0.heap.size su (row n ++ sumsL (L.take i)) ∧ Keeps w0 wr
/-- Few that are kept, whatever they are. -/
structure Few (n : Nat) (L : KeptL) : Prop where
  up : n ≤ 1048576
  few : L.length ≤ 21
  sums : ∀ e ∈ L, Sum32 e.2
def StR (w : World) (v : Value) (n : Nat) (L : KeptL) : Prop := ∃ g row, v = .pointer (some ⟨g, 0, none⟩) ∧ w.heap[g]? = some (.cells #[.int .i64 (n : Int), row] 58 (0, 0)) ∧ OwnB encE 33 61 w 0 row L ∧ Few n L
set_option maxHeartbeats 2000000 in
theorem ref10_bytes_few (v : Value) (n : Nat) (L : KeptL) (w : World) (h : StR w v n L) : Calls Tryd.prog 24 #[v] w (GivesO w (bytesL n L)) := by
  obtain ⟨g, row0, rfl, hg, ho, hG⟩ := h
  have GD := Lib.hid hG
  have GS := Lib.hid (lt_of_block hg)
  have HO := Lib.hid ho.holds
  obtain ⟨ao, len, cap, rfl, hl, _⟩ := HO.out
  have HL := Lib.hid hl
  obtain ⟨c0, c1⟩ := std_cells hg
  have PU := Lib.hid (fun w => show Calls Tryd.prog 51 #[.slice none 0 0, .int .i64 (n : Int)] w (GivesO w (row n)) from by
    have q := ref8_put (.slice none 0 0) [] (n : Int) w (Holds8.nil w) (by decide) (by omega) (by have := GD.out.up; omega)
    rwa [show [] ++ putN (n : Int) = row n by unfold putN; rw [if_pos (by omega), Int.toNat_natCast]; rfl] at q)
  clear hG ho hg hl
  go_enter Tryd.func24, Tryd.ntmps24
  go_wp2_with (go_at_call 51; (with_reducible refine (PU.out _).mono ?_); rintro e w1 ⟨u, rfl, hu, hk⟩)
  have c1k := Lib.hid c1
  have HU := Lib.hid hu
  have HK1 := Lib.hid hk
  clear c0 c1 hu hk
  go_loopw [3, 4] (fun su si wr => BytesAt w n L su si wr) (fun _ si _ => L.length - (intOf si).toNat)
  case atStart => exact ⟨0, Nat.zero_le _, rfl, by rw [List.take_zero, show sumsL [] = [] from rfl, List.append_nil]; exact HU.out, HK1.out⟩
  case round =>
    clear HU
    obtain ⟨i, hi, rfl, hB, hk⟩ := hrel
    have HB := Lib.hid hB
    have HK := Lib.hid hk
    have c1 : wr.cell? ⟨g, 1, none⟩ = some (.slice ao len cap) := (hk.cell GS.out).trans c1k.out
    have i2 : (i : Int) ≤ 100 := by have := GD.out.few; omega
    have i0 : (0 : Int) ≤ (i : Int) := by omega
    rcases Nat.lt_or_ge i L.length with hlt | hge
    · have BI := Lib.hid hlt
      obtain ⟨e, he⟩ : ∃ e, L[i]? = some e := ⟨L[i]'hlt, List.getElem?_eq_getElem hlt⟩
      obtain ⟨b, off, n2, c2, ev, hln, hbs, hr⟩ := (HO.out.keeps hk).at he
      obtain ⟨rfl, rfl, rfl⟩ : ao = some ⟨b, off, none⟩ ∧ len = n2 ∧ cap = c2 := by simpa using ev
      have DR := Lib.hid (encE_at hr).2
      have i1 : (i : Int) < (len : Int) := by have := HL.out; omega
      have SE := Lib.hid (GD.out.sums e (List.mem_of_getElem? he))
      have MO := Lib.hid (sums_more he)
      have PH := Lib.hid (ref8_puth u3 (row n ++ sumsL (L.take i)) e.2 wr hB.holds (by
        rw [List.length_append, sums_len fun f hf => GD.out.sums f (List.mem_of_mem_take hf), List.length_take]
        have := row_len9 (n := n) (by have := GD.out.up; omega)
        have := GD.out.few
        omega) SE.out)
      clear hr hB hk hi hln ev hlt
      go_wp2_with (first
        | (refine wpList_load_smO (L := e.2) (by rfl) _ (by rfl) (by rfl) DR.out SE.out.1 ?_)
        | (go_at_call 52; (with_reducible refine PH.out.mono ?_); rintro e' w2 ⟨u2, rfl, hu2, hk2⟩))
      go_roundw
      case rel => exact ⟨i + 1, BI.out, by go_num, by rw [MO.out, ← List.append_assoc]; exact own8_low hu2 HK.out.size, HK.out.trans hk2⟩
      case measure =>
        have := BI.out
        simp [intOf] <;> omega
    · obtain rfl : i = L.length := by omega
      have i1 : ¬ ((L.length : Nat) : Int) < (len : Int) := by have := HL.out; omega
      have HB := Lib.hid (show Own8 wr w.heap.size u3 (bytesL n L) from by have q := HB.out; rw [List.take_length] at q; exact q)
      clear hB hk hi hge
      go_wp2_with fail
      go_ret
      exact ⟨_, rfl, HB.out, HK.out⟩
theorem ref10_bytes (S : Nat → Prop) (v : Value) (n : Nat) (L : KeptL) (w : World) (h : StD w v S n L) : Calls Tryd.prog 24 #[v] w (GivesO w (bytesL n L)) := by
  obtain ⟨g, row, e, hg, ho, hG, _⟩ := h
  exact ref10_bytes_few v n L w ⟨g, row, e, hg, ho, hG.up, few_kept hG, hG.sums⟩
end Go.Proofs.YtckikgfckihniaaDoor
/- The document's own Read: the region that reads the next sum and lays it behind the row, by stages. -/
namespace Go.Proofs.YtckikgfckihniaaDoor
open Go.RowKit Go.HashMath Go.CodeMath

theorem Mut.grown10 {w w' : World} {ob : Option Nat} (h : w.grownBy w' ob) : Mut (fun j => some j = ob) w w' := by
  obtain ⟨a, b, c, d, e⟩ := h
  first
    | exact ⟨a, b, c, d, fun k hk hn => e k hk hn⟩
    | exact ⟨b, a, c, d, fun k hk hn => e k hk hn⟩
    | exact ⟨c, a, b, d, fun k hk hn => e k hk hn⟩
section
variable {α : Type} {enc : α → List Value} {sz : Nat} {P : Program} {S T : TypeId} {w w' : World} {B : Nat} {v : Value} {l : List α}
theorem OwnB.mutOff10 {U : Nat → Prop} (h : OwnB enc sz T w B v l) (k : Mut U w w') (ha : ∀ j, U j → some j ≠ v.ownBlock) : OwnB enc sz T w' B v l := by
  obtain ⟨⟨h1, h2⟩, h3⟩ := h
  refine ⟨⟨h1, ?_⟩, h3⟩
  rcases h2 with h2 | ⟨g, cap, cur, e, hb, hg, hr⟩
  · exact Or.inl h2
  · refine Or.inr ⟨g, cap, cur, e, hb, (k.block g (lt_of_block hg) fun q => ha g q ?_).trans hg, hr⟩
    rw [e]; rfl
theorem OwnB.own_lt10 (h : OwnB enc sz T w B v l) {j : Nat} (e : v.ownBlock = some j) : B ≤ j ∧ j < w.heap.size := by
  rcases h.block with q | ⟨g, c, q, h1, h2⟩
  · rw [q] at e; cases e
  · rw [q] at e; cases e; exact ⟨h1, h2⟩
theorem wp_append10 {o : Oper} {a : Act} {K : Act → World → Prop} {Q : Exit → Act → World → Prop} {by8 : Nat} {z : Value} (hu : P.underlying S = some (.slice T)) (hi : (P.info? T).map (fun i => (i.zero, i.size, i.bytes)) = some (some z, sz, by8)) (hz : z.cells.size = sz) (hsz : 0 < sz)
    (s x : Operand) (ho : o.op = .call { callee := .builtin .append, args := #[s, x], argTypes := #[S, S] })
    (B : Nat) (v : Value) (l : List α) (p : α) (g c : Nat) (hs : a.eval s = v) (hown : OwnB enc sz T w B v l) (hx : a.eval x = .slice (some ⟨g, 0, none⟩) 1 c) (hp : (enc p).length = sz) (h1 : ∀ u ∈ enc p, u.oneCell' = true) (hr : w.rangeAt g 0 (enc p)) (hl : (l.length + 1) * by8 ≤ 140737488355328) (hm : l.length + 1 ≤ maxLen) (hB : B ≤ w.heap.size)
    (h : ∀ q cap w', OwnB enc sz T w' B (.slice (some ⟨q, 0, none⟩) (l.length + 1) cap) (l ++ [p]) → w.grownBy w' v.ownBlock → K (a.put o.dst (.slice (some ⟨q, 0, none⟩) (l.length + 1) cap)) w') : o.wp P a w K Q := by
  obtain ⟨i0, hi, hz0, hz1, hz2⟩ := info_parts hi
  obtain ⟨h2, h3⟩ := hown
  refine wp_append_lies _ s x S ho B T i0 z sz by8 hu hi hz0 hz1 hz2 hz hsz v l.length (l.flatMap enc) hs h2 ⟨g, 0, none⟩ 1 c (enc p) hx (by rw [hp, Nat.one_mul]) (fun j y hj => ?_) h1 (by decide) hm hl hB w.heap.size rfl fun q cap w' h4 h5 h6 _ => h q cap w' ⟨?_, ?_⟩ h5
  · have := hr j y hj
    rw [Nat.zero_add] at this
    simpa [Addr.add_mid] using this
  · rw [List.length_append, List.length_singleton, List.flatMap_append, List.flatMap_cons, List.flatMap_nil, List.append_nil]
    exact h4
  · intro y hy
    rcases List.mem_append.1 hy with q | q
    · exact h3 y q
    · rw [List.mem_singleton] at q; rw [q]; exact hp
theorem wp_one10 {o : Oper} {a : Act} {K : Act → World → Prop} {Q : Exit → Act → World → Prop} {by8 : Nat} {z : Value} (hu : P.underlying S = some (.slice T)) (hi : (P.info? T).map (fun i => (i.zero, i.size, i.bytes)) = some (some z, sz, by8)) (hz : z.cells.size = sz) (hsz : 0 < sz) (hsm : sz ≤ 1000)
    (x : Operand) (ho : o.op = .buildSlice S 1 #[(0, x)]) (cs : List Value) (hx : a.eval x = .agg cs.toArray) (hl : cs.length = sz)
    (h : K (a.put o.dst (.slice (some ⟨w.heap.size, 0, none⟩) 1 1)) (w.alloc (.cells cs.toArray T))) : o.wp P a w K Q := by
  obtain ⟨i0, hi, hz0, hz1, hz2⟩ := info_parts hi
  refine wp_buildSlice S T 1 #[(0, x)] ho cs.toArray i0 z hu hi hz0 (by rw [hz1]; omega) (by rw [hz1]; omega) ?_ h
  rw [hz1]
  have f := Go.Great.fill_whole (s := sz) hsz [Value.agg cs.toArray] ((Array.range (1 * sz)).map (z.cells[· % z.cells.size]!)) (fun v hv => by rw [List.mem_singleton] at hv; subst hv; simp [Value.cells, hl]) (by simp)
  have e1 : ((#[(0, x)] : Array (Nat × Operand)).map fun (i, x) => (i, a.eval x)).toList = [(0, Value.agg cs.toArray)] := by simp [hx]
  rw [e1]
  have e2 : ([Value.agg cs.toArray].flatMap fun v => v.cells.toList).toArray = cs.toArray := by simp [Value.cells]
  rw [e2] at f
  exact f
end
theorem wp_build10 {o : Oper} {a : Act} {w : World} {K : Act → World → Prop} {Q : Exit → Act → World → Prop} (p q : Operand) (ho : o.op = .build 61 #[(0, p), (1, q)]) (n : Int) (x : List Nat) (hx : x.length = 32) (hp : a.eval p = .int .i64 n) (hq : a.eval q = .agg (vals8 x).toArray)
    (h : K (a.put o.dst (.agg (Value.int .i64 n :: vals8 x).toArray)) w) : o.wp Tryd.prog a w K Q := by
  have e := built_sum n x hx
  have e2 : Tryd.prog.built 61 ((#[(0, p), (1, q)] : Array (Nat × Operand)).map fun (i, x) => (i, a.eval x)).toList = some (Value.int .i64 n :: vals8 x).toArray := by simpa [hp, hq] using e
  refine wp_build 61 #[(0, p), (1, q)] ho (by rw [e2]; rfl) ?_
  rw [e2]
  exact h
theorem range_of {w : World} {q : Nat} {cs : List Value} {T : TypeId} (h : w.heap[q]? = some (.cells cs.toArray T (0, 0))) : w.rangeAt q 0 cs := fun j v hj => by
  simp only [World.cell?, h, Nat.zero_add]
  simpa using hj
/-- The store's block while the row is laid. -/
def StB (w : World) (g n : Nat) (row : Value) : Prop := w.heap[g]? = some (.cells #[.int .i64 (n : Int), row] 58 (0, 0))
def ComH (w00 : World) (B : Nat) (row : Value) (x : World) : Prop := B ≤ x.heap.size ∧ (∀ j, row.ownBlock = some j → j < x.heap.size) ∧ (∃ a b c, row = .slice a b c) ∧ Keeps w00 x
def ReadH (w00 : World) (T : Nat → Prop) (g B n : Nat) (row r : Value) (K : KeptL) (s s' : St) (e : Nat × List Nat) : Nat → World → Prop
  | 0, x => RdR x r T s ∧ StB x g n row ∧ OwnB encE 33 61 x B row K ∧ ComH w00 B row x
  | 1, x => RdR x r T s' ∧ StB x g n row ∧ OwnB encE 33 61 x B row K ∧ ComH w00 B row x
  | 2, x => RdR x r T s' ∧ StB x g n row ∧ ComH w00 B row x
  | _ + 3, x => RdR x r T s' ∧ (∃ v', StB x g n v' ∧ OwnB encE 33 61 x B v' (K ++ [e])) ∧ ComH w00 B row x
/-- The region's steps: the call, two that are made, append, the store's cell. -/
def f5 : Nat → Nat
  | 0 => 0
  | 1 => 1
  | 2 => 1
  | 3 => 1
  | 4 => 2
  | _ + 5 => 3
def ReadRs (T : Nat → Prop) (g n : Nat) (row : Value) : Nat → World → World → Prop
  | 0, x, y => Mut T x y
  | 1, x, y => Keeps x y
  | 2, x, y => Keeps x y
  | 3, x, y => x.grownBy y row.ownBlock
  | _ + 4, x, y => Wrt g x y ∧ ¬ StB y g n row
section
variable {w00 w w' : World} {T : Nat → Prop} {g B n : Nat} {row r v : Value} {K : KeptL} {s s' : St} {e : Nat × List Nat} {t : Nat}
theorem ComH.keeps (h : ComH w00 B row w) (k : Keeps w w') : ComH w00 B row w' := ⟨Nat.le_trans h.1 k.size, fun j q => Nat.lt_of_lt_of_le (h.2.1 j q) k.size, h.2.2.1, h.2.2.2.trans k⟩
theorem StB.lt (h : StB w g n row) : g < w.heap.size := lt_of_block h
theorem StB.keeps (h : StB w g n row) (k : Keeps w w') : StB w' g n row := (Below.block k g h.lt).trans h
theorem rdr_keeps (RF : RefC) (h : RdR w r T s) (k : Keeps w w') : RdR w' r T s := RF.rlasts T (fun _ => False) _ _ _ _ h (Mut.of k _) (fun _ _ q => q)
theorem read_keeps (RF : RefC) : ∀ (t : Nat) (w w' : World), ReadH w00 T g B n row r K s s' e t w → Keeps w w' → ReadH w00 T g B n row r K s s' e t w'
  | 0, _, _, ⟨h1, h2, h3, h4⟩, k => ⟨rdr_keeps RF h1 k, h2.keeps k, h3.keeps k, h4.keeps k⟩
  | 1, _, _, ⟨h1, h2, h3, h4⟩, k => ⟨rdr_keeps RF h1 k, h2.keeps k, h3.keeps k, h4.keeps k⟩
  | 2, _, _, ⟨h1, h2, h4⟩, k => ⟨rdr_keeps RF h1 k, h2.keeps k, h4.keeps k⟩
  | _ + 3, _, _, ⟨h1, ⟨v', h2, h3⟩, h4⟩, k => ⟨rdr_keeps RF h1 k, ⟨v', h2.keeps k, h3.keeps k⟩, h4.keeps k⟩
theorem read_com : ∀ {t : Nat} {w : World}, ReadH w00 T g B n row r K s s' e t w → ComH w00 B row w
  | 0, _, h => h.2.2.2
  | 1, _, h => h.2.2.2
  | 2, _, h => h.2.2
  | _ + 3, _, h => h.2.2
theorem read_any : ∀ {t : Nat} {w : World}, ReadH w00 T g B n row r K s s' e t w → ∃ a b c, StB w g n (.slice a b c)
  | 0, _, h => by obtain ⟨a, b, c, q⟩ := h.2.2.2.2.2.1; exact ⟨a, b, c, q ▸ h.2.1⟩
  | 1, _, h => by obtain ⟨a, b, c, q⟩ := h.2.2.2.2.2.1; exact ⟨a, b, c, q ▸ h.2.1⟩
  | 2, _, h => by obtain ⟨a, b, c, q⟩ := h.2.2.2.2.1; exact ⟨a, b, c, q ▸ h.2.1⟩
  | _ + 3, _, h => by obtain ⟨v', h2, h3⟩ := h.2.1; obtain ⟨a, b, c, q, _⟩ := h3.holds; exact ⟨a, b, c, q ▸ h2⟩
theorem stb_cell (h : StB w g n row) : w.cell? ⟨g, 1, none⟩ = some row ∧ w.frozen? ⟨g, 1, none⟩ = false := by
  constructor
  · simp [World.cell?, show w.heap[g]? = _ from h]
  · simp [World.frozen?, show w.heap[g]? = _ from h]
theorem stb_row {a b : Value} (h : StB w g n a) (h' : StB w g n b) : a = b := by
  have e := (show w.heap[g]? = _ from h).symm.trans h'
  simpa using e
theorem read_h0 (h : ReadH w00 T g B n row r K s s' e 0 w) : RdR w r T s := h.1
theorem read_h1 (h : ReadH w00 T g B n row r K s s' e 0 w) (hr : RdR w' r T s') (hm : Mut T w w') (hT : ¬ T g) (bT : ∀ i, T i → i < B) (lw : ∀ i, T i → w00.heap.size ≤ i) : ReadH w00 T g B n row r K s s' e 1 w' := by
  obtain ⟨h1, h2, h3, h4, h5, h6, h7⟩ := h
  exact ⟨hr, (hm.block g h2.lt hT).trans h2, h3.mutOff10 hm (fun j q z => by have := (h3.own_lt10 z.symm).1; have := bT j q; omega), Nat.le_trans h4 hm.size, fun j q => Nat.lt_of_lt_of_le (h5 j q) hm.size, h6, Mut.since hm h7 lw⟩
theorem read_h2 (RF : RefC) (h : ReadH w00 T g B n row r K s s' e 1 w) (hg : w.grownBy w' row.ownBlock) (gB : g < B) (bT : ∀ i, T i → i < B) (hB : w00.heap.size ≤ B) : ReadH w00 T g B n row r K s s' e 2 w' := by
  obtain ⟨h1, h2, h3, h4, h5, h6, h7⟩ := h
  have hm := Mut.grown10 hg
  exact ⟨RF.rlasts T _ _ _ _ _ h1 hm (fun i q z => by have := (h3.own_lt10 z.symm).1; have := bT i q; omega), (hm.block g h2.lt (fun z => by have := (h3.own_lt10 z.symm).1; omega)).trans h2, Nat.le_trans h4 hm.size, fun j q => Nat.lt_of_lt_of_le (h5 j q) hm.size, h6, Mut.since hm h7 (fun j z => Nat.le_trans hB (h3.own_lt10 z.symm).1)⟩
theorem read_h3 (RF : RefC) (h : ReadH w00 T g B n row r K s s' e 2 w) (ho : OwnB encE 33 61 w B v (K ++ [e])) (gB : g < B) (hT : ¬ T g) (lg : w00.heap.size ≤ g) : ReadH w00 T g B n row r K s s' e 3 (w.setCell ⟨g, 1, none⟩ v) := by
  obtain ⟨h1, h2, h4, h5, h6, h7⟩ := h
  have hW : Wrt g w (w.setCell ⟨g, 1, none⟩ v) := (Wrt.refl g w).set 1 _
  have hm : Mut (fun i => i = g) w (w.setCell ⟨g, 1, none⟩ v) := Mut.wrt hW rfl
  refine ⟨RF.rlasts T _ _ _ _ _ h1 hm (fun i q z => hT (z ▸ q)), ⟨v, ?_, ho.wrt hW gB⟩, Nat.le_trans h4 hW.size, fun j q => Nat.lt_of_lt_of_le (h5 j q) hW.size, h6, Mut.since hm h7 (fun i z => z ▸ lg)⟩
  have h2 : w.heap[g]? = _ := h2
  simp [StB, World.setCell, Array.getElem?_modify, h2]
theorem read_neq (h : StB w g n row) (ho : OwnB encE 33 61 w' B v (K ++ [e])) (hr : ∃ a c, row = .slice a K.length c) : ¬ StB (w.setCell ⟨g, 1, none⟩ v) g n row := by
  intro q
  have h2 : w.heap[g]? = _ := h
  have q2 : StB (w.setCell ⟨g, 1, none⟩ v) g n v := by simp [StB, World.setCell, Array.getElem?_modify, h2]
  obtain ⟨a, c, rfl⟩ := hr
  obtain ⟨x, m, y, rfl, hl, _⟩ := ho.holds
  have := stb_row q q2
  simp only [Value.slice.injEq] at this
  rw [List.length_append, List.length_singleton] at hl
  omega
end
/-- What is loaded, while the store has its row. -/
def ldA (g n : Nat) (row : Value) : Value → Act → World → Prop := fun v _ w => g < w.heap.size ∧ (∃ a b c, v = .slice a b c) ∧ (StB w g n row → v = row)
def oneA (g : Nat) (row : Value) (cs : List Value) : Value → Act → World → Prop := fun v _ w => ∃ q, v = .slice (some ⟨q, 0, none⟩) 1 1 ∧ w.heap[q]? = some (.cells cs.toArray 61 (0, 0)) ∧ some q ≠ row.ownBlock ∧ q ≠ g
def rowA (g B : Nat) (M : KeptL) : Value → Act → World → Prop := fun v _ w => g < B ∧ OwnB encE 33 61 w B v M ∧ ∃ q m c, v = .slice (some ⟨q, 0, none⟩) m c
section
variable {md : Region.Mode} {l : List Oper} {sp : List Nat} {i : Nat} {T : Nat → Prop} {g B n : Nat} {row : Value}
theorem ld_keeps : Lasts2 Keeps (ldA g n row) := fun v a w w' k ⟨h1, h2, h3⟩ => ⟨Nat.lt_of_lt_of_le h1 (Below.size k), h2, fun q => h3 ((Below.block k g h1).symm.trans q)⟩
theorem ld_last (hT : ¬ T g) (ho : row.ownBlock ≠ some g) : Last3 md l sp (ReadRs T g n row) i (ldA g n row) := Or.inr ⟨ld_keeps, fun k _ _ => by
  match k with
  | 0 => exact fun v a w w' m ⟨h1, h2, h3⟩ => ⟨Nat.lt_of_lt_of_le h1 (Mut.size m), h2, fun q => h3 ((Mut.block m g h1 hT).symm.trans q)⟩
  | 1 => exact ld_keeps
  | 2 => exact ld_keeps
  | 3 => exact fun v a w w' m ⟨h1, h2, h3⟩ => ⟨Nat.lt_of_lt_of_le h1 (Mut.grown10 m).size, h2, fun q => h3 (((Mut.grown10 m).block g h1 (fun z => ho z.symm)).symm.trans q)⟩
  | _ + 4 => exact fun v a w w' m ⟨h1, h2, h3⟩ => ⟨Nat.lt_of_lt_of_le h1 m.1.size, h2, fun q => absurd q m.2⟩⟩
theorem one_last (cs : List Value) (hb : Nat.ble 3 (birthOf md l i sp 0) = true) : Last3 md l sp (ReadRs T g n row) i (oneA g row cs) := Or.inr ⟨fun v a w w' k ⟨q, h1, h2, h3⟩ => ⟨q, h1, (Below.block k q (lt_of_block h2)).trans h2, h3⟩, fun k h1 _ => by
  have := Nat.le_of_ble_eq_true hb
  match k, h1 with
  | 0, h => exact absurd h (by omega)
  | 1, h => exact absurd h (by omega)
  | 2, h => exact absurd h (by omega)
  | 3, _ => exact fun v a w w' m ⟨q, h1, h2, h3⟩ => ⟨q, h1, ((Mut.grown10 m).block q (lt_of_block h2) h3.1).trans h2, h3⟩
  | _ + 4, _ => exact fun v a w w' m ⟨q, h1, h2, h3⟩ => ⟨q, h1, (m.1.block q (lt_of_block h2) h3.2).trans h2, h3⟩⟩
theorem row_last (M : KeptL) (hb : Nat.ble 4 (birthOf md l i sp 0) = true) : Last3 md l sp (ReadRs T g n row) i (rowA g B M) := Or.inr ⟨fun v a w w' k ⟨h1, h2, h3⟩ => ⟨h1, h2.keeps k, h3⟩, fun k h1 _ => by
  have := Nat.le_of_ble_eq_true hb
  match k, h1 with
  | 0, h => exact absurd h (by omega)
  | 1, h => exact absurd h (by omega)
  | 2, h => exact absurd h (by omega)
  | 3, h => exact absurd h (by omega)
  | _ + 4, _ => exact fun v a w w' m ⟨h1, h2, h3⟩ => ⟨h1, h2.wrt m.1 h1, h3⟩⟩
end
end Go.Proofs.YtckikgfckihniaaDoor
/- The document's own: the last number of a height. -/
namespace Go.Proofs.YtckikgfckihniaaDoor
open Go.RowKit Go.HashMath Go.CodeMath

theorem last_near {n h : Nat} (hn : n ≤ 1048576) : ∀ (d k : Nat), d = n - k → k < n → hgtN k = h → ∃ k', k' < n ∧ hgtN k' = h ∧ n ≤ k' + 2 ^ (h + 2) := by
  intro d
  induction d using Nat.strongRecOn with
  | _ d ih =>
    intro k hd hk e
    have t0 : 0 < 2 ^ h := Nat.two_pow_pos h
    have t2 : 2 ^ (h + 2) = 4 * 2 ^ h := by rw [Nat.pow_add]; omega
    by_cases g : n ≤ k + 2 ^ (h + 2)
    · exact ⟨k, hk, e, g⟩
    · have h20 : h < 20 := by
        have := hgt_le (plc k)
        have e' : hgt (plc k) = h := e
        rcases Nat.lt_or_ge h 20 with q | q
        · exact q
        · exfalso
          have : 2 ^ 20 ≤ 2 ^ h := Nat.pow_le_pow_right (by decide) q
          have : (2 : Nat) ^ 20 = 1048576 := by decide
          omega
      obtain ⟨a, ha⟩ := hgt_form (p := plc k) e h20
      have hp : plc k = 1048575 - k := rfl
      refine ih (n - (k + 2 * 2 ^ h)) (by omega) (k + 2 * 2 ^ h) rfl (by omega) ?_
      have ha1 : 1 ≤ a := by
        rcases Nat.eq_zero_or_pos a with q | q
        · exfalso
          rw [q, Nat.mul_zero, Nat.zero_add, Nat.mul_one] at ha
          omega
        · exact q
      obtain ⟨b, rfl⟩ : ∃ b, a = b + 1 := ⟨a - 1, by omega⟩
      have hq : plc (k + 2 * 2 ^ h) = 2 ^ h * (2 * b + 1) := by
        have hp2 : plc (k + 2 * 2 ^ h) = 1048575 - (k + 2 * 2 ^ h) := rfl
        have : 2 ^ h * (2 * (b + 1) + 1) = 2 ^ h * (2 * b + 1) + 2 * 2 ^ h := by
          rw [show 2 * (b + 1) + 1 = (2 * b + 1) + 2 by omega, Nat.mul_add]; omega
        omega
      show hgt (plc (k + 2 * 2 ^ h)) = h
      rw [hq]
      exact hgt_of_form h20
def LastR (n h : Nat) (r : Int) : Prop := (∃ k : Nat, r = (k : Int) ∧ IsLast n h k) ∨ (r = -1 ∧ ∀ k, k < n → hgtN k ≠ h)
def LastAt (w : World) (n h : Nat) (sno : Value) (wr : World) : Prop := ∃ m : Nat, m ≤ n ∧ sno = .int .i64 ((m : Int) - 1) ∧ (∀ k, m ≤ k → k < n → hgtN k ≠ h) ∧ w = wr
set_option maxHeartbeats 1000000 in
theorem ref10_last (n h : Nat) (hn : n ≤ 1048576) (hh : h ≤ 20) (w : World) : Calls Tryd.prog 46 #[.int .i64 (n : Int), .int .i64 (h : Int)] w (fun e w' => (∃ r, e = .returned (.int .i64 r) ∧ LastR n h r) ∧ w = w') := by
  have HN := Lib.hid hn
  have HH := Lib.hid hh
  have n0 : (0 : Int) ≤ (n : Int) := by omega
  have n1 : (n : Int) ≤ 1048576 := by omega
  obtain ⟨s, es⟩ : ∃ s, s = h + 2 := ⟨_, rfl⟩
  have s1 : (h : Int) + 2 = (s : Int) := by omega
  have s0 : (0 : Int) ≤ (s : Int) := by omega
  have s2 : (s : Int) ≤ 22 := by omega
  have s3 : ¬ (s : Int) < 0 := by omega
  have s4 : min s 64 = s := by omega
  have ws : IntKind.i64.wrap (s : Int) = (s : Int) := IntWalk.i64_in _ (by omega)
  obtain ⟨t, et⟩ : ∃ t, t = 2 ^ s := ⟨_, rfl⟩
  have e2 : (2 : Int) ^ s = (t : Int) := by rw [et, Int.natCast_pow]; rfl
  have t0 : (0 : Int) ≤ (t : Int) := by omega
  have t1 : (t : Int) ≤ 4194304 := by
    have : (2 : Nat) ^ s ≤ 2 ^ 22 := Nat.pow_le_pow_right (by decide) (by omega)
    have e : (2 : Nat) ^ 22 = 4194304 := by decide
    omega
  have h0 : (0 : Int) ≤ (h : Int) := by omega
  have h1 : (h : Int) ≤ 20 := by omega
  have NR := Lib.hid (fun (k : Nat) (a : k < n) (b : hgtN k = h) => show ∃ k', k' < n ∧ hgtN k' = h ∧ n ≤ k' + t from by rw [et, es]; exact last_near HN.out _ k rfl a b)
  clear hn hh es et
  go_enter Tryd.func46, Tryd.ntmps46
  go_wp2_with fail
  go_loopw [5] (fun sno wr => LastAt w n h sno wr) (fun sno _ => (intOf sno + 1).toNat)
  case atStart => exact ⟨n, Nat.le_refl _, rfl, fun k a b => absurd b (by omega), rfl⟩
  case round =>
    obtain ⟨m, hm, rfl, hno, rfl⟩ := hrel
    have NO := Lib.hid hno
    cases m with
    | zero =>
      have e0 : ((0 : Nat) : Int) - 1 = -1 := rfl
      rw [e0]
      clear hm hno
      go_wp2_with fail
      go_ret
      exact ⟨⟨-1, rfl, Or.inr ⟨rfl, fun k a => NO.out k (Nat.zero_le _) a⟩⟩, rfl⟩
    | succ m =>
      have e0 : ((m + 1 : Nat) : Int) - 1 = (m : Int) := by omega
      rw [e0]
      have MB := Lib.hid hm
      have m0 : (0 : Int) ≤ (m : Int) := by omega
      have m1 : (m : Int) ≤ 1048575 := by omega
      by_cases gb : (n : Int) - (t : Int) ≤ (m : Int)
      · have CP := Lib.hid (ref10_place m (by omega))
        have CH := Lib.hid (ref10_height (plc m) (by unfold plc; omega))
        by_cases gh : hgt (plc m) = h
        · have GH := Lib.hid gh
          rw [gh] at CH
          clear gh hm hno
          go_wp2_with (first
            | (go_at_call 30; (with_reducible refine (CP.out _).mono ?_); rintro e w' ⟨rfl, rfl⟩)
            | (go_at_call 33; (with_reducible refine (CH.out _).mono ?_); rintro e w' ⟨rfl, rfl⟩))
          go_ret
          exact ⟨⟨_, rfl, Or.inl ⟨m, rfl, by have := MB.out; omega, GH.out, fun k a b => NO.out k a b⟩⟩, rfl⟩
        · have GH := Lib.hid gh
          have gi : ¬ ((hgt (plc m) : Nat) : Int) = (h : Int) := by omega
          clear gh hm hno
          go_wp2_with (first
            | (go_at_call 30; (with_reducible refine (CP.out _).mono ?_); rintro e w' ⟨rfl, rfl⟩)
            | (go_at_call 33; (with_reducible refine (CH.out _).mono ?_); rintro e w' ⟨rfl, rfl⟩))
          go_roundw
          case rel => exact ⟨m, by have := MB.out; omega, by go_num, fun k a b => by
            rcases Nat.lt_or_ge m k with q | q
            · exact NO.out k q b
            · obtain rfl : k = m := by omega
              exact GH.out, rfl⟩
          case measure => simp [intOf] <;> omega
      · have GB := Lib.hid gb
        clear hm hno
        go_wp2_with fail
        go_ret
        exact ⟨⟨-1, rfl, Or.inr ⟨rfl, fun k a b => by
          obtain ⟨k', q1, q2, q3⟩ := NR.out k a b
          exact NO.out k' (by have := GB.out; omega) q1 q2⟩⟩, rfl⟩
end Go.Proofs.YtckikgfckihniaaDoor
