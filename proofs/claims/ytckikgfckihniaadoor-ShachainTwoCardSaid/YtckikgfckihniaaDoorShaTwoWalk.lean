/- The walk of the law ShachainTwo: the Go text answers true, whatever the secrets. -/
import Derived.Deep.AppendLies
import Derived.StillTailTactics
import Derived.Test.YtckikgfckihniaaDoorShaSmall
import Derived.Test.YtckikgfckihniaaDoorRowB
set_option linter.unusedVariables false
set_option linter.unusedSimpArgs false
set_option maxRecDepth 10000
namespace Go.Proofs.YtckikgfckihniaaDoor
open Go.RowKit Go.HashMath Go.CodeMath

section
variable {α : Type} {enc : α → List Value} {sz : Nat} {P : Program} {S T : TypeId} {w w' : World} {B : Nat} {v : Value} {l : List α}
/-- append(row of the call's own, an element), and where the new row lies. -/
theorem wpList_appendL {ops : Array Oper} {rest : List Oper} {o : Oper} {a : Act} {Q : Exit → Act → World → Prop} {by8 : Nat} {z : Value} (hu : P.underlying S = some (.slice T)) (hi : (P.info? T).map (fun i => (i.zero, i.size, i.bytes)) = some (some z, sz, by8)) (hz : z.cells.size = sz) (hsz : 0 < sz)
    (hgd : o.guard = none) (s x : Operand) (ho : o.op = .call { callee := .builtin .append, args := #[s, x], argTypes := #[S, S] })
    (B : Nat) (v : Value) (l : List α) (p : α) (g c : Nat) (hs : a.eval s = v) (hown : OwnB enc sz T w B v l) (hx : a.eval x = .slice (some ⟨g, 0, none⟩) 1 c) (hp : (enc p).length = sz) (h1 : ∀ u ∈ enc p, u.oneCell' = true) (hr : w.rangeAt g 0 (enc p)) (hl : (l.length + 1) * by8 ≤ 140737488355328) (hm : l.length + 1 ≤ maxLen) (hB : B ≤ w.heap.size)
    (h : ∀ q cap w', OwnB enc sz T w' B (.slice (some ⟨q, 0, none⟩) (l.length + 1) cap) (l ++ [p]) → w.grownBy w' v.ownBlock → (v.ownBlock = some q ∨ q = w.heap.size) → wpList P ops Q rest (a.put o.dst (.slice (some ⟨q, 0, none⟩) (l.length + 1) cap)) w') : wpList P ops Q (o :: rest) a w := by
  obtain ⟨i0, hi, hz0, hz1, hz2⟩ := info_parts hi
  obtain ⟨h2, h3⟩ := hown
  refine wpList_append_lies _ hgd s x S ho B T i0 z sz by8 hu hi hz0 hz1 hz2 hz hsz v l.length (l.flatMap enc) hs h2 ⟨g, 0, none⟩ 1 c (enc p) hx (by rw [hp, Nat.one_mul]) (fun j y hj => ?_) h1 (by decide) hm hl hB w.heap.size rfl fun q cap w' h4 h5 h6 _ => h q cap w' ⟨?_, ?_⟩ h5 h6
  · have := hr j y hj
    rw [Nat.zero_add] at this
    simpa [Addr.add_mid] using this
  · rw [List.length_append, List.length_singleton, List.flatMap_append, List.flatMap_cons, List.flatMap_nil, List.append_nil]
    exact h4
  · intro y hy
    rcases List.mem_append.1 hy with q | q
    · exact h3 y q
    · rw [List.mem_singleton] at q; rw [q]; exact hp
theorem OwnB.mutOff {U : Nat → Prop} (h : OwnB enc sz T w B v l) (k : Mut U w w') (ha : ∀ j, U j → some j ≠ v.ownBlock) : OwnB enc sz T w' B v l := by
  obtain ⟨⟨h1, h2⟩, h3⟩ := h
  refine ⟨⟨h1, ?_⟩, h3⟩
  rcases h2 with h2 | ⟨g, cap, cur, e, hb, hg, hr⟩
  · exact Or.inl h2
  · refine Or.inr ⟨g, cap, cur, e, hb, (k.block g (lt_of_block hg) fun q => ha g q ?_).trans hg, hr⟩
    rw [e]; rfl
theorem OwnB.own_lt (h : OwnB enc sz T w B v l) {j : Nat} (e : v.ownBlock = some j) : B ≤ j ∧ j < w.heap.size := by
  rcases h.block with q | ⟨g, c, q, h1, h2⟩
  · rw [q] at e; cases e
  · rw [q] at e; cases e; exact ⟨h1, h2⟩
end
theorem Mut.grown {w w' : World} {ob : Option Nat} (h : w.grownBy w' ob) : Mut (fun j => some j = ob) w w' := by
  obtain ⟨a, b, c, d, e⟩ := h
  first
    | exact ⟨a, b, c, d, fun k hk hn => e k hk hn⟩
    | exact ⟨b, a, c, d, fun k hk hn => e k hk hn⟩
    | exact ⟨c, a, b, d, fun k hk hn => e k hk hn⟩
theorem infoSum : (Tryd.prog.info? 23).map (fun i => (i.zero, i.size, i.bytes)) = some (some (.agg (vals8 (List.replicate 32 0)).toArray), 32, 32) := by kernel_rfl
theorem two_cells {x : List Nat} (h : Sum32 x) : (vals8 x).length = 32 ∧ ∀ u ∈ vals8 x, u.oneCell' = true := ⟨by rw [vals8, List.length_map]; exact h.1, fun u hu => by obtain ⟨y, _, rfl⟩ := List.mem_map.1 hu; rfl⟩
theorem range_new2 (w : World) (cs : List Value) (T : TypeId) : (w.alloc (.cells cs.toArray T)).rangeAt w.heap.size 0 cs := fun j v hj => by
  simp only [World.cell?, heap_alloc_new w (.cells cs.toArray T), Nat.zero_add]
  simpa using hj
/-- So far: those of the secrets that were added are kept. -/
def TwoAt (St : World → Value → (Nat → Prop) → Nat → KeptL → Prop) (W : World) (v : Value) (l : List (List Nat)) (sk si : Value) (wr : World) : Prop := ∃ (i : Nat) (M : List (List Nat)) (S : Nat → Prop) (Lk : KeptL), i ≤ l.length ∧ M.length ≤ i ∧ si = .int .i64 (i : Int) ∧ OwnB vals8 32 23 wr W.heap.size sk M ∧ St wr v S M.length Lk ∧ (∀ (j : Nat) (y : List Nat), M[j]? = some y → getL Lk j = y) ∧ (∀ y ∈ M, Sum32 y) ∧ (∀ j, S j → W.heap.size ≤ j) ∧ (∀ j, S j → some j ≠ sk.ownBlock) ∧ Keeps W wr
theorem get_all {n : Nat} {Lk : KeptL} {M : List (List Nat)} {x : List Nat} (g : Good n Lk) (hn : n < 1048576) (hM : M.length = n) (hx : Sum32 x) (ok : addOk Lk n x = true) (h : ∀ (j : Nat) (y : List Nat), M[j]? = some y → getL Lk j = y) : ∀ (j : Nat) (y : List Nat), (M ++ [x])[j]? = some y → getL (addL Lk n x) j = y := by
  have g' := good_add g hn hx ok
  intro j y hj
  by_cases q : j < M.length
  · rw [List.getElem?_append_left q] at hj
    rw [get_add g g' (by omega)]
    exact h j y hj
  · rw [List.getElem?_append_right (by omega)] at hj
    have : j - M.length = 0 := by
      have := (List.getElem?_eq_some_iff.1 hj).1
      simp at this; omega
    rw [this] at hj
    simp only [List.getElem?_cons_zero, Option.some.injEq] at hj
    obtain rfl : j = n := by omega
    rw [← hj]
    exact get_new g'
def LookAt (w : World) (M : List (List Nat)) (si : Value) (wr : World) : Prop := ∃ j : Nat, j ≤ M.length ∧ si = .int .i64 (j : Int) ∧ Keeps w wr
theorem noughts2 (n : Nat) : ∀ x ∈ List.replicate n 0, x < 256 := fun x hx => by have := (List.mem_replicate.1 hx).2; omega
theorem wp_named2 {P : Program} {c : Code} {Q : Exit → Act → World → Prop} {a : Act} {wr : World} {Z cs : Array Value} {T : TypeId} (h : ∀ W z, Keeps wr W → W.heap[z]? = some (.cells cs T (0, 0)) → z = wr.heap.size → c.wp P Q a W) : c.wp P Q a ((wr.alloc (.cells Z T)).setRow wr.heap.size cs) :=
  h _ _ (below_setRow' ((Keeps.refl wr).alloc _) (Nat.le_refl _) _) (setRow_heap _ _ _ _ T (0, 0) (heap_alloc_new _ _)) rfl
theorem wpStill_load_sm2 {ops : Array Oper} {rest : List Oper} {op : Oper} {a : Act} {Q : Act → Prop} {w : World} {G o : Nat} {L : List Nat} (hg : Region.wanted op (yielded ops a.tmps) = true) (x : Operand) (ho : op.op = .load 23 x) (hx : a.eval x = .pointer (some ⟨G, o, none⟩))
    (hA : w.rangeAt G o (vals8 L)) (hl : L.length = 32) (h : wpStill Tryd.prog ops w Q rest (a.put op.dst (.agg (vals8 L).toArray))) : wpStill Tryd.prog ops w Q (op :: rest) a := by
  refine wpStill_step fun K hK => ?_
  rw [if_pos hg]
  unfold Oper.still execOp
  have e := run_loadVar_mid (P := Tryd.prog) w G o 23 (vals8 L) _ hA undSum rfl (by rw [vals8, List.length_map, hl]; exact sizSum)
  simp only [ho, hx, Instr.loadAt, Instr.sureAddr, Sem.run_bind, Sem.run_pure, Result.andThen_ok, e]
  exact ⟨rfl, hK _ h⟩
set_option maxHeartbeats 4000000 in
set_option maxRecDepth 100000 in
theorem two_walk {R : World → Prop} {St : World → Value → (Nat → Prop) → Nat → KeptL → Prop} (hR : Lasting10 R) (CH : ShaC R St) (Sm : Sum10 R) (v : Value) (l : List (List Nat)) (w : World) (h : HoldsB vals8 32 w v l) (hs : ∀ y ∈ l, Sum32 y) (hw : R w) : Calls Tryd.prog 5 #[v] w fun e w' => e = .returned (.bool true) ∧ Keeps w w' := by
  have RW := Lib.hid (fun w' (q : Keeps w w') => hR w w' hw q)
  have LC := CH.last
  have SM := Lib.hid (sha_small hR CH Sm w hw)
  have HH := Lib.hid h
  have HS := Lib.hid hs
  obtain ⟨ao, len, cap, rfl, hlen, _⟩ := h
  subst hlen
  have CHH := Lib.hid CH
  have LCC := Lib.hid LC
  clear hw hs
  by_cases g60 : l.length ≤ 60
  · have t1 : ¬ (l.length : Int) > 60 := by omega
    have t2 : (l.length : Int) ≤ 60 := by omega
    have G60 := Lib.hid g60
    clear g60
    go_enter Tryd.func5, Tryd.ntmps5
    go_upto_region 7 with (first
      | (go_at_call 8; (with_reducible refine SM.out.mono ?_); rintro e w1 ⟨rfl, hk1⟩; have K1 := Lib.hid hk1; clear hk1)
      | (go_at_call 11; (refine (CHH.out.cnew _ (RW.out _ K1.out)).mono ?_); rintro e w2 ⟨sv, S0, rfl, hst, hk2, hb2⟩; have K2 := Lib.hid (K1.out.trans hk2); have ST0 := Lib.hid hst; have LO0 := Lib.hid (show ∀ j, S0 j → w.heap.size ≤ j from fun j q => Nat.le_trans K1.out.size (hb2 j q)); obtain ⟨gs, rfl⟩ := CHH.out.ssome _ _ _ _ _ hst; clear hst hk2 hb2))
    clear t1
    go_wp2_with fail
    go_loopw [5, 6] (fun sk si wr => TwoAt St w (.pointer (some ⟨gs, 0, none⟩)) l sk si wr) (fun _ si _ => l.length - (intOf si).toNat)
    case atStart => exact ⟨0, [], S0, [], Nat.zero_le _, Nat.le_refl _, rfl, OwnB.nil _ _ _ _ _, ST0.out, (fun j y q => by simp at q), (fun y q => absurd q List.not_mem_nil), LO0.out, (fun j _ q => by cases q), K2.out⟩
    case round =>
      clear ST0 LO0 K2
      obtain ⟨i, M, S, Lk, hi, hMi, rfl, hown, hst, hget, hsum, hlow, hap, hk⟩ := hrel
      have HK := Lib.hid hk
      have HO := Lib.hid hown
      have TS := Lib.hid hst
      have GT := Lib.hid hget
      have HM := Lib.hid hsum
      have LO := Lib.hid hlow
      have AP := Lib.hid hap
      have GD := Lib.hid (LCC.out.good _ _ _ _ _ hst)
      have MI := Lib.hid (show M.length ≤ i ∧ i ≤ l.length from ⟨hMi, hi⟩)
      obtain ⟨ko, kn, kc, rfl, hkl, _⟩ := hown.holds
      subst hkl
      rcases Nat.lt_or_ge i l.length with hlt | hge
      · obtain ⟨x, hx⟩ : ∃ x, l[i]? = some x := ⟨l[i], by simp [hlt]⟩
        obtain ⟨b, off, n2, c2, ev, hln, hbs, hr⟩ := HH.out.at hx
        obtain ⟨rfl, hn2, rfl⟩ : ao = some ⟨b, off, none⟩ ∧ l.length = n2 ∧ cap = c2 := by simpa using ev
        have DR := Lib.hid (fun w' (q : Keeps w w') => show World.rangeAt w' b (off + i * 32) (vals8 x) from fun j u hj => (Below.cell q hbs).trans (hr j u hj))
        have XS := Lib.hid (HS.out x (List.mem_of_getElem? hx))
        have i0 : (0 : Int) ≤ (i : Int) := by omega
        have i1 : (i : Int) < (l.length : Int) := by omega
        have i2 : (i : Int) ≤ 60 := by omega
        have m0 : (0 : Int) ≤ (M.length : Int) := by omega
        have m1 : (M.length : Int) ≤ 60 := by have := MI.out; have := G60.out; omega
        have SX := Lib.hid (show (Tryd.prog.info? 23).map (·.size) = some (vals8 x).length by rw [(two_cells XS.out).1]; exact sizSum)
        have MB := Lib.hid (show M.length < 1048576 ∧ i < l.length by have := MI.out; have := G60.out; omega)
        clear hn2 hln hr hx hown hst hget hsum hlow hap hk hMi hi hlt
        by_cases ok : addOk Lk M.length x = true
        · have EA := Lib.hid (show addE M.length Lk (M.length : Int) x = 0 from addE_yes MB.out.1 ok)
          have OK := Lib.hid ok
          clear ok
          as_aux_lemma =>
            go_upto_region 13 with (first
              | (go_at_call 23; (refine (CHH.out.cbytes _ _ _ _ _ TS.out).mono ?_); rintro e w3 ⟨y, rfl, ho3, hk3⟩; have K3 := Lib.hid (HK.out.trans hk3); have T3 := Lib.hid (LCC.out.keeps TS.out hk3); have O3 := Lib.hid (HO.out.keeps hk3); have cv := run_conv_all ho3.holds; obtain ⟨_, yo, yn, yc, rfl, _⟩ := ho3.holds; clear ho3 hk3)
              | (refine wpList_load_mid rfl 23 (.tmp 36) rfl b (off + i * 32) (by rfl) (vals8 x) _ (DR.out _ K3.out) undSum rfl SX.out ?_)
              | (go_at_call 13; (refine (CHH.out.cadd _ _ _ _ (M.length : Int) _ _ T3.out XS.out (by omega) (by omega) (RW.out _ K3.out)).mono ?_); rintro e w4 ⟨rfl, hm4, S4, hs4, hl4⟩; rw [EA.out]))
            have M4 := Lib.hid (show OwnB vals8 32 23 w4 w.heap.size (.slice ko M.length kc) M from O3.out.mutOff hm4 AP.out)
            have T4 := Lib.hid (show St w4 (.pointer (some ⟨gs, 0, none⟩)) S4 (M.length + 1) (addL Lk M.length x) by
              have q := hs4
              unfold addN addK at q
              rw [EA.out, if_pos rfl, if_pos rfl] at q
              exact q)
            have K4 := Lib.hid (show Keeps w w4 from Mut.since hm4 K3.out LO.out)
            have LO4 := Lib.hid (show ∀ j, S4 j → w.heap.size ≤ j from fun j q => (hl4 j q).elim (LO.out j) (Nat.le_trans K3.out.size))
            have AP4 := Lib.hid (show ∀ j, S4 j → some j ≠ (Value.slice ko M.length kc).ownBlock from fun j q e => (hl4 j q).elim (fun g => AP.out j g e) (fun g => by have := (O3.out.own_lt e.symm).2; omega))
            clear hm4 hs4 hl4 O3 T3 K3 cv
            go_wp2_with (first
              | (refine wpList_load_mid rfl 23 (.tmp 44) rfl b (off + i * 32) (by rfl) (vals8 x) _ (DR.out _ K4.out) undSum rfl SX.out ?_)
              | (refine wpList_oneB Tryd.underlying24 infoSum rfl (by decide) (by decide) rfl (.tmp 45) rfl (vals8 x) (by rfl) (two_cells XS.out).1 ?_)
              | (at_builtin; refine wpList_appendL Tryd.underlying24 infoSum rfl (by decide) rfl (.tmp 41) (.tmp 46) rfl w.heap.size _ M x w4.heap.size 1 (by rfl) (M4.out.keeps ((Keeps.refl _).alloc _)) (by rfl) (two_cells XS.out).1 (two_cells XS.out).2 (range_new2 w4 _ _) (by have := m1; omega) (by have := m1; unfold maxLen; omega) ((K4.out.alloc _).size) ?_; intro q5 c5 w5 ho5 hg5 hq5; have O5 := Lib.hid ho5; have H5 := Lib.hid (Mut.grown hg5); have Q5 := Lib.hid hq5; have T5 := Lib.hid (LCC.out.lasts _ _ _ _ _ _ _ (LCC.out.keeps T4.out ((Keeps.refl _).alloc _)) H5.out (fun j q e => AP4.out j q e)); have BN := Lib.hid (LCC.out.bound _ _ _ _ _ T4.out); have K5 := Lib.hid (show Keeps w w5 from Mut.since H5.out (K4.out.alloc _) (fun j e => (M4.out.own_lt e.symm).1)); have AP5 := Lib.hid (show ∀ j, S4 j → some j ≠ (Value.slice (some ⟨q5, 0, none⟩) (M.length + 1) c5).ownBlock from fun j q e => Q5.out.elim (fun g => AP4.out j q (by rw [g]; exact e)) (fun g => by have h1 := BN.out j q; have h2 : j = q5 := Option.some.inj (show some j = some q5 from e); rw [World.size_alloc] at g; omega)); clear ho5 hg5 hq5)
              | (go_at_call 15; (refine (CHH.out.cnext _ _ _ _ _ T5.out).mono ?_); rintro e w6 ⟨rfl, hk6⟩))
            go_roundw
            case rel => exact ⟨i + 1, M ++ [x], S4, addL Lk M.length x, MB.out.2, by rw [List.length_append]; have := MI.out; simp; omega, by go_num, O5.out.keeps hk6, by rw [List.length_append]; exact LCC.out.keeps T5.out hk6, get_all GD.out MB.out.1 rfl XS.out OK.out GT.out, fun y hy => by
              rcases List.mem_append.1 hy with q | q
              · exact HM.out y q
              · rw [List.mem_singleton] at q; rw [q]; exact XS.out, LO4.out, AP5.out, K5.out.trans hk6⟩
            case measure =>
              have := MB.out
              simp [intOf] <;> omega
        · have EA := Lib.hid (show addE M.length Lk (M.length : Int) x = 23 from by unfold addE; rw [if_pos ⟨rfl, MB.out.1⟩, if_neg ok])
          clear ok
          as_aux_lemma =>
            go_upto_region 13 with (first
              | (go_at_call 23; (refine (CHH.out.cbytes _ _ _ _ _ TS.out).mono ?_); rintro e w3 ⟨y, rfl, ho3, hk3⟩; have K3 := Lib.hid (HK.out.trans hk3); have T3 := Lib.hid (LCC.out.keeps TS.out hk3); have O3 := Lib.hid (HO.out.keeps hk3); have cv := run_conv_all ho3.holds; obtain ⟨_, yo, yn, yc, rfl, _⟩ := ho3.holds; clear ho3 hk3)
              | (refine wpList_load_mid rfl 23 (.tmp 36) rfl b (off + i * 32) (by rfl) (vals8 x) _ (DR.out _ K3.out) undSum rfl SX.out ?_)
              | (go_at_call 13; (refine (CHH.out.cadd _ _ _ _ (M.length : Int) _ _ T3.out XS.out (by omega) (by omega) (RW.out _ K3.out)).mono ?_); rintro e w4 ⟨rfl, hm4, S4, hs4, hl4⟩; rw [EA.out]))
            have M4 := Lib.hid (show OwnB vals8 32 23 w4 w.heap.size (.slice ko M.length kc) M from O3.out.mutOff hm4 AP.out)
            have T4 := Lib.hid (show St w4 (.pointer (some ⟨gs, 0, none⟩)) S4 M.length Lk by
              have q := hs4
              unfold addN addK at q
              rw [EA.out, if_neg (by decide), if_neg (by decide)] at q
              exact q)
            have K4 := Lib.hid (show Keeps w w4 from Mut.since hm4 K3.out LO.out)
            have LO4 := Lib.hid (show ∀ j, S4 j → w.heap.size ≤ j from fun j q => (hl4 j q).elim (LO.out j) (Nat.le_trans K3.out.size))
            have AP4 := Lib.hid (show ∀ j, S4 j → some j ≠ (Value.slice ko M.length kc).ownBlock from fun j q e => (hl4 j q).elim (fun g => AP.out j g e) (fun g => by have := (O3.out.own_lt e.symm).2; omega))
            clear hm4 hs4 hl4 O3 T3 K3 cv
            go_wp2_with (first
              | (go_at_call 23; (refine (CHH.out.cbytes _ _ _ _ _ T4.out).mono ?_); rintro e w5 ⟨y, rfl, ho5, hk5⟩; have K5 := Lib.hid (K4.out.trans hk5); have T5 := Lib.hid (LCC.out.keeps T4.out hk5); have O5 := Lib.hid (M4.out.keeps hk5); have cv5 := run_conv_all ho5.holds; obtain ⟨_, zo, zn, zc, rfl, _⟩ := ho5.holds; clear ho5 hk5)
              | (go_at_call 15; (refine (CHH.out.cnext _ _ _ _ _ T5.out).mono ?_); rintro e w6 ⟨rfl, hk6⟩))
            go_roundw
            case rel => exact ⟨i + 1, M, S4, Lk, MB.out.2, by have := MI.out; omega, by go_num, O5.out.keeps hk6, LCC.out.keeps T5.out hk6, GT.out, HM.out, LO4.out, AP4.out, K5.out.trans hk6⟩
            case measure =>
              have := MB.out
              simp [intOf] <;> omega
      · obtain rfl : i = l.length := by omega
        have i1 : ¬ (l.length : Int) < (l.length : Int) := Int.lt_irrefl _
        have m0 : (0 : Int) ≤ (M.length : Int) := by omega
        have m1 : (M.length : Int) ≤ 60 := by have := MI.out; have := G60.out; omega
        clear hown hst hget hsum hlow hap hk hMi hi hge
        as_aux_lemma =>
          go_wp2_with fail
          obtain ⟨w0, ew0⟩ : ∃ x, x = wr := ⟨_, rfl⟩
          subst ew0
          go_loopw [9] (fun si wx => LookAt w0 M si wx) (fun si _ => M.length - (intOf si).toNat)
          case atStart => exact ⟨0, Nat.zero_le _, rfl, Keeps.refl _⟩
          case round =>
            obtain ⟨j, hj, rfl, hk⟩ := hrel
            have HX := Lib.hid hk
            rcases Nat.lt_or_ge j M.length with hlt | hge
            · obtain ⟨y, hy⟩ : ∃ y, M[j]? = some y := ⟨M[j], by simp [hlt]⟩
              obtain ⟨b, off, n2, c2, ev, hln, hbs, hr⟩ := (HO.out.holds.keeps hk).at hy
              obtain ⟨rfl, hn2, rfl⟩ : ko = some ⟨b, off, none⟩ ∧ M.length = n2 ∧ kc = c2 := by simpa using ev
              have DR := Lib.hid (fun w' (q : Keeps wr w') => show World.rangeAt w' b (off + j * 32) (vals8 y) from fun k u hu => (Below.cell q hbs).trans (hr k u hu))
              have YS := Lib.hid (HM.out y (List.mem_of_getElem? hy))
              have j0 : (0 : Int) ≤ (j : Int) := by omega
              have j1 : (j : Int) < (M.length : Int) := by omega
              have JB := Lib.hid (show j < M.length from hlt)
              have GC := Lib.hid (show Calls Tryd.prog 19 #[.pointer (some ⟨gs, 0, none⟩), .int .i64 (j : Int)] wr (fun e w' => e = .returned (.tuple #[.agg (vals8 y).toArray, .bool true]) ∧ Keeps wr w') from by
                have z := CHH.out.cget _ _ _ _ (j : Int) wr (LCC.out.keeps TS.out hk) (by omega) (by omega) (RW.out _ (HK.out.trans hk))
                rw [show getV M.length Lk (j : Int) = y from (if_pos ⟨by omega, by omega⟩).trans (by rw [Int.toNat_natCast]; exact GT.out j y hy), show getB M.length (j : Int) = true from decide_eq_true ⟨by omega, by omega⟩] at z
                exact z)
              have EQ := fun W => show (Op.equalIn 10000 23 (.agg (vals8 y).toArray) (.agg (vals8 y).toArray)).run Tryd.prog W = .ok true W from by have z := equal8 YS.out YS.out W; rw [decide_eq_true rfl] at z; exact z
              have EQ := Lib.hid EQ
              clear hn2 hln hr hy hk hj hlt ev
              as_aux_lemma =>
                go_upto_region 23 with (first
                  | (go_at_call 19; (refine GC.out.mono ?_); rintro e w3 ⟨rfl, hk3⟩)
                  | (refine wpList_store_arr (k := .u8) (m := 256) (L := y) sizSum rfl _ _ (by rfl) (List.replicate 32 0) (by rfl) (by rfl) (show ArrN .u8 256 23 (w3.alloc _) w3.heap.size (List.replicate 32 0) from ArrN.new w3 _ (noughts2 32)) (by rw [List.length_replicate]) YS.out.1 ?_))
                refine wp_named2 fun W5 z5 hk5 hb5 ez5 => ?_
                rw [← ez5]
                have K5 := Lib.hid (hk3.trans hk5)
                have AZ := Lib.hid (show ArrN .u8 256 23 W5 z5 y from ⟨YS.out.2, hb5⟩)
                have D5 := Lib.hid (DR.out _ K5.out)
                clear hk3 hk5 hb5 ez5
                have sq := EQ.out
                refine wp_region_still_tail 9 (by kernel_rfl) (by kernel_rfl) ?_
                simp only [List.take_succ_cons, List.take_zero, List.drop_succ_cons, List.drop_zero]
                still_step
                still_step
                still_step
                refine wpStill_load_sm2 (o := 0) (L := y) (by rfl) _ (by rfl) (by rfl) (show World.rangeAt W5.drew z5 0 (vals8 y) from (AZ.out.keeps (Keeps.refl _).drew).range) YS.out.1 ?_
                still_step
                still_step
                still_step
                refine wpStill_load_sm2 (L := y) (by rfl) _ (by rfl) (by rfl) (show World.rangeAt W5.drew b (off + j * 32) (vals8 y) from DR.out _ (K5.out.trans (Keeps.refl _).drew)) YS.out.1 ?_
                still_step
                refine wpStill_nil ?_
                change wpList _ _ _ _ _ W5.drew
                obtain ⟨w6, ed⟩ : ∃ x, x = W5.drew := ⟨_, rfl⟩
                have K6 := Lib.hid (show Keeps w0 w6 from (HX.out.trans K5.out).trans (by rw [ed]; exact (Keeps.refl _).drew))
                rw [← ed]
                clear ed sq
                go_wp2_with fail
                go_roundw
                case rel => exact ⟨j + 1, JB.out, by go_num, K6.out⟩
                case measure =>
                  have := JB.out
                  simp [intOf] <;> omega
            · obtain rfl : j = M.length := by omega
              have j1 : ¬ (M.length : Int) < (M.length : Int) := Int.lt_irrefl _
              have GC := Lib.hid (show Calls Tryd.prog 19 #[.pointer (some ⟨gs, 0, none⟩), .int .i64 (M.length : Int)] wr (fun e w' => e = .returned (.tuple #[.agg (vals8 zero32).toArray, .bool false]) ∧ Keeps wr w') from by
                have z := CHH.out.cget _ _ _ _ (M.length : Int) wr (LCC.out.keeps TS.out hk) (by omega) (by omega) (RW.out _ (HK.out.trans hk))
                rw [show getV M.length Lk (M.length : Int) = zero32 from if_neg (by omega), show getB M.length (M.length : Int) = false from decide_eq_false (by omega)] at z
                exact z)
              clear hk hj hge
              as_aux_lemma =>
                go_upto_region 26 with (first
                  | (go_at_call 19; (refine GC.out.mono ?_); rintro e w3 ⟨rfl, hk3⟩)
                  | (refine wpList_store_arr (k := .u8) (m := 256) (L := zero32) sizSum rfl _ _ (by rfl) (List.replicate 32 0) (by rfl) (by rfl) (show ArrN .u8 256 23 (w3.alloc _) w3.heap.size (List.replicate 32 0) from ArrN.new w3 _ (noughts2 32)) (by rw [List.length_replicate]) zero_sum.1 ?_))
                refine wp_named2 fun W5 z5 hk5 hb5 ez5 => ?_
                rw [← ez5]
                have K5 := Lib.hid (((HK.out.trans HX.out).trans hk3).trans hk5)
                clear hk3 hk5 hb5 ez5
                go_wp2_with fail
                go_ret
                exact ⟨rfl, K5.out⟩
  · have t1 : (l.length : Int) > 60 := by omega
    clear g60
    go_enter Tryd.func5, Tryd.ntmps5
    go_wp2_with (go_at_call 8; (with_reducible refine SM.out.mono ?_); rintro e w1 ⟨rfl, hk1⟩)
    go_ret
    exact ⟨rfl, hk1⟩
end Go.Proofs.YtckikgfckihniaaDoor
