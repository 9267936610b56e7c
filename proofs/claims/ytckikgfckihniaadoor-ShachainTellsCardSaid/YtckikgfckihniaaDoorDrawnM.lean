/- A region that draws its order, and makes and writes variables: an invariant in the place of all orders. -/
import Derived.Test.YtckikgfckihniaaDoorDrawn
import Derived.Test.YtckikgfckihniaaDoorArr
import Derived.Test.YtckikgfckihniaaDoorRow8
set_option linter.unusedVariables false
set_option linter.unusedSimpArgs false
set_option maxRecDepth 10000
namespace Go.Proofs.YtckikgfckihniaaDoor
open Go.RowKit

/-- Does operation i wait for all others? -/
def lastB (md : Region.Mode) (l : List Oper) (i : Nat) : Bool := match l[i]? with
  | none => false
  | some o => (List.range l.length).all fun j => j == i || waits md o j
/-- Slots that are written by operations for which operation i waits. -/
def depsOk (md : Region.Mode) (l : List Oper) (deps : Nat → List Tmp) : Bool := (List.range l.length).all fun i => (deps i).all fun d => (List.range l.length).any fun j => match l[i]?, l[j]? with
  | some o, some oj => waits md o j && oj.dst == some d
  | _, _ => false
theorem depsOk_at {md : Region.Mode} {l : List Oper} {deps : Nat → List Tmp} (h : depsOk md l deps = true) {i : Nat} {o : Oper} (ho : l[i]? = some o) {d : Tmp} (hd : d ∈ deps i) : ∃ j oj, waits md o j = true ∧ l[j]? = some oj ∧ oj.dst = some d := by
  have hi : i < l.length := (List.getElem?_eq_some_iff.1 ho).1
  have h1 := List.all_eq_true.1 h i (List.mem_range.2 hi)
  have h2 := List.all_eq_true.1 h1 d hd
  obtain ⟨j, hj, h3⟩ := List.any_eq_true.1 h2
  rw [ho] at h3
  have hj2 := List.mem_range.1 hj
  rw [List.getElem?_eq_getElem hj2] at h3
  simp only [Bool.and_eq_true, beq_iff_eq] at h3
  exact ⟨j, l[j], h3.1, by simp [hj2], h3.2⟩
def StepOk2 (P : Program) (l : List Oper) (Q : Exit → Act → World → Prop) (md : Region.Mode) (N : Nat) (Fix : Act → Prop) (H : World → Prop) (R : World → World → Prop) (Good : Nat → Value → Act → World → Prop) (i : Nat) (o : Oper) : Prop :=
  ∀ (a : Act) (w : World) (K : Act → World → Prop), a.tmps.size = N → Fix a → H w →
    (∀ j oj, waits md o j = true → l[j]? = some oj → ∃ v, (∀ d, oj.dst = some d → Slot a d v) ∧ Good j v a w) →
    (∀ v w', H w' → R w w' → Good i v (a.put o.dst v) w' → K (a.put o.dst v) w') →
    if Region.wanted o (yielded l.toArray a.tmps) = true then o.wp P a w K Q else K (a.put o.dst undef) w
section
variable {P : Program} {l : List Oper} {Q : Exit → Act → World → Prop} {md : Region.Mode} {N : Nat} {Fix : Act → Prop} {fix : List Tmp} {H : World → Prop} {R : World → World → Prop} {Good : Nat → Value → Act → World → Prop} {deps : Nat → List Tmp}

theorem wpAny_drawn2 (hFix : ∀ (a : Act) (e : Option Tmp) (v : Value), (∀ d, e = some d → d ∉ fix) → Fix a → Fix (a.put e v)) (hst : ∀ i v a w w', lastB md l i = false → R w w' → Good i v a w → Good i v a w')
    (hdep : ∀ i v a a' w, (∀ d ∈ deps i, a'.tmps[d]? = a.tmps[d]?) → Good i v a w → Good i v a' w)
    (hd : dstsOk l N fix = true) (ha : dstsApart l = true) (hw : waitsOk md l 0 = true) (hdp : depsOk md l deps = true) (hs : EachOp (StepOk2 P l Q md N Fix H R Good) l 0)
    (hfin : ∀ (a : Act) (w : World), a.tmps.size = N → Fix a → H w → (∀ i o, l[i]? = some o → ∃ v, (∀ d, o.dst = some d → Slot a d v) ∧ Good i v a w) → Q .normal a w) :
    ∀ (fuel : Nat) (listed : Array Bool) (a : Act) (w : World), listed.size = l.length → listed.toList.count false ≤ fuel → a.tmps.size = N → Fix a → H w →
      (∀ i o, listed.getD i false = true → l[i]? = some o → ∃ v, (∀ d, o.dst = some d → Slot a d v) ∧ Good i v a w) →
      (∀ i o j, listed.getD i false = true → l[i]? = some o → waits md o j = true → listed.getD j false = true) → wpAny P md l.toArray Q fuel listed a w := by
  have all_in : ∀ (listed : Array Bool), Region.ready md l.toArray listed = [] → listed.size = l.length → ∀ i, i < l.length → listed.getD i false = true := by
    intro listed hr hsz i
    induction i using Nat.strongRecOn with
    | _ i ih =>
      intro hi
      cases hg : listed.getD i false with
      | true => rfl
      | false =>
        exfalso
        have hin : i ∈ Region.ready md l.toArray listed := by
          simp only [Region.ready, List.mem_filter, List.mem_range, List.size_toArray]
          refine ⟨hi, ?_⟩
          have hx : listed.getD i true = false := by
            have hi2 : i < listed.size := by omega
            simp only [Array.getD, hi2, dif_pos] at hg ⊢
            exact hg
          have ho : l.toArray[i]? = some l[i] := by simp [hi]
          rw [hx, ho]
          simp only [Bool.not_false, Bool.true_and, Option.map_some, Option.getD_some]
          refine Array.all_eq_true_iff_forall_mem.2 fun e he => ?_
          cases hb : Region.binds md e with
          | false => rfl
          | true =>
            have h1 := waitsOk_at hw i l[i] (by simp [hi]) e he hb
            have h2 := ih e.on (by omega) (by omega)
            simpa using h2
        rw [hr] at hin
        cases hin
  intro fuel
  induction fuel with
  | zero =>
    intro listed a w hsz hc hN hF hH hG _
    have hall : ∀ i, i < l.length → listed.getD i false = true := fun i hi => by
      have hi2 : i < listed.size := by omega
      have h0 : listed.toList.count false = 0 := by omega
      have h1 := List.count_eq_zero.1 h0
      have h2 : listed[i] ∈ listed.toList := by simp
      have h3 : listed[i] ≠ false := fun e => h1 (e ▸ h2)
      simp only [Array.getD, hi2, dif_pos]
      simpa using h3
    refine ⟨?_, hfin a w hN hF hH fun i o ho => hG i o (hall i (List.getElem?_eq_some_iff.1 ho).1) ho⟩
    simp only [Region.ready, List.filter_eq_nil_iff, List.mem_range, List.size_toArray]
    intro i hi
    have := hall i hi
    have hi2 : i < listed.size := by omega
    rw [arr_getD _ _ _ hi2] at this
    rw [arr_getD _ _ _ hi2, this]
    simp
  | succ fuel ih =>
    intro listed a w hsz hc hN hF hH hG hI
    refine ⟨fun hr => hfin a w hN hF hH fun i o ho => hG i o (all_in listed hr hsz i (List.getElem?_eq_some_iff.1 ho).1) ho, fun i hi => ?_⟩
    simp only [Region.ready, List.mem_filter, List.mem_range, List.size_toArray, Bool.and_eq_true, Bool.not_eq_true'] at hi
    obtain ⟨hi1, hi2, hi3⟩ := hi
    have ho : l[i]? = some l[i] := by simp [hi1]
    have ho2 : l.toArray[i]? = some l[i] := by simp [hi1]
    rw [ho2] at hi3
    simp only [Option.map_some, Option.getD_some] at hi3
    have hnot : listed.getD i false = false := by
      have hi4 : i < listed.size := by omega
      simp only [Array.getD, hi4, dif_pos] at hi2 ⊢
      exact hi2
    have hwl : ∀ j, waits md l[i] j = true → listed.getD j false = true := fun j hj => by
      obtain ⟨e, he0, hb⟩ := List.any_eq_true.1 hj
      have he : e ∈ l[i].after := by simpa using he0
      simp only [Bool.and_eq_true, beq_iff_eq] at hb
      have := Array.all_eq_true_iff_forall_mem.1 hi3 e he
      rw [hb.1, hb.2] at this
      simpa using this
    have hdeps : ∀ j oj, waits md l[i] j = true → l[j]? = some oj → ∃ v, (∀ d, oj.dst = some d → Slot a d v) ∧ Good j v a w := fun j oj hj hoj => hG j oj (hwl j hj) hoj
    refine wpOp_step ho2 fun K' hK' => ?_
    have hstep := EachOp.at hs i l[i] ho
    rw [Nat.zero_add] at hstep
    have hlisted : ∀ j, (listed.setIfInBounds i true).getD j false = true ↔ (j = i ∨ listed.getD j false = true) := fun j => by
      have hi4 : i < listed.size := by omega
      by_cases hlt : j < listed.size
      · rw [arr_getD _ _ _ (by simpa using hlt), arr_getD _ _ _ hlt]
        by_cases e : i = j
        · subst e; simp
        · rw [Array.getElem_setIfInBounds_ne hlt e]
          constructor
          · exact Or.inr
          · rintro (h | h)
            · exact absurd h.symm e
            · exact h
      · have : ¬ j = i := by omega
        simp [Array.getD, hlt, this]
    refine hstep a w K' hN hF hH hdeps fun v w' hH' hR hg => hK' _ _ (ih _ _ _ (by simpa using hsz) ?_ (by rw [put_size]; exact hN) (hFix _ _ _ (fun d hdd => (dstsOk_at hd i l[i] d ho hdd).2) hF) hH' ?_ ?_)
    · have hi4 : i < listed.size := by omega
      rw [Array.toList_setIfInBounds, List.count_set (by simpa using hi4)]
      have hx : listed[i] = false := by
        simp only [Array.getD, hi4, dif_pos] at hi2
        exact hi2
      have hpos : 0 < listed.toList.count false := List.count_pos_iff.2 (by rw [← hx]; simp)
      have e1 : (listed.toList[i]'(by simpa using hi4) == false) = true := by rw [Array.getElem_toList, hx]; rfl
      rw [if_pos e1, if_neg (by decide)]
      omega
    · intro j o hj hoj
      rcases (hlisted j).1 hj with e | hj2
      · subst e
        obtain rfl : l[j] = o := Option.some.inj (ho.symm.trans hoj)
        exact ⟨v, fun d hdd => by rw [hdd]; exact Slot.put_same (by rw [hN]; exact (dstsOk_at hd j _ d ho hdd).1) v, hg⟩
      · obtain ⟨u, h1, h2⟩ := hG j o hj2 hoj
        have hne : ¬ j = i := fun e => by rw [e, hnot] at hj2; cases hj2
        refine ⟨u, fun d hdd => (h1 d hdd).put_other (fun x => hne (dstsApart_at ha i j _ _ d ho hoj x hdd).symm) _, ?_⟩
        have hl : lastB md l j = false := by
          cases hb : lastB md l j with
          | false => rfl
          | true =>
            exfalso
            unfold lastB at hb
            rw [hoj] at hb
            have := List.all_eq_true.1 hb i (List.mem_range.2 hi1)
            simp only [Bool.or_eq_true, beq_iff_eq] at this
            rcases this with e | hwt
            · exact hne e.symm
            · have := hI j o i hj2 hoj hwt
              rw [hnot] at this
              cases this
        refine hdep j u a _ w' (fun d hdd => ?_) (hst j u a w w' hl hR h2)
        obtain ⟨j2, oj2, hw2, hoj2, hdst⟩ := depsOk_at hdp hoj hdd
        have hj3 := hI j o j2 hj2 hoj hw2
        have hne2 : ¬ j2 = i := fun e => by rw [e, hnot] at hj3; cases hj3
        have hx : l[i].dst ≠ some d := fun x => hne2 (dstsApart_at ha i j2 _ _ d ho hoj2 x hdst).symm
        unfold Act.put
        cases hdo : l[i].dst with
        | none => rfl
        | some e =>
          simp only [Array.getElem?_setIfInBounds]
          rw [if_neg]
          intro e2
          rw [e2] at hdo
          exact hx hdo
    · intro j o k hj hoj hwk
      rcases (hlisted j).1 hj with e | hj2
      · subst e
        obtain rfl : l[j] = o := Option.some.inj (ho.symm.trans hoj)
        exact (hlisted k).2 (Or.inr (hwl k hwk))
      · exact (hlisted k).2 (Or.inr (hI j o k hj2 hoj hwk))
theorem region_drawn2 {id : Nat} {a : Act} {w : World} (hm : P.follows .mixedOrders = true) (hFix : ∀ (a : Act) (e : Option Tmp) (v : Value), (∀ d, e = some d → d ∉ fix) → Fix a → Fix (a.put e v)) (hst : ∀ i v a w w', lastB .any l i = false → R w w' → Good i v a w → Good i v a w')
    (hdep : ∀ i v a a' w, (∀ d ∈ deps i, a'.tmps[d]? = a.tmps[d]?) → Good i v a w → Good i v a' w)
    (hd : dstsOk l N fix = true) (ha : dstsApart l = true) (hw : waitsOk .any l 0 = true) (hdp : depsOk .any l deps = true) (hN : a.tmps.size = N) (hF : Fix a) (hH : H w.drew)
    (hfin : ∀ (a : Act) (w : World), a.tmps.size = N → Fix a → H w → (∀ i o, l[i]? = some o → ∃ v, (∀ d, o.dst = some d → Slot a d v) ∧ Good i v a w) → Q .normal a w)
    (hs : EachOp (StepOk2 P l Q .any N Fix H R Good) l 0) : (Code.region id l.toArray true).wp P Q a w := by
  refine wp_region_any hm ?_
  refine wpAny_drawn2 hFix hst hdep hd ha hw hdp hs hfin _ _ a w.drew (by simp) (by simp) hN hF hH (fun i o hi _ => ?_) (fun i o j hi _ _ => ?_)
  all_goals
    exfalso
    by_cases h : i < (Array.replicate l.toArray.size false).size
    · rw [arr_getD _ _ _ h, Array.getElem_replicate] at hi
      cases hi
    · simp [Array.getD, h] at hi
end
section
variable {P : Program} {l : List Oper} {Q : Exit → Act → World → Prop} {md : Region.Mode} {N : Nat} {Fix : Act → Prop} {fix : List Tmp} {H : World → Prop} {R : World → World → Prop} {Good : Nat → Value → Act → World → Prop} {deps : Nat → List Tmp}
/-- The same for a region that goes in its order. -/
theorem wpList_plain2 (hFix : ∀ (a : Act) (e : Option Tmp) (v : Value), (∀ d, e = some d → d ∉ fix) → Fix a → Fix (a.put e v)) (hst : ∀ i v a w w', lastB md l i = false → R w w' → Good i v a w → Good i v a w')
    (hdep : ∀ i v a a' w, (∀ d ∈ deps i, a'.tmps[d]? = a.tmps[d]?) → Good i v a w → Good i v a' w)
    (hd : dstsOk l N fix = true) (ha : dstsApart l = true) (hw : waitsOk md l 0 = true) (hdp : depsOk md l deps = true) (hs : EachOp (StepOk2 P l Q md N Fix H R Good) l 0)
    (hfin : ∀ (a : Act) (w : World), a.tmps.size = N → Fix a → H w → (∀ i o, l[i]? = some o → ∃ v, (∀ d, o.dst = some d → Slot a d v) ∧ Good i v a w) → Q .normal a w) :
    ∀ (suf pre : List Oper) (a : Act) (w : World), l = pre ++ suf → a.tmps.size = N → Fix a → H w → (∀ i o, i < pre.length → l[i]? = some o → ∃ v, (∀ d, o.dst = some d → Slot a d v) ∧ Good i v a w) → wpList P l.toArray Q suf a w := by
  have wl : ∀ (i j : Nat) (o : Oper), l[i]? = some o → waits md o j = true → j < i := fun i j o ho hj => by
    obtain ⟨e, he0, hb⟩ := List.any_eq_true.1 hj
    simp only [Bool.and_eq_true, beq_iff_eq] at hb
    have := waitsOk_at hw i o ho e (by simpa using he0) hb.1
    omega
  intro suf
  induction suf with
  | nil =>
    intro pre a w hl hN hF hH hG
    refine wpList_nil (hfin a w hN hF hH fun i o ho => hG i o ?_ ho)
    have := (List.getElem?_eq_some_iff.1 ho).1
    rw [hl, List.append_nil] at this
    exact this
  | cons o suf ih =>
    intro pre a w hl hN hF hH hG
    have ho : l[pre.length]? = some o := by rw [hl]; simp
    have hi1 : pre.length < l.length := (List.getElem?_eq_some_iff.1 ho).1
    refine wpList_step fun K' hK' => ?_
    have hstep := EachOp.at hs pre.length o ho
    rw [Nat.zero_add] at hstep
    refine hstep a w K' hN hF hH (fun j oj hj hoj => hG j oj (wl _ _ _ ho hj) hoj) fun v w' hH' hR hg => hK' _ _ (ih (pre ++ [o]) _ _ (by rw [hl]; simp) (by rw [put_size]; exact hN) (hFix _ _ _ (fun d hdd => (dstsOk_at hd _ o d ho hdd).2) hF) hH' fun j oj hj hoj => ?_)
    rw [List.length_append, List.length_singleton] at hj
    by_cases e : j = pre.length
    · subst e
      obtain rfl : o = oj := Option.some.inj (ho.symm.trans hoj)
      exact ⟨v, fun d hdd => by rw [hdd]; exact Slot.put_same (by rw [hN]; exact (dstsOk_at hd _ _ d ho hdd).1) v, hg⟩
    · obtain ⟨u, h1, h2⟩ := hG j oj (by omega) hoj
      refine ⟨u, fun d hdd => (h1 d hdd).put_other (fun x => e (dstsApart_at ha _ j _ _ d ho hoj x hdd).symm) _, ?_⟩
      have hlb : lastB md l j = false := by
        cases hb : lastB md l j with
        | false => rfl
        | true =>
          exfalso
          unfold lastB at hb
          rw [hoj] at hb
          have := List.all_eq_true.1 hb pre.length (List.mem_range.2 hi1)
          simp only [Bool.or_eq_true, beq_iff_eq] at this
          rcases this with h | hwt
          · exact e h.symm
          · have := wl _ _ _ hoj hwt
            omega
      refine hdep j u a _ w' (fun d hdd => ?_) (hst j u a w w' hlb hR h2)
      obtain ⟨j2, oj2, hw2, hoj2, hdst⟩ := depsOk_at hdp hoj hdd
      have hj3 := wl _ _ _ hoj hw2
      have hx : o.dst ≠ some d := fun x => by have := dstsApart_at ha pre.length j2 _ _ d ho hoj2 x hdst; omega
      unfold Act.put
      cases hdo : o.dst with
      | none => rfl
      | some f =>
        simp only [Array.getElem?_setIfInBounds]
        rw [if_neg]
        intro e2
        rw [e2] at hdo
        exact hx hdo
theorem region_plain2 {id : Nat} {a : Act} {w : World} (hFix : ∀ (a : Act) (e : Option Tmp) (v : Value), (∀ d, e = some d → d ∉ fix) → Fix a → Fix (a.put e v)) (hst : ∀ i v a w w', lastB .any l i = false → R w w' → Good i v a w → Good i v a w')
    (hdep : ∀ i v a a' w, (∀ d ∈ deps i, a'.tmps[d]? = a.tmps[d]?) → Good i v a w → Good i v a' w)
    (hd : dstsOk l N fix = true) (ha : dstsApart l = true) (hw : waitsOk .any l 0 = true) (hdp : depsOk .any l deps = true) (hN : a.tmps.size = N) (hF : Fix a) (hH : H w)
    (hfin : ∀ (a : Act) (w : World), a.tmps.size = N → Fix a → H w → (∀ i o, l[i]? = some o → ∃ v, (∀ d, o.dst = some d → Slot a d v) ∧ Good i v a w) → Q .normal a w)
    (hs : EachOp (StepOk2 P l Q .any N Fix H R Good) l 0) : (Code.region id l.toArray false).wp P Q a w :=
  wp_region_lit (wpList_plain2 hFix hst hdep hd ha hw hdp hs hfin l [] a w rfl hN hF hH fun i o hi _ => absurd hi (Nat.not_lt_zero i))
end
/-- A step of the world: rows that were there below B are as they were; others may be written, but keep their kind and size. -/
structure StepM (B : Nat) (w w' : World) : Prop where
  size : w.heap.size ≤ w'.heap.size
  low : ∀ k, k < B → k < w.heap.size → w'.heap[k]? = w.heap[k]?
  kept : ∀ (k : Nat) (cs : Array Value) (T : TypeId), w.heap[k]? = some (Obj.cells cs T (0, 0)) → ∃ cs' : Array Value, w'.heap[k]? = some (Obj.cells cs' T (0, 0)) ∧ cs'.size = cs.size
theorem StepM.of {B : Nat} {w w' : World} (h : Keeps w w') : StepM B w w' := ⟨h.size, fun k _ hk => Below.block h k hk, fun k cs T e => ⟨cs, (Below.block h k (lt_of_block e)).trans e, rfl⟩⟩
theorem StepM.row {B : Nat} {w : World} {G : Nat} {cs cs' : Array Value} {T : TypeId} (h : w.heap[G]? = some (.cells cs T (0, 0))) (hG : B ≤ G) (hs : cs'.size = cs.size) : StepM B w (w.setRow G cs') := by
  refine ⟨by simp [World.setRow], fun k hk _ => setRow_other w G k cs' (by omega), fun k c2 T2 e => ?_⟩
  by_cases hk : k = G
  · subst hk
    rw [h] at e
    cases e
    exact ⟨cs', setRow_heap w k cs cs' T (0, 0) h, hs⟩
  · exact ⟨c2, by rw [setRow_other w G k cs' hk]; exact e, rfl⟩
/-- What is said of operations: a value; a variable that was made; a variable that was written. -/
def valA (x : Value) : Value → Act → World → Prop := fun v _ _ => v = x
def ptrA (B n : Nat) (T : TypeId) : Value → Act → World → Prop := fun v _ w => ∃ (g : Nat) (cs : Array Value), v = .pointer (some ⟨g, 0, none⟩) ∧ B ≤ g ∧ w.heap[g]? = some (Obj.cells cs T (0, 0)) ∧ cs.size = n
def putA (B : Nat) (d : Tmp) (cs : Array Value) (T : TypeId) : Value → Act → World → Prop := fun _ a w => ∃ g : Nat, Slot a d (.pointer (some ⟨g, 0, none⟩)) ∧ B ≤ g ∧ w.heap[g]? = some (Obj.cells cs T (0, 0))
def anyA : Value → Act → World → Prop := fun _ _ _ => True
theorem ptrA_lasts {B n : Nat} {T : TypeId} {v : Value} {a : Act} {w w' : World} (h : StepM B w w') (q : ptrA B n T v a w) : ptrA B n T v a w' := by
  obtain ⟨g, cs, e, hg, hc, hn⟩ := q
  obtain ⟨cs', h1, h2⟩ := h.kept g cs T hc
  exact ⟨g, cs', e, hg, h1, h2.trans hn⟩
/-- What is said of each operation, by its number. -/
def goodOf2 (gs : List (Value → Act → World → Prop)) (i : Nat) : Value → Act → World → Prop := gs.getD i anyA
def Lasts2 (R : World → World → Prop) (G : Value → Act → World → Prop) : Prop := ∀ v a w w', R w w' → G v a w → G v a w'
def AllLast2 (R : World → World → Prop) (lst : Nat → Bool) : List (Value → Act → World → Prop) → Nat → Prop
  | [], _ => True
  | G :: r, k => (lst k = true ∨ Lasts2 R G) ∧ AllLast2 R lst r (k + 1)
theorem good_lasts2 {R : World → World → Prop} {lst : Nat → Bool} : ∀ {gs : List (Value → Act → World → Prop)} {k : Nat}, AllLast2 R lst gs k → ∀ i v a w w', lst (k + i) = false → R w w' → goodOf2 gs i v a w → goodOf2 gs i v a w'
  | [], _, _, _, _, _, _, _, _, _, h => h
  | G :: r, k, h, 0, v, a, w, w', hl, hs, hg => by
    rcases h.1 with e | q
    · rw [Nat.add_zero, e] at hl; cases hl
    · exact q v a w w' hs hg
  | G :: r, k, h, i + 1, v, a, w, w', hl, hs, hg => good_lasts2 (gs := r) (k := k + 1) h.2 i v a w w' (by rw [show k + 1 + i = k + (i + 1) by omega]; exact hl) hs hg
def Leans (ds : List Tmp) (G : Value → Act → World → Prop) : Prop := ∀ v a a' w, (∀ d ∈ ds, a'.tmps[d]? = a.tmps[d]?) → G v a w → G v a' w
def AllLean (dss : List (List Tmp)) : List (Value → Act → World → Prop) → Nat → Prop
  | [], _ => True
  | G :: r, k => Leans (dss.getD k []) G ∧ AllLean dss r (k + 1)
theorem good_leans {dss : List (List Tmp)} : ∀ {gs : List (Value → Act → World → Prop)} {k : Nat}, AllLean dss gs k → ∀ i v a a' w, (∀ d ∈ dss.getD (k + i) [], a'.tmps[d]? = a.tmps[d]?) → goodOf2 gs i v a w → goodOf2 gs i v a' w
  | [], _, _, _, _, _, _, _, _, h => h
  | G :: r, k, h, 0, v, a, a', w, hd, hg => h.1 v a a' w hd hg
  | G :: r, k, h, i + 1, v, a, a', w, hd, hg => good_leans (gs := r) (k := k + 1) h.2 i v a a' w (by rw [show k + 1 + i = k + (i + 1) by omega]; exact hd) hg
theorem valA_lasts {R : World → World → Prop} (x : Value) : Lasts2 R (valA x) := fun _ _ _ _ _ h => h
theorem valA_leans (ds : List Tmp) (x : Value) : Leans ds (valA x) := fun _ _ _ _ _ h => h
theorem ptrA_lasts2 (B n : Nat) (T : TypeId) : Lasts2 (StepM B) (ptrA B n T) := fun _ _ _ _ h q => ptrA_lasts h q
theorem ptrA_leans (ds : List Tmp) (B n : Nat) (T : TypeId) : Leans ds (ptrA B n T) := fun _ _ _ _ _ h => h
theorem putA_leans {ds : List Tmp} (B : Nat) (d : Tmp) (cs : Array Value) (T : TypeId) (h : d ∈ ds) : Leans ds (putA B d cs T) := fun v a a' w hd q => by
  obtain ⟨g, e, hg, hc⟩ := q
  exact ⟨g, by unfold Slot at *; rw [hd d h]; exact e, hg, hc⟩
/-- A slice of bytes that was made. -/
def holdA (xs : List Nat) : Value → Act → World → Prop := fun v _ w => Holds8 w v xs
theorem holdA_lasts (xs : List Nat) : Lasts2 Keeps (holdA xs) := fun _ _ _ _ h q => q.keeps h
theorem holdA_leans (ds : List Tmp) (xs : List Nat) : Leans ds (holdA xs) := fun _ _ _ _ _ h => h
/-- What is said of a slot of an operation for which one waits. -/
theorem good_slot {l : List Oper} {md : Region.Mode} {o : Oper} {a : Act} {w : World} {Good : Nat → Value → Act → World → Prop} (h : ∀ j oj, waits md o j = true → l[j]? = some oj → ∃ v, (∀ d, oj.dst = some d → Slot a d v) ∧ Good j v a w) (j : Nat) (oj : Oper) (d : Tmp) (hw : waits md o j = true) (hl : l[j]? = some oj) (hd : oj.dst = some d) :
    ∃ v, Slot a d v ∧ Good j v a w := by
  obtain ⟨v, h1, h2⟩ := h j oj hw hl
  exact ⟨v, h1 d hd, h2⟩
theorem good_end {l : List Oper} {a : Act} {w : World} {Good : Nat → Value → Act → World → Prop} (h : ∀ i o, l[i]? = some o → ∃ v, (∀ d, o.dst = some d → Slot a d v) ∧ Good i v a w) (i : Nat) (o : Oper) (d : Tmp) (hl : l[i]? = some o) (hd : o.dst = some d) : ∃ v, Slot a d v ∧ Good i v a w := by
  obtain ⟨v, h1, h2⟩ := h i o hl
  exact ⟨v, h1 d hd, h2⟩
/-- A frame, slot by slot. -/
theorem arr_all (N : Nat) (tm : Array Value) (h : tm.size = N) : tm = ((List.range N).map fun i => tm.getD i undef).toArray := by
  apply Array.ext
  · simp [h]
  · intro i h1 h2
    simp [h1]
theorem Slot.getD {a : Act} {d : Tmp} {v : Value} (h : Slot a d v) : a.tmps.getD d undef = v := by
  unfold Slot at h
  simp [h]
/-- A whole array of integers is written: one operation. -/
theorem wp_store_arr {P : Program} {k : IntKind} {m n : Nat} {T T' : TypeId} {G : Nat} {L Z : List Nat} {o : Oper} {a : Act} {w : World} {K : Act → World → Prop} {Q : Exit → Act → World → Prop} (hi : (P.info? T).map (·.size) = some n) (x y : Operand) (ho : o.op = .store T x y)
    (hx : a.eval x = .pointer (some ⟨G, 0, none⟩)) (hy : a.eval y = .agg (cellsK k L).toArray) (hA : ArrN k m T' w G Z) (hz : Z.length = n) (hl : L.length = n) (h : K (a.put o.dst undef) (w.setRow G (cellsK k L).toArray)) : o.wp P a w K Q := by
  have e := run_storeVar_row (P := P) w G T' T _ (cellsK k L).toArray hA.2 (by simp only [List.size_toArray, cellsK_len, hl]; exact hi) (by simp [cellsK_len, hz, hl]) (cellsK_one k L)
  unfold Oper.wp execOp
  simp only [ho, hx, hy, Instr.storeAt, Instr.sureAddr, Sem.run_bind, Sem.run_pure, Result.andThen_ok, e]
  exact h
/-- The same, where the variable was made just so. -/
theorem wp_store_blk {P : Program} {k : IntKind} {n : Nat} {T T' : TypeId} {G : Nat} {L : List Nat} {cs : Array Value} {o : Oper} {a : Act} {w : World} {K : Act → World → Prop} {Q : Exit → Act → World → Prop} (hi : (P.info? T).map (·.size) = some n) (x y : Operand) (ho : o.op = .store T x y)
    (hx : a.eval x = .pointer (some ⟨G, 0, none⟩)) (hy : a.eval y = .agg (cellsK k L).toArray) (hA : w.heap[G]? = some (Obj.cells cs T' (0, 0))) (hz : cs.size = n) (hl : L.length = n) (h : K (a.put o.dst undef) (w.setRow G (cellsK k L).toArray)) : o.wp P a w K Q := by
  have e := run_storeVar_row (P := P) w G T' T _ (cellsK k L).toArray hA (by simp only [List.size_toArray, cellsK_len, hl]; exact hi) (by simp [cellsK_len, hz, hl]) (cellsK_one k L)
  unfold Oper.wp execOp
  simp only [ho, hx, hy, Instr.storeAt, Instr.sureAddr, Sem.run_bind, Sem.run_pure, Result.andThen_ok, e]
  exact h
theorem unwanted_slot {ops : Array Oper} {a : Act} {o og : Oper} {g : Nat} {b : Bool} {d : Tmp} (hg : o.guard = some (g, b)) (ho : ops[g]? = some og) (hd : og.dst = some d) (h : Slot a d (.bool (!b))) : ¬ Region.wanted o (yielded ops a.tmps) = true := by
  unfold Slot at h
  cases b <;> simp [Region.wanted, hg, yielded, ho, hd, h]
end Go.Proofs.YtckikgfckihniaaDoor
