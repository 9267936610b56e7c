/- A region that draws its order, walked once: an invariant in the place of all orders. -/
import Derived.Test.YtckikgfckihniaaDoorRow
import Derived.RegionTactic
import Derived.KernelRfl
set_option linter.unusedVariables false
set_option linter.unusedSimpArgs false
set_option maxRecDepth 10000
namespace Go.Proofs.YtckikgfckihniaaDoor
open Go.RowKit

/-- Slot d of the frame holds v. -/
def Slot (a : Act) (d : Tmp) (v : Value) : Prop := a.tmps[d]? = some v
theorem Slot.eval {a : Act} {d : Tmp} {v : Value} (h : Slot a d v) : a.eval (.tmp d) = v := by
  unfold Slot at h
  simp [Act.eval, h]
theorem Slot.at {a : Act} {d : Tmp} {v : Value} (h : Slot a d v) (hd : d < a.tmps.size) : a.tmps[d]'hd = v := by
  unfold Slot at h
  exact (Array.getElem?_eq_some_iff.1 h).2
theorem Slot.put_same {a : Act} {d : Tmp} (h : d < a.tmps.size) (v : Value) : Slot (a.put (some d) v) d v := by
  unfold Slot Act.put
  simp [h]
theorem Slot.put_other {a : Act} {d : Tmp} {v : Value} (h : Slot a d v) {e : Option Tmp} (hne : e ≠ some d) (u : Value) : Slot (a.put e u) d v := by
  unfold Slot Act.put at *
  cases e with
  | none => exact h
  | some e =>
    have : e ≠ d := fun x => hne (by rw [x])
    simp only [Array.getElem?_setIfInBounds]
    rw [if_neg this]
    exact h
theorem put_size (a : Act) (e : Option Tmp) (u : Value) : (a.put e u).tmps.size = a.tmps.size := by
  unfold Act.put
  cases e <;> simp
theorem arr_getD (a : Array Bool) (i : Nat) (d : Bool) (h : i < a.size) : a.getD i d = a[i] := by simp [Array.getD, h]
/-- Does operation o wait for operation j? -/
def waits (md : Region.Mode) (o : Oper) (j : Nat) : Bool := o.after.toList.any fun e => Region.binds md e && e.on == j
/-- What is asked of the region's operations: own slots, apart from the fixed ones; each waits for earlier ones. -/
def dstsOk (l : List Oper) (N : Nat) (fix : List Tmp) : Bool := l.all fun o => match o.dst with | none => true | some d => decide (d < N) && !fix.contains d
def dstsApart (l : List Oper) : Bool := decide (l.Pairwise fun x y => x.dst = none ∨ x.dst ≠ y.dst)
def waitsOk (md : Region.Mode) : List Oper → Nat → Bool
  | [], _ => true
  | o :: r, k => (o.after.all fun e => !Region.binds md e || decide (e.on < k)) && waitsOk md r (k + 1)
theorem waitsOk_at {md : Region.Mode} : ∀ {l : List Oper} {k : Nat}, waitsOk md l k = true → ∀ (i : Nat) (o : Oper), l[i]? = some o → ∀ e ∈ o.after, Region.binds md e = true → e.on < k + i
  | [], _, _, i, o, ho, _, _, _ => by simp at ho
  | x :: r, k, h, i, o, ho, e, he, hb => by
    simp only [waitsOk, Bool.and_eq_true] at h
    cases i with
    | zero =>
      simp only [List.getElem?_cons_zero, Option.some.injEq] at ho
      subst ho
      have := Array.all_eq_true_iff_forall_mem.1 h.1 e he
      simp only [hb, Bool.not_true, Bool.false_or, decide_eq_true_eq] at this
      omega
    | succ i =>
      have := waitsOk_at h.2 i o (by simpa using ho) e he hb
      omega
theorem dstsOk_at {l : List Oper} {N : Nat} {fix : List Tmp} (h : dstsOk l N fix = true) (i : Nat) (o : Oper) (d : Tmp) (ho : l[i]? = some o) (hd : o.dst = some d) : d < N ∧ d ∉ fix := by
  have := List.all_eq_true.1 h o (List.mem_of_getElem? ho)
  rw [hd] at this
  simpa using this
theorem dstsApart_at {l : List Oper} (h : dstsApart l = true) (i j : Nat) (x y : Oper) (d : Tmp) (hi : l[i]? = some x) (hj : l[j]? = some y) (hx : x.dst = some d) (hy : y.dst = some d) : i = j := by
  have hp := List.pairwise_iff_getElem.1 (of_decide_eq_true h)
  obtain ⟨i1, i2⟩ := List.getElem?_eq_some_iff.1 hi
  obtain ⟨j1, j2⟩ := List.getElem?_eq_some_iff.1 hj
  rcases Nat.lt_trichotomy i j with g | g | g
  · have := hp i j i1 j1 g
    rw [i2, j2, hx, hy] at this
    rcases this with h | h
    · cases h
    · exact absurd rfl h
  · exact g
  · have := hp j i j1 i1 g
    rw [i2, j2, hx, hy] at this
    rcases this with h | h
    · cases h
    · exact absurd rfl h
/-- One step of an operation, of which the frame is known by its slots. -/
def StepOk (P : Program) (l : List Oper) (Q : Exit → Act → World → Prop) (md : Region.Mode) (N : Nat) (Fix : Act → Prop) (H : World → Prop) (R : World → World → Prop) (Good : Nat → Value → World → Prop) (i : Nat) (o : Oper) : Prop :=
  ∀ (a : Act) (w : World) (K : Act → World → Prop), a.tmps.size = N → Fix a → H w →
    (∀ j oj d, waits md o j = true → l[j]? = some oj → oj.dst = some d → ∃ v, Slot a d v ∧ Good j v w) →
    (∀ v w', H w' → R w w' → Good i v w' → K (a.put o.dst v) w') →
    if Region.wanted o (yielded l.toArray a.tmps) = true then o.wp P a w K Q else K (a.put o.dst undef) w
/-- Something of each operation of a list. -/
def EachOp (p : Nat → Oper → Prop) : List Oper → Nat → Prop
  | [], _ => True
  | o :: r, k => p k o ∧ EachOp p r (k + 1)
theorem EachOp.at {p : Nat → Oper → Prop} : ∀ {l : List Oper} {k : Nat}, EachOp p l k → ∀ (i : Nat) (o : Oper), l[i]? = some o → p (k + i) o
  | [], _, _, i, o, ho => by simp at ho
  | x :: r, k, h, i, o, ho => by
    cases i with
    | zero =>
      simp only [List.getElem?_cons_zero, Option.some.injEq] at ho
      subst ho
      exact h.1
    | succ i =>
      have := EachOp.at h.2 i o (by simpa using ho)
      rwa [show k + 1 + i = k + (i + 1) by omega] at this
section
variable {P : Program} {l : List Oper} {Q : Exit → Act → World → Prop} {md : Region.Mode} {N : Nat} {Fix : Act → Prop} {fix : List Tmp} {H : World → Prop} {R : World → World → Prop} {Good : Nat → Value → World → Prop}

theorem wpAny_drawn (hFix : ∀ (a : Act) (e : Option Tmp) (v : Value), (∀ d, e = some d → d ∉ fix) → Fix a → Fix (a.put e v)) (hst : ∀ i v w w', R w w' → Good i v w → Good i v w')
    (hd : dstsOk l N fix = true) (ha : dstsApart l = true) (hw : waitsOk md l 0 = true) (hs : EachOp (StepOk P l Q md N Fix H R Good) l 0)
    (hfin : ∀ (a : Act) (w : World), a.tmps.size = N → Fix a → H w → (∀ i o d, l[i]? = some o → o.dst = some d → ∃ v, Slot a d v ∧ Good i v w) → Q .normal a w) :
    ∀ (fuel : Nat) (listed : Array Bool) (a : Act) (w : World), listed.size = l.length → listed.toList.count false ≤ fuel → a.tmps.size = N → Fix a → H w →
      (∀ i o d, listed.getD i false = true → l[i]? = some o → o.dst = some d → ∃ v, Slot a d v ∧ Good i v w) → wpAny P md l.toArray Q fuel listed a w := by
  have all_in : ∀ (listed : Array Bool), Region.ready md l.toArray listed = [] → listed.size = l.length → ∀ i, i < l.length → listed.getD i false = true := by
    intro listed hr hsz i
    induction i using Nat.strongRecOn with
    | _ i ih =>
      intro hi
      cases hg : listed.getD i false with
      | true => rfl
      | false =>
        exfalso
        have hin : i ∈ Region.ready md l.toArray listed := by
          simp only [Region.ready, List.mem_filter, List.mem_range, List.size_toArray]
          refine ⟨hi, ?_⟩
          have hx : listed.getD i true = false := by
            have hi2 : i < listed.size := by omega
            simp only [Array.getD, hi2, dif_pos] at hg ⊢
            exact hg
          have ho : l.toArray[i]? = some l[i] := by simp [hi]
          rw [hx, ho]
          simp only [Bool.not_false, Bool.true_and, Option.map_some, Option.getD_some]
          refine Array.all_eq_true_iff_forall_mem.2 fun e he => ?_
          cases hb : Region.binds md e with
          | false => rfl
          | true =>
            have h1 := waitsOk_at hw i l[i] (by simp [hi]) e he hb
            have h2 := ih e.on (by omega) (by omega)
            simpa using h2
        rw [hr] at hin
        cases hin
  intro fuel
  induction fuel with
  | zero =>
    intro listed a w hsz hc hN hF hH hG
    have hall : ∀ i, i < l.length → listed.getD i false = true := fun i hi => by
      have hi2 : i < listed.size := by omega
      have h0 : listed.toList.count false = 0 := by omega
      have h1 := List.count_eq_zero.1 h0
      have h2 : listed[i] ∈ listed.toList := by simp
      have h3 : listed[i] ≠ false := fun e => h1 (e ▸ h2)
      simp only [Array.getD, hi2, dif_pos]
      simpa using h3
    refine ⟨?_, hfin a w hN hF hH fun i o d ho hdd => hG i o d (hall i (List.getElem?_eq_some_iff.1 ho).1) ho hdd⟩
    simp only [Region.ready, List.filter_eq_nil_iff, List.mem_range, List.size_toArray]
    intro i hi
    have := hall i hi
    have hi2 : i < listed.size := by omega
    rw [arr_getD _ _ _ hi2] at this
    rw [arr_getD _ _ _ hi2, this]
    simp
  | succ fuel ih =>
    intro listed a w hsz hc hN hF hH hG
    refine ⟨fun hr => hfin a w hN hF hH fun i o d ho hdd => hG i o d (all_in listed hr hsz i (List.getElem?_eq_some_iff.1 ho).1) ho hdd, fun i hi => ?_⟩
    simp only [Region.ready, List.mem_filter, List.mem_range, List.size_toArray, Bool.and_eq_true, Bool.not_eq_true'] at hi
    obtain ⟨hi1, hi2, hi3⟩ := hi
    have ho : l[i]? = some l[i] := by simp [hi1]
    have ho2 : l.toArray[i]? = some l[i] := by simp [hi1]
    rw [ho2] at hi3
    simp only [Option.map_some, Option.getD_some] at hi3
    have hdeps : ∀ j oj d, waits md l[i] j = true → l[j]? = some oj → oj.dst = some d → ∃ v, Slot a d v ∧ Good j v w := fun j oj d hj hoj hdj => by
      obtain ⟨e, he0, hb⟩ := List.any_eq_true.1 hj
      have he : e ∈ l[i].after := by simpa using he0
      simp only [Bool.and_eq_true, beq_iff_eq] at hb
      have := Array.all_eq_true_iff_forall_mem.1 hi3 e he
      rw [hb.1, hb.2] at this
      exact hG j oj d (by simpa using this) hoj hdj
    refine wpOp_step ho2 fun K' hK' => ?_
    have hstep := EachOp.at hs i l[i] ho
    rw [Nat.zero_add] at hstep
    refine hstep a w K' hN hF hH hdeps fun v w' hH' hR hg => hK' _ _ (ih _ _ _ (by simpa using hsz) ?_ (by rw [put_size]; exact hN) (hFix _ _ _ (fun d hdd => (dstsOk_at hd i l[i] d ho hdd).2) hF) hH' ?_)
    · have hi4 : i < listed.size := by omega
      rw [Array.toList_setIfInBounds, List.count_set (by simpa using hi4)]
      have hx : listed[i] = false := by
        simp only [Array.getD, hi4, dif_pos] at hi2
        exact hi2
      have hpos : 0 < listed.toList.count false := List.count_pos_iff.2 (by rw [← hx]; simp)
      have e1 : (listed.toList[i]'(by simpa using hi4) == false) = true := by rw [Array.getElem_toList, hx]; rfl
      rw [if_pos e1, if_neg (by decide)]
      omega
    · intro j o d hj hoj hdj
      by_cases e : i = j
      · subst e
        obtain rfl : l[i] = o := Option.some.inj (ho.symm.trans hoj)
        rw [hdj]
        exact ⟨v, Slot.put_same (by rw [hN]; exact (dstsOk_at hd i _ d ho hdj).1) v, hg⟩
      · have hj2 : listed.getD j false = true := by
          by_cases hlt : j < listed.size
          · rw [arr_getD _ _ _ (by simpa using hlt), Array.getElem_setIfInBounds_ne hlt e] at hj
            rw [arr_getD _ _ _ hlt, hj]
          · simp [Array.getD, hlt] at hj
        obtain ⟨u, h1, h2⟩ := hG j o d hj2 hoj hdj
        refine ⟨u, h1.put_other (fun x => e (dstsApart_at ha i j _ _ d ho hoj x hdj)) _, hst j u w w' hR h2⟩
theorem region_drawn {id : Nat} {a : Act} {w : World} (hm : P.follows .mixedOrders = true) (hFix : ∀ (a : Act) (e : Option Tmp) (v : Value), (∀ d, e = some d → d ∉ fix) → Fix a → Fix (a.put e v)) (hst : ∀ i v w w', R w w' → Good i v w → Good i v w')
    (hd : dstsOk l N fix = true) (ha : dstsApart l = true) (hw : waitsOk .any l 0 = true) (hN : a.tmps.size = N) (hF : Fix a) (hH : H w.drew)
    (hfin : ∀ (a : Act) (w : World), a.tmps.size = N → Fix a → H w → (∀ i o d, l[i]? = some o → o.dst = some d → ∃ v, Slot a d v ∧ Good i v w) → Q .normal a w)
    (hs : EachOp (StepOk P l Q .any N Fix H R Good) l 0) : (Code.region id l.toArray true).wp P Q a w := by
  refine wp_region_any hm ?_
  refine wpAny_drawn hFix hst hd ha hw hs hfin _ _ a w.drew (by simp) (by simp) hN hF hH fun i o d hi _ _ => ?_
  exfalso
  by_cases h : i < (Array.replicate l.toArray.size false).size
  · rw [arr_getD _ _ _ h, Array.getElem_replicate] at hi
    cases hi
  · simp [Array.getD, h] at hi
end
theorem wanted_slot {ops : Array Oper} {a : Act} {o og : Oper} {g : Nat} {b : Bool} {d : Tmp} (hg : o.guard = some (g, b)) (ho : ops[g]? = some og) (hd : og.dst = some d) (h : Slot a d (.bool b)) : Region.wanted o (yielded ops a.tmps) = true := by
  unfold Slot at h
  simp [Region.wanted, hg, yielded, ho, hd, h]
theorem wanted_none {ops : Array Oper} {a : Act} {o : Oper} (hg : o.guard = none) : Region.wanted o (yielded ops a.tmps) = true := by
  simp [Region.wanted, hg]
theorem wp_value {P : Program} {o : Oper} {a : Act} {w : World} {K : Act → World → Prop} {Q : Exit → Act → World → Prop} (v : Value) (h : (execOp a.eval o).run P w = .ok (.value v) w) (hk : K (a.put o.dst v) w) : o.wp P a w K Q := by
  unfold Oper.wp
  rw [h]
  exact hk
/-- The slots that the region leaves. -/
def FixOf (fx : List (Tmp × Value)) (a : Act) : Prop := a.defers = [] ∧ ∀ x ∈ fx, Slot a x.1 x.2
theorem fix_all (fx : List (Tmp × Value)) (a : Act) (e : Option Tmp) (v : Value) (h : ∀ d, e = some d → d ∉ fx.map (·.1)) (hf : FixOf fx a) : FixOf fx (a.put e v) :=
  ⟨by cases e <;> exact hf.1, fun x hx => (hf.2 x hx).put_other (fun e2 => h x.1 e2 (List.mem_map_of_mem hx)) v⟩
/-- What is said of a slot: its value; something else that lasts under a step of the world. -/
def valG (x : Value) : Value → World → Prop := fun v _ => v = x
def Lasts (R : World → World → Prop) (G : Value → World → Prop) : Prop := ∀ v w w', R w w' → G v w → G v w'
theorem valG_lasts {R : World → World → Prop} (x : Value) : Lasts R (valG x) := fun _ _ _ _ h => h
def AllLast (R : World → World → Prop) : List (Value → World → Prop) → Prop
  | [] => True
  | G :: r => Lasts R G ∧ AllLast R r
def goodOf (gs : List (Value → World → Prop)) (i : Nat) : Value → World → Prop := gs.getD i (fun _ _ => True)
theorem good_lasts {R : World → World → Prop} : ∀ {gs : List (Value → World → Prop)}, AllLast R gs → ∀ i v w w', R w w' → goodOf gs i v w → goodOf gs i v w'
  | [], _, _, _, _, _, _, h => h
  | G :: r, h, 0, v, w, w', hs, hg => h.1 v w w' hs hg
  | G :: r, h, i + 1, v, w, w', hs, hg => good_lasts (gs := r) h.2 i v w w' hs hg
theorem keeps_of_eq {w w' : World} (h : w = w') : Keeps w w' := h ▸ Keeps.refl w
end Go.Proofs.YtckikgfckihniaaDoor
