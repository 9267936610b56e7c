/- A region, with an invariant that goes on by stages: operations of a spine (calls, each waiting for the one ahead) change what holds; all others leave it. -/
import Derived.Test.YtckikgfckihniaaDoorDrawnM
set_option linter.unusedVariables false
set_option linter.unusedSimpArgs false
set_option maxRecDepth 10000
namespace Go.Proofs.YtckikgfckihniaaDoor
open Go.RowKit

/-- Where operation i stands in the spine. -/
def spIdx : List Nat → Nat → Nat → Option Nat
  | [], _, _ => none
  | s :: r, i, k => match Nat.beq s i with | true => some k | false => spIdx r i (k + 1)
theorem spIdx_none : ∀ {sp : List Nat} {i k : Nat}, spIdx sp i k = none → i ∉ sp
  | [], _, _, _ => List.not_mem_nil
  | s :: r, i, k, h => by
    unfold spIdx at h
    cases e : Nat.beq s i with
    | true => rw [e] at h; cases h
    | false =>
      rw [e] at h
      have e2 : s ≠ i := fun q => by rw [q, Nat.beq_refl] at e; cases e
      intro q
      rcases List.mem_cons.1 q with q | q
      · exact e2 q.symm
      · exact spIdx_none h q
theorem spIdx_some : ∀ {sp : List Nat} {i k m : Nat}, spIdx sp i k = some m → k ≤ m ∧ sp[m - k]? = some i ∧ i ∉ sp.take (m - k)
  | [], _, _, _, h => by cases h
  | s :: r, i, k, m, h => by
    unfold spIdx at h
    cases e : Nat.beq s i with
    | true =>
      rw [e] at h
      cases h
      have := Nat.eq_of_beq_eq_true e
      subst this
      simp
    | false =>
      rw [e] at h
      have e2 : s ≠ i := fun q => by rw [q, Nat.beq_refl] at e; cases e
      obtain ⟨h1, h2, h3⟩ := spIdx_some h
      obtain ⟨d, hd⟩ : ∃ d, m - k = d + 1 := ⟨m - k - 1, by omega⟩
      have hd2 : m - (k + 1) = d := by omega
      rw [hd2] at h2 h3
      refine ⟨by omega, by rw [hd]; exact h2, ?_⟩
      rw [hd, List.take_succ_cons]
      intro q
      rcases List.mem_cons.1 q with q | q
      · exact e2 q.symm
      · exact h3 q
/-- Each operation of the spine waits for the one ahead of it. -/
def spineOk (md : Region.Mode) (l : List Oper) : List Nat → Bool
  | [] => true
  | [s] => decide (s < l.length)
  | s :: t :: r => (match l[t]? with | none => false | some o => waits md o s) && spineOk md l (t :: r)
/-- How many of the spine are done. -/
def stageOf (done : Nat → Bool) : List Nat → Nat
  | [] => 0
  | s :: r => if done s then stageOf done r + 1 else 0
theorem stage_same {done done' : Nat → Bool} : ∀ {sp : List Nat}, (∀ s ∈ sp, done' s = done s) → stageOf done' sp = stageOf done sp
  | [], _ => rfl
  | s :: r, h => by
    unfold stageOf
    rw [h s (by simp), stage_same fun x hx => h x (by simp [hx])]
theorem stage_at {done : Nat → Bool} : ∀ {sp : List Nat} {k i : Nat}, sp[k]? = some i → (∀ s ∈ sp.take k, done s = true) → done i = false → stageOf done sp = k
  | [], _, _, h, _, _ => by simp at h
  | s :: r, 0, i, h, _, hi => by
    simp only [List.getElem?_cons_zero, Option.some.injEq] at h
    subst h
    unfold stageOf
    rw [hi]
    rfl
  | s :: r, k + 1, i, h, hd, hi => by
    unfold stageOf
    rw [hd s (by simp), if_pos rfl, stage_at (sp := r) (k := k) (by simpa using h) (fun x hx => hd x (by simp [hx])) hi]
theorem stage_next {done' : Nat → Bool} : ∀ {sp : List Nat} {k i : Nat}, sp[k]? = some i → (∀ s ∈ sp.take k, done' s = true) → done' i = true → (∀ j, sp[k + 1]? = some j → done' j = false) → stageOf done' sp = k + 1
  | [], _, _, h, _, _, _ => by simp at h
  | s :: r, 0, i, h, _, hi, hn => by
    simp only [List.getElem?_cons_zero, Option.some.injEq] at h
    subst h
    unfold stageOf
    rw [hi, if_pos rfl]
    cases r with
    | nil => rfl
    | cons t r =>
      have := hn t (by simp)
      unfold stageOf
      rw [this]
      rfl
  | s :: r, k + 1, i, h, hd, hi, hn => by
    unfold stageOf
    rw [hd s (by simp), if_pos rfl, stage_next (sp := r) (k := k) (by simpa using h) (fun x hx => hd x (by simp [hx])) hi fun j hj => hn j (by simpa using hj)]
theorem spine_waits {md : Region.Mode} {l : List Oper} : ∀ {sp : List Nat} {k i j : Nat}, spineOk md l sp = true → sp[k]? = some i → sp[k + 1]? = some j → ∃ o, l[j]? = some o ∧ waits md o i = true
  | [], _, _, _, _, h, _ => by simp at h
  | [s], 0, _, _, _, _, h => by simp at h
  | [s], k + 1, _, _, _, h, _ => by simp at h
  | s :: t :: r, 0, i, j, hs, hi, hj => by
    unfold spineOk at hs
    simp only [Bool.and_eq_true] at hs
    simp only [List.getElem?_cons_zero, Option.some.injEq] at hi
    simp only [List.getElem?_cons_succ, List.getElem?_cons_zero, Option.some.injEq] at hj
    subst hi hj
    cases e : l[t]? with
    | none => rw [e] at hs; cases hs.1
    | some o => rw [e] at hs; exact ⟨o, rfl, hs.1⟩
  | s :: t :: r, k + 1, i, j, hs, hi, hj => by
    unfold spineOk at hs
    simp only [Bool.and_eq_true] at hs
    exact spine_waits (sp := t :: r) (k := k) hs.2 (by simpa using hi) (by simpa using hj)
/-- Of the spine, what operation j is or waits for: so far at least the spine is done where j is. -/
def dirB (md : Region.Mode) (l : List Oper) (j s : Nat) : Bool := s == j || (match l[j]? with | none => false | some o => waits md o s)
def birthOf (md : Region.Mode) (l : List Oper) (j : Nat) : List Nat → Nat → Nat
  | [], _ => 0
  | s :: r, k => Nat.max (if dirB md l j s = true then k + 1 else 0) (birthOf md l j r (k + 1))
theorem birth_le {md : Region.Mode} {l : List Oper} {done : Nat → Bool} {j : Nat} (hj : done j = true) (hc : ∀ o, l[j]? = some o → ∀ i, waits md o i = true → done i = true) : ∀ {sp : List Nat} {k t : Nat}, (∀ m i, sp[m]? = some i → done i = true → k + m < t) → birthOf md l j sp k ≤ t
  | [], _, _, _ => Nat.zero_le _
  | s :: r, k, t, h => by
    unfold birthOf
    refine Nat.max_le.2 ⟨?_, birth_le hj hc (sp := r) (k := k + 1) fun m i hm hi => by have := h (m + 1) i (by simpa using hm) hi; omega⟩
    by_cases e : dirB md l j s = true
    · rw [if_pos e]
      have hs : done s = true := by
        unfold dirB at e
        rw [Bool.or_eq_true] at e
        rcases e with e | e
        · rw [beq_iff_eq] at e; rw [e]; exact hj
        · cases ho : l[j]? with
          | none => rw [ho] at e; cases e
          | some o => rw [ho] at e; exact hc o ho s e
      have := h 0 s (by simp) hs
      omega
    · rw [if_neg e]
      exact Nat.zero_le _
def StepOn (P : Program) (l : List Oper) (Q : Exit → Act → World → Prop) (md : Region.Mode) (N : Nat) (Fix : Act → Prop) (H : Nat → World → Prop) (Rs : Nat → World → World → Prop) (Good : Nat → Value → Act → World → Prop) (i : Nat) (o : Oper) (k : Nat) : Prop :=
  ∀ (a : Act) (w : World) (K : Act → World → Prop), a.tmps.size = N → Fix a → H k w →
    (∀ j oj, waits md o j = true → l[j]? = some oj → ∃ v, (∀ d, oj.dst = some d → Slot a d v) ∧ Good j v a w) →
    (∀ v w', H (k + 1) w' → Rs k w w' → Good i v (a.put o.dst v) w' → K (a.put o.dst v) w') →
    if Region.wanted o (yielded l.toArray a.tmps) = true then o.wp P a w K Q else K (a.put o.dst undef) w
def StepOff (P : Program) (l : List Oper) (Q : Exit → Act → World → Prop) (md : Region.Mode) (N : Nat) (Fix : Act → Prop) (H : Nat → World → Prop) (Good : Nat → Value → Act → World → Prop) (i : Nat) (o : Oper) : Prop :=
  ∀ (a : Act) (w : World) (K : Act → World → Prop) (t : Nat), a.tmps.size = N → Fix a → H t w →
    (∀ j oj, waits md o j = true → l[j]? = some oj → ∃ v, (∀ d, oj.dst = some d → Slot a d v) ∧ Good j v a w) →
    (∀ v w', H t w' → Keeps w w' → Good i v (a.put o.dst v) w' → K (a.put o.dst v) w') →
    if Region.wanted o (yielded l.toArray a.tmps) = true then o.wp P a w K Q else K (a.put o.dst undef) w
def StepOk3 (P : Program) (l : List Oper) (Q : Exit → Act → World → Prop) (md : Region.Mode) (N : Nat) (Fix : Act → Prop) (sp : List Nat) (H : Nat → World → Prop) (Rs : Nat → World → World → Prop) (Good : Nat → Value → Act → World → Prop) (i : Nat) (o : Oper) : Prop :=
  match spIdx sp i 0 with
  | some k => StepOn P l Q md N Fix H Rs Good i o k
  | none => StepOff P l Q md N Fix H Good i o
/-- What is said of operation i lasts. -/
def Last3 (md : Region.Mode) (l : List Oper) (sp : List Nat) (Rs : Nat → World → World → Prop) (i : Nat) (G : Value → Act → World → Prop) : Prop := lastB md l i = true ∨ (Lasts2 Keeps G ∧ ∀ k, birthOf md l i sp 0 ≤ k → k < sp.length → Lasts2 (Rs k) G)
section
variable {P : Program} {l : List Oper} {Q : Exit → Act → World → Prop} {md : Region.Mode} {N : Nat} {Fix : Act → Prop} {fix : List Tmp} {sp : List Nat} {H : Nat → World → Prop} {Rs : Nat → World → World → Prop} {Good : Nat → Value → Act → World → Prop} {deps : Nat → List Tmp}

/-- One step, told of what is done. -/
theorem step3 (hsp : spineOk md l sp = true) (hst : ∀ i, Last3 md l sp Rs i (Good i)) {done : Nat → Bool} {i : Nat} {o : Oper} (ho : l[i]? = some o) (hi : done i = false) (hw : ∀ j, waits md o j = true → done j = true)
    (hc : ∀ j oj, done j = true → l[j]? = some oj → ∀ m, waits md oj m = true → done m = true) (hs : StepOk3 P l Q md N Fix sp H Rs Good i o) {a : Act} {w : World} {K : Act → World → Prop} (hN : a.tmps.size = N) (hF : Fix a) (hH : H (stageOf done sp) w)
    (hG : ∀ j oj, waits md o j = true → l[j]? = some oj → ∃ v, (∀ d, oj.dst = some d → Slot a d v) ∧ Good j v a w)
    (h : ∀ v w', H (stageOf (fun k => k == i || done k) sp) w' → (∀ j u a', done j = true → lastB md l j = false → Good j u a' w → Good j u a' w') → Good i v (a.put o.dst v) w' → K (a.put o.dst v) w') :
    if Region.wanted o (yielded l.toArray a.tmps) = true then o.wp P a w K Q else K (a.put o.dst undef) w := by
  have back : ∀ (n k m : Nat) (x y : Nat), n = m - k → k ≤ m → sp[k]? = some x → sp[m]? = some y → done y = true → done x = true := by
    intro n
    induction n with
    | zero =>
      intro k m x y hn hkm hx hy hd
      obtain rfl : k = m := by omega
      rw [hx] at hy; cases hy; exact hd
    | succ n ih =>
      intro k m x y hn hkm hx hy hd
      obtain ⟨m', rfl⟩ : ∃ m', m = m' + 1 := ⟨m - 1, by omega⟩
      have hm' : m' < sp.length := by have := (List.getElem?_eq_some_iff.1 hy).1; omega
      obtain ⟨oy, hoy, hwy⟩ := spine_waits hsp (List.getElem?_eq_getElem hm') hy
      exact ih k m' x sp[m'] (by omega) (by omega) hx (List.getElem?_eq_getElem hm') (hc y oy hd hoy _ hwy)
  unfold StepOk3 at hs
  cases e : spIdx sp i 0 with
  | none =>
    rw [e] at hs
    have hni := spIdx_none e
    have hst2 : stageOf (fun k => k == i || done k) sp = stageOf done sp := stage_same fun s hs => by
      have : (s == i) = false := by rw [beq_eq_false_iff_ne]; exact fun q => hni (q ▸ hs)
      simp only [this, Bool.false_or]
    rw [hst2] at h
    exact hs a w K (stageOf done sp) hN hF hH hG fun v w' h1 h2 h3 => h v w' h1 (fun j u a' hj hl hg => by
      rcases hst j with q | q
      · rw [q] at hl; cases hl
      · exact q.1 u a' w w' h2 hg) h3
  | some k =>
    rw [e] at hs
    obtain ⟨_, hk, hnt⟩ := spIdx_some e
    rw [Nat.sub_zero] at hk hnt
    have hkl := (List.getElem?_eq_some_iff.1 hk).1
    have ahead : ∀ s ∈ sp.take k, done s = true := fun s hs => by
      obtain ⟨m, hm, rfl⟩ := List.getElem_of_mem hs
      rw [List.length_take] at hm
      rw [List.getElem_take]
      obtain ⟨k', rfl⟩ : ∃ k', k = k' + 1 := ⟨k - 1, by omega⟩
      have hk' : k' < sp.length := by omega
      obtain ⟨oi, hoi, hwi⟩ := spine_waits hsp (List.getElem?_eq_getElem hk') hk
      rw [ho] at hoi
      cases hoi
      exact back _ m k' _ _ rfl (by omega) (List.getElem?_eq_getElem (by omega)) (List.getElem?_eq_getElem hk') (hw _ hwi)
    have hs0 := stage_at hk ahead hi
    have later : ∀ m x, k < m → sp[m]? = some x → done x = false := fun m x hm hx => by
      cases hd : done x with
      | false => rfl
      | true =>
        have := back _ k m i x rfl (by omega) hk hx hd
        rw [hi] at this
        cases this
    have hs1 : stageOf (fun z => z == i || done z) sp = k + 1 := stage_next hk (fun s hs => by simp only [ahead s hs, Bool.or_true]) (by simp) fun j hj => by
      have h1 := later (k + 1) j (by omega) hj
      have h2 : (j == i) = false := by
        rw [beq_eq_false_iff_ne]
        intro q
        subst q
        obtain ⟨oj, hoj, hwj⟩ := spine_waits hsp hk hj
        have := hw j (by rw [ho] at hoj; cases hoj; exact hwj)
        rw [hi] at this
        cases this
      simp only [h1, h2, Bool.or_self]
    rw [hs0] at hH
    rw [hs1] at h
    refine hs a w K hN hF hH hG fun v w' h1 h2 h3 => h v w' h1 (fun j u a' hj hl hg => ?_) h3
    rcases hst j with q | q
    · rw [q] at hl; cases hl
    · have hb := birth_le (md := md) (l := l) (done := done) hj (fun oj hoj m hm => hc j oj hj hoj m hm) (sp := sp) (k := 0) (t := k) fun m x hx hd => by
        rcases Nat.lt_or_ge m k with g | g
        · omega
        · exfalso
          rcases Nat.eq_or_lt_of_le g with g2 | g2
          · subst g2; rw [hk] at hx; cases hx; rw [hi] at hd; cases hd
          · rw [later m x g2 hx] at hd; cases hd
      exact q.2 k hb hkl u a' w w' h2 hg
theorem wpAny_drawn3 (hsp : spineOk md l sp = true) (hFix : ∀ (a : Act) (e : Option Tmp) (v : Value), (∀ d, e = some d → d ∉ fix) → Fix a → Fix (a.put e v)) (hst : ∀ i, Last3 md l sp Rs i (Good i))
    (hdep : ∀ i v a a' w, (∀ d ∈ deps i, a'.tmps[d]? = a.tmps[d]?) → Good i v a w → Good i v a' w)
    (hd : dstsOk l N fix = true) (ha : dstsApart l = true) (hw : waitsOk md l 0 = true) (hdp : depsOk md l deps = true) (hs : EachOp (StepOk3 P l Q md N Fix sp H Rs Good) l 0)
    (hfin : ∀ (a : Act) (w : World), a.tmps.size = N → Fix a → H sp.length w → (∀ i o, l[i]? = some o → ∃ v, (∀ d, o.dst = some d → Slot a d v) ∧ Good i v a w) → Q .normal a w) :
    ∀ (fuel : Nat) (listed : Array Bool) (a : Act) (w : World), listed.size = l.length → listed.toList.count false ≤ fuel → a.tmps.size = N → Fix a → H (stageOf (fun k => listed.getD k false) sp) w →
      (∀ i o, listed.getD i false = true → l[i]? = some o → ∃ v, (∀ d, o.dst = some d → Slot a d v) ∧ Good i v a w) →
      (∀ i o j, listed.getD i false = true → l[i]? = some o → waits md o j = true → listed.getD j false = true) → wpAny P md l.toArray Q fuel listed a w := by
  have spIn : ∀ s ∈ sp, s < l.length := by
    have h : ∀ (sp : List Nat), spineOk md l sp = true → ∀ s ∈ sp, s < l.length := by
      intro sp
      induction sp with
      | nil => intro _ s hs; cases hs
      | cons x r ih =>
        intro hx s hs
        cases r with
        | nil =>
          unfold spineOk at hx
          rw [List.mem_singleton] at hs
          rw [hs]
          exact of_decide_eq_true hx
        | cons t r =>
          have h0 := hx
          unfold spineOk at hx
          simp only [Bool.and_eq_true] at hx
          rcases List.mem_cons.1 hs with hs | hs
          · subst hs
            cases e : l[t]? with
            | none => rw [e] at hx; cases hx.1
            | some o =>
              rw [e] at hx
              have h1 := (List.getElem?_eq_some_iff.1 e).1
              obtain ⟨f, hf0, hb⟩ := List.any_eq_true.1 hx.1
              simp only [Bool.and_eq_true, beq_iff_eq] at hb
              have := waitsOk_at hw t o e f (by simpa using hf0) hb.1
              omega
          · exact ih hx.2 s hs
    exact h sp hsp
  have full : ∀ (listed : Array Bool), (∀ i, i < l.length → listed.getD i false = true) → stageOf (fun k => listed.getD k false) sp = sp.length := by
    intro listed hall
    have h : ∀ (r : List Nat), (∀ s ∈ r, listed.getD s false = true) → stageOf (fun k => listed.getD k false) r = r.length := by
      intro r
      induction r with
      | nil => intro _; rfl
      | cons x r ih =>
        intro hr
        unfold stageOf
        rw [hr x (by simp), if_pos rfl, ih fun s hs => hr s (by simp [hs])]
        rfl
    exact h sp fun s hs => hall s (spIn s hs)
  have all_in : ∀ (listed : Array Bool), Region.ready md l.toArray listed = [] → listed.size = l.length → ∀ i, i < l.length → listed.getD i false = true := by
    intro listed hr hsz i
    induction i using Nat.strongRecOn with
    | _ i ih =>
      intro hi
      cases hg : listed.getD i false with
      | true => rfl
      | false =>
        exfalso
        have hin : i ∈ Region.ready md l.toArray listed := by
          simp only [Region.ready, List.mem_filter, List.mem_range, List.size_toArray]
          refine ⟨hi, ?_⟩
          have hx : listed.getD i true = false := by
            have hi2 : i < listed.size := by omega
            simp only [Array.getD, hi2, dif_pos] at hg ⊢
            exact hg
          have ho : l.toArray[i]? = some l[i] := by simp [hi]
          rw [hx, ho]
          simp only [Bool.not_false, Bool.true_and, Option.map_some, Option.getD_some]
          refine Array.all_eq_true_iff_forall_mem.2 fun e he => ?_
          cases hb : Region.binds md e with
          | false => rfl
          | true =>
            have h1 := waitsOk_at hw i l[i] (by simp [hi]) e he hb
            have h2 := ih e.on (by omega) (by omega)
            simpa using h2
        rw [hr] at hin
        cases hin
  intro fuel
  induction fuel with
  | zero =>
    intro listed a w hsz hc hN hF hH hG _
    have hall : ∀ i, i < l.length → listed.getD i false = true := fun i hi => by
      have hi2 : i < listed.size := by omega
      have h0 : listed.toList.count false = 0 := by omega
      have h1 := List.count_eq_zero.1 h0
      have h2 : listed[i] ∈ listed.toList := by simp
      have h3 : listed[i] ≠ false := fun e => h1 (e ▸ h2)
      simp only [Array.getD, hi2, dif_pos]
      simpa using h3
    refine ⟨?_, hfin a w hN hF (by rw [← full listed hall]; exact hH) fun i o ho => hG i o (hall i (List.getElem?_eq_some_iff.1 ho).1) ho⟩
    simp only [Region.ready, List.filter_eq_nil_iff, List.mem_range, List.size_toArray]
    intro i hi
    have := hall i hi
    have hi2 : i < listed.size := by omega
    rw [arr_getD _ _ _ hi2] at this
    rw [arr_getD _ _ _ hi2, this]
    simp
  | succ fuel ih =>
    intro listed a w hsz hc hN hF hH hG hI
    refine ⟨fun hr => hfin a w hN hF (by rw [← full listed (all_in listed hr hsz)]; exact hH) fun i o ho => hG i o (all_in listed hr hsz i (List.getElem?_eq_some_iff.1 ho).1) ho, fun i hi => ?_⟩
    simp only [Region.ready, List.mem_filter, List.mem_range, List.size_toArray, Bool.and_eq_true, Bool.not_eq_true'] at hi
    obtain ⟨hi1, hi2, hi3⟩ := hi
    have ho : l[i]? = some l[i] := by simp [hi1]
    have ho2 : l.toArray[i]? = some l[i] := by simp [hi1]
    rw [ho2] at hi3
    simp only [Option.map_some, Option.getD_some] at hi3
    have hnot : listed.getD i false = false := by
      have hi4 : i < listed.size := by omega
      simp only [Array.getD, hi4, dif_pos] at hi2 ⊢
      exact hi2
    have hwl : ∀ j, waits md l[i] j = true → listed.getD j false = true := fun j hj => by
      obtain ⟨e, he0, hb⟩ := List.any_eq_true.1 hj
      have he : e ∈ l[i].after := by simpa using he0
      simp only [Bool.and_eq_true, beq_iff_eq] at hb
      have := Array.all_eq_true_iff_forall_mem.1 hi3 e he
      rw [hb.1, hb.2] at this
      simpa using this
    have hdeps : ∀ j oj, waits md l[i] j = true → l[j]? = some oj → ∃ v, (∀ d, oj.dst = some d → Slot a d v) ∧ Good j v a w := fun j oj hj hoj => hG j oj (hwl j hj) hoj
    refine wpOp_step ho2 fun K' hK' => ?_
    have hstep := EachOp.at hs i l[i] ho
    rw [Nat.zero_add] at hstep
    have hlisted : ∀ j, (listed.setIfInBounds i true).getD j false = true ↔ (j = i ∨ listed.getD j false = true) := fun j => by
      have hi4 : i < listed.size := by omega
      by_cases hlt : j < listed.size
      · rw [arr_getD _ _ _ (by simpa using hlt), arr_getD _ _ _ hlt]
        by_cases e : i = j
        · subst e; simp
        · rw [Array.getElem_setIfInBounds_ne hlt e]
          constructor
          · exact Or.inr
          · rintro (h | h)
            · exact absurd h.symm e
            · exact h
      · have : ¬ j = i := by omega
        simp [Array.getD, hlt, this]
    have hfun : (fun k => (listed.setIfInBounds i true).getD k false) = fun k => k == i || listed.getD k false := by
      funext k
      have := hlisted k
      cases h1 : (listed.setIfInBounds i true).getD k false with
      | true =>
        rcases this.1 h1 with h | h
        · subst h; simp
        · rw [h]; simp
      | false =>
        symm
        rw [Bool.or_eq_false_iff]
        constructor
        · rw [beq_eq_false_iff_ne]
          intro q
          rw [this.2 (Or.inl q)] at h1
          cases h1
        · cases h2 : listed.getD k false with
          | false => rfl
          | true => rw [this.2 (Or.inr h2)] at h1; cases h1
    refine step3 (done := fun k => listed.getD k false) hsp hst ho hnot hwl (fun j oj hj hoj m hm => hI j oj m hj hoj hm) hstep hN hF hH hdeps fun v w' hH' hR hg => hK' _ _ (ih _ _ _ (by simpa using hsz) ?_ (by rw [put_size]; exact hN) (hFix _ _ _ (fun d hdd => (dstsOk_at hd i l[i] d ho hdd).2) hF) (by rw [hfun]; exact hH') ?_ ?_)
    · have hi4 : i < listed.size := by omega
      rw [Array.toList_setIfInBounds, List.count_set (by simpa using hi4)]
      have hx : listed[i] = false := by
        simp only [Array.getD, hi4, dif_pos] at hi2
        exact hi2
      have hpos : 0 < listed.toList.count false := List.count_pos_iff.2 (by rw [← hx]; simp)
      have e1 : (listed.toList[i]'(by simpa using hi4) == false) = true := by rw [Array.getElem_toList, hx]; rfl
      rw [if_pos e1, if_neg (by decide)]
      omega
    · intro j o hj hoj
      rcases (hlisted j).1 hj with e | hj2
      · subst e
        obtain rfl : l[j] = o := Option.some.inj (ho.symm.trans hoj)
        exact ⟨v, fun d hdd => by rw [hdd]; exact Slot.put_same (by rw [hN]; exact (dstsOk_at hd j _ d ho hdd).1) v, hg⟩
      · obtain ⟨u, h1, h2⟩ := hG j o hj2 hoj
        have hne : ¬ j = i := fun e => by rw [e, hnot] at hj2; cases hj2
        refine ⟨u, fun d hdd => (h1 d hdd).put_other (fun x => hne (dstsApart_at ha i j _ _ d ho hoj x hdd).symm) _, ?_⟩
        have hl : lastB md l j = false := by
          cases hb : lastB md l j with
          | false => rfl
          | true =>
            exfalso
            unfold lastB at hb
            rw [hoj] at hb
            have := List.all_eq_true.1 hb i (List.mem_range.2 hi1)
            simp only [Bool.or_eq_true, beq_iff_eq] at this
            rcases this with e | hwt
            · exact hne e.symm
            · have := hI j o i hj2 hoj hwt
              rw [hnot] at this
              cases this
        refine hdep j u a _ w' (fun d hdd => ?_) (hR j u a hj2 hl h2)
        obtain ⟨j2, oj2, hw2, hoj2, hdst⟩ := depsOk_at hdp hoj hdd
        have hj3 := hI j o j2 hj2 hoj hw2
        have hne2 : ¬ j2 = i := fun e => by rw [e, hnot] at hj3; cases hj3
        have hx : l[i].dst ≠ some d := fun x => hne2 (dstsApart_at ha i j2 _ _ d ho hoj2 x hdst).symm
        unfold Act.put
        cases hdo : l[i].dst with
        | none => rfl
        | some e =>
          simp only [Array.getElem?_setIfInBounds]
          rw [if_neg]
          intro e2
          rw [e2] at hdo
          exact hx hdo
    · intro j o k hj hoj hwk
      rcases (hlisted j).1 hj with e | hj2
      · subst e
        obtain rfl : l[j] = o := Option.some.inj (ho.symm.trans hoj)
        exact (hlisted k).2 (Or.inr (hwl k hwk))
      · exact (hlisted k).2 (Or.inr (hI j o k hj2 hoj hwk))
theorem stage_none : ∀ (sp : List Nat), stageOf (fun _ => false) sp = 0
  | [] => rfl
  | _ :: _ => rfl
theorem region_drawn3 {id : Nat} {a : Act} {w : World} (hm : P.follows .mixedOrders = true) (hsp : spineOk .any l sp = true) (hFix : ∀ (a : Act) (e : Option Tmp) (v : Value), (∀ d, e = some d → d ∉ fix) → Fix a → Fix (a.put e v)) (hst : ∀ i, Last3 .any l sp Rs i (Good i))
    (hdep : ∀ i v a a' w, (∀ d ∈ deps i, a'.tmps[d]? = a.tmps[d]?) → Good i v a w → Good i v a' w)
    (hd : dstsOk l N fix = true) (ha : dstsApart l = true) (hw : waitsOk .any l 0 = true) (hdp : depsOk .any l deps = true) (hN : a.tmps.size = N) (hF : Fix a) (hH : H 0 w.drew)
    (hfin : ∀ (a : Act) (w : World), a.tmps.size = N → Fix a → H sp.length w → (∀ i o, l[i]? = some o → ∃ v, (∀ d, o.dst = some d → Slot a d v) ∧ Good i v a w) → Q .normal a w)
    (hs : EachOp (StepOk3 P l Q .any N Fix sp H Rs Good) l 0) : (Code.region id l.toArray true).wp P Q a w := by
  refine wp_region_any hm ?_
  have none : ∀ i, (Array.replicate l.toArray.size false).getD i false = false := fun i => by
    by_cases h : i < (Array.replicate l.toArray.size false).size
    · rw [arr_getD _ _ _ h, Array.getElem_replicate]
    · simp [Array.getD, h]
  refine wpAny_drawn3 (sp := sp) hsp hFix hst hdep hd ha hw hdp hs hfin _ _ a w.drew (by simp) (by simp) hN hF ?_ (fun i o hi _ => ?_) (fun i o j hi _ _ => ?_)
  · rw [show (fun k => (Array.replicate l.toArray.size false).getD k false) = fun _ => false from funext none, stage_none]
    exact hH
  · rw [none] at hi; cases hi
  · rw [none] at hi; cases hi
/-- The same for a region that goes in its order. -/
theorem wpList_plain3 (hsp : spineOk md l sp = true) (hFix : ∀ (a : Act) (e : Option Tmp) (v : Value), (∀ d, e = some d → d ∉ fix) → Fix a → Fix (a.put e v)) (hst : ∀ i, Last3 md l sp Rs i (Good i))
    (hdep : ∀ i v a a' w, (∀ d ∈ deps i, a'.tmps[d]? = a.tmps[d]?) → Good i v a w → Good i v a' w)
    (hd : dstsOk l N fix = true) (ha : dstsApart l = true) (hw : waitsOk md l 0 = true) (hdp : depsOk md l deps = true) (hall : sp.all (fun s => decide (s < l.length)) = true) (hs : EachOp (StepOk3 P l Q md N Fix sp H Rs Good) l 0)
    (hfin : ∀ (a : Act) (w : World), a.tmps.size = N → Fix a → H sp.length w → (∀ i o, l[i]? = some o → ∃ v, (∀ d, o.dst = some d → Slot a d v) ∧ Good i v a w) → Q .normal a w) :
    ∀ (suf pre : List Oper) (a : Act) (w : World), l = pre ++ suf → a.tmps.size = N → Fix a → H (stageOf (fun k => decide (k < pre.length)) sp) w → (∀ i o, i < pre.length → l[i]? = some o → ∃ v, (∀ d, o.dst = some d → Slot a d v) ∧ Good i v a w) → wpList P l.toArray Q suf a w := by
  have wl : ∀ (i j : Nat) (o : Oper), l[i]? = some o → waits md o j = true → j < i := fun i j o ho hj => by
    obtain ⟨e, he0, hb⟩ := List.any_eq_true.1 hj
    simp only [Bool.and_eq_true, beq_iff_eq] at hb
    have := waitsOk_at hw i o ho e (by simpa using he0) hb.1
    omega
  intro suf
  induction suf with
  | nil =>
    intro pre a w hl hN hF hH hG
    rw [List.append_nil] at hl
    have full : ∀ (r : List Nat), (∀ s ∈ r, s < pre.length) → stageOf (fun k => decide (k < pre.length)) r = r.length := by
      intro r
      induction r with
      | nil => intro _; rfl
      | cons x r ih =>
        intro hr
        unfold stageOf
        rw [decide_eq_true (hr x (by simp)), if_pos rfl, ih fun s hs => hr s (by simp [hs])]
        rfl
    refine wpList_nil (hfin a w hN hF (by rw [← full sp fun s hs => by rw [← hl]; exact of_decide_eq_true (List.all_eq_true.1 hall s hs)]; exact hH) fun i o ho => hG i o ?_ ho)
    have := (List.getElem?_eq_some_iff.1 ho).1
    rw [hl] at this
    exact this
  | cons o suf ih =>
    intro pre a w hl hN hF hH hG
    have ho : l[pre.length]? = some o := by rw [hl]; simp
    have hi1 : pre.length < l.length := (List.getElem?_eq_some_iff.1 ho).1
    refine wpList_step fun K' hK' => ?_
    have hstep := EachOp.at hs pre.length o ho
    rw [Nat.zero_add] at hstep
    have hfun : (fun k => decide (k < (pre ++ [o]).length)) = fun k => k == pre.length || decide (k < pre.length) := by
      funext k
      rw [List.length_append, List.length_singleton]
      by_cases h : k = pre.length
      · subst h; simp
      · have h2 : (k == pre.length) = false := by rw [beq_eq_false_iff_ne]; exact h
        rw [h2, Bool.false_or]
        exact decide_eq_decide.2 (by omega)
    refine step3 (done := fun k => decide (k < pre.length)) hsp hst ho (by simp) (fun j hj => decide_eq_true (wl _ _ _ ho hj)) (fun j oj hj hoj m hm => decide_eq_true (by have := wl _ _ _ hoj hm; have := of_decide_eq_true hj; omega)) hstep hN hF hH (fun j oj hj hoj => hG j oj (wl _ _ _ ho hj) hoj) fun v w' hH' hR hg => hK' _ _ (ih (pre ++ [o]) _ _ (by rw [hl]; simp) (by rw [put_size]; exact hN) (hFix _ _ _ (fun d hdd => (dstsOk_at hd _ o d ho hdd).2) hF) (by rw [hfun]; exact hH') fun j oj hj hoj => ?_)
    rw [List.length_append, List.length_singleton] at hj
    by_cases e : j = pre.length
    · subst e
      obtain rfl : o = oj := Option.some.inj (ho.symm.trans hoj)
      exact ⟨v, fun d hdd => by rw [hdd]; exact Slot.put_same (by rw [hN]; exact (dstsOk_at hd _ _ d ho hdd).1) v, hg⟩
    · obtain ⟨u, h1, h2⟩ := hG j oj (by omega) hoj
      refine ⟨u, fun d hdd => (h1 d hdd).put_other (fun x => e (dstsApart_at ha _ j _ _ d ho hoj x hdd).symm) _, ?_⟩
      have hlb : lastB md l j = false := by
        cases hb : lastB md l j with
        | false => rfl
        | true =>
          exfalso
          unfold lastB at hb
          rw [hoj] at hb
          have := List.all_eq_true.1 hb pre.length (List.mem_range.2 hi1)
          simp only [Bool.or_eq_true, beq_iff_eq] at this
          rcases this with h | hwt
          · exact e h.symm
          · have := wl _ _ _ hoj hwt
            omega
      refine hdep j u a _ w' (fun d hdd => ?_) (hR j u a (decide_eq_true (by omega)) hlb h2)
      obtain ⟨j2, oj2, hw2, hoj2, hdst⟩ := depsOk_at hdp hoj hdd
      have hj3 := wl _ _ _ hoj hw2
      have hx : o.dst ≠ some d := fun x => by have := dstsApart_at ha pre.length j2 _ _ d ho hoj2 x hdst; omega
      unfold Act.put
      cases hdo : o.dst with
      | none => rfl
      | some f =>
        simp only [Array.getElem?_setIfInBounds]
        rw [if_neg]
        intro e2
        rw [e2] at hdo
        exact hx hdo
theorem region_plain3 {id : Nat} {a : Act} {w : World} (hall : sp.all (fun s => decide (s < l.length)) = true) (hsp : spineOk .any l sp = true) (hFix : ∀ (a : Act) (e : Option Tmp) (v : Value), (∀ d, e = some d → d ∉ fix) → Fix a → Fix (a.put e v)) (hst : ∀ i, Last3 .any l sp Rs i (Good i))
    (hdep : ∀ i v a a' w, (∀ d ∈ deps i, a'.tmps[d]? = a.tmps[d]?) → Good i v a w → Good i v a' w)
    (hd : dstsOk l N fix = true) (ha : dstsApart l = true) (hw : waitsOk .any l 0 = true) (hdp : depsOk .any l deps = true) (hN : a.tmps.size = N) (hF : Fix a) (hH : H 0 w)
    (hfin : ∀ (a : Act) (w : World), a.tmps.size = N → Fix a → H sp.length w → (∀ i o, l[i]? = some o → ∃ v, (∀ d, o.dst = some d → Slot a d v) ∧ Good i v a w) → Q .normal a w)
    (hs : EachOp (StepOk3 P l Q .any N Fix sp H Rs Good) l 0) : (Code.region id l.toArray false).wp P Q a w := by
  refine wp_region_lit (wpList_plain3 (sp := sp) hsp hFix hst hdep hd ha hw hdp hall hs hfin l [] a w rfl hN hF ?_ fun i o hi _ => absurd hi (Nat.not_lt_zero i))
  rw [show (fun k => decide (k < ([] : List Oper).length)) = fun _ => false from funext fun k => decide_eq_false (Nat.not_lt_zero k), stage_none]
  exact hH
end
/-- What lasts, operation by operation. -/
def AllLast3 (md : Region.Mode) (l : List Oper) (sp : List Nat) (Rs : Nat → World → World → Prop) : List (Value → Act → World → Prop) → Nat → Prop
  | [], _ => True
  | G :: r, k => Last3 md l sp Rs k G ∧ AllLast3 md l sp Rs r (k + 1)
theorem good_lasts3 {md : Region.Mode} {l : List Oper} {sp : List Nat} {Rs : Nat → World → World → Prop} : ∀ {gs : List (Value → Act → World → Prop)} {k : Nat}, AllLast3 md l sp Rs gs k → ∀ i, Last3 md l sp Rs (k + i) (goodOf2 gs i)
  | [], _, _, _ => Or.inr ⟨fun _ _ _ _ _ h => h, fun _ _ _ _ _ _ _ _ h => h⟩
  | G :: r, k, h, 0 => h.1
  | G :: r, k, h, i + 1 => by
    have := good_lasts3 (gs := r) (k := k + 1) h.2 i
    rw [show k + 1 + i = k + (i + 1) by omega] at this
    exact this
theorem good_lasts30 {md : Region.Mode} {l : List Oper} {sp : List Nat} {Rs : Nat → World → World → Prop} {gs : List (Value → Act → World → Prop)} (h : AllLast3 md l sp Rs gs 0) (i : Nat) : Last3 md l sp Rs i (goodOf2 gs i) := by
  have q := good_lasts3 h i
  rwa [Nat.zero_add] at q
section
variable {md : Region.Mode} {l : List Oper} {sp : List Nat} {Rs : Nat → World → World → Prop} {i : Nat} {G : Value → Act → World → Prop}
theorem valA_last3 (x : Value) : Last3 md l sp Rs i (valA x) := Or.inr ⟨fun _ _ _ _ _ h => h, fun _ _ _ _ _ _ _ _ h => h⟩
/-- Behind it nothing of the spine is done. -/
theorem late3 (hb : birthOf md l i sp 0 = sp.length) (h : Lasts2 Keeps G) : Last3 md l sp Rs i G := Or.inr ⟨h, fun k h1 h2 => by omega⟩
/-- It lasts in all steps of the spine. -/
theorem all3 (h : Lasts2 Keeps G) (h' : ∀ k, Lasts2 (Rs k) G) : Last3 md l sp Rs i G := Or.inr ⟨h, fun k _ _ => h' k⟩
end
theorem ptrA_keeps (B n : Nat) (T : TypeId) : Lasts2 Keeps (ptrA B n T) := fun _ _ _ _ h q => ptrA_lasts (StepM.of h) q
theorem putA_keeps (B : Nat) (d : Tmp) (cs : Array Value) (T : TypeId) : Lasts2 Keeps (putA B d cs T) := fun _ _ w w' h ⟨g, e, hg, hc⟩ => ⟨g, e, hg, (Below.block h g (lt_of_block hc)).trans hc⟩
theorem holdA_keeps (xs : List Nat) : Lasts2 Keeps (holdA xs) := fun _ _ _ _ h q => q.keeps h
/-- Great frames: a fixed slot by its place in the list; slots one by one; a literal frame; a frame laid out again. -/
theorem FixOf.get {fx : List (Tmp × Value)} {a : Act} (h : FixOf fx a) (i : Nat) {k : Tmp} {v : Value} (e : fx[i]? = some (k, v)) : Slot a k v := h.2 (k, v) (List.mem_of_getElem? e)
def AllSlot (a : Act) : List (Tmp × Value) → Prop
  | [] => True
  | x :: r => Slot a x.1 x.2 ∧ AllSlot a r
theorem AllSlot.nil {a : Act} : AllSlot a [] := trivial
theorem AllSlot.cons {a : Act} {k : Tmp} {v : Value} {ps : List (Tmp × Value)} (h : Slot a k v) (r : AllSlot a ps) : AllSlot a ((k, v) :: ps) := ⟨h, r⟩
theorem AllSlot.to {a : Act} : ∀ {ps : List (Tmp × Value)}, AllSlot a ps → ∀ x ∈ ps, Slot a x.1 x.2
  | [], _ => fun _ hx => absurd hx List.not_mem_nil
  | _ :: _, h => fun x hx => by
    rcases List.mem_cons.1 hx with e | e
    · subst e; exact h.1
    · exact AllSlot.to h.2 x e
theorem fix_of {ps : List (Tmp × Value)} {a : Act} (hd : a.defers = []) (h : AllSlot a ps) : FixOf ps a := ⟨hd, h.to⟩
theorem fix_lit {l : List Value} {ps : List (Tmp × Value)} (hb : (ps.all fun x => decide (x.1 < l.length)) = true) (hv : ps.map (fun x => x.2) = ps.map fun x => l.getD x.1 undef) : FixOf ps ⟨l.toArray, []⟩ := by
  refine ⟨rfl, fun x hx => ?_⟩
  have h1 := of_decide_eq_true (List.all_eq_true.1 hb x hx)
  have h2 := List.map_inj_left.1 hv x hx
  unfold Slot
  rw [h2]
  simp [List.getD, h1]
theorem slot_any {tm : Array Value} {N : Nat} (hN : tm.size = N) (k : Nat) (h : k < N) : ∃ y, Slot ⟨tm, []⟩ k y := ⟨tm[k], by unfold Slot; simp [hN, h]⟩
theorem arr_slots {tm : Array Value} {N : Nat} (ps : List (Tmp × Value)) (vs : List Value) (hN : tm.size = N) (hp : ps.map (fun x => x.1) = List.range N) (hv : ps.map (fun x => x.2) = vs) (h : AllSlot ⟨tm, []⟩ ps) : tm = vs.toArray := by
  have hl : ps.length = N := by have e := congrArg List.length hp; rwa [List.length_map, List.length_range] at e
  apply Array.ext
  · rw [hN, ← hv]; simp [hl]
  · intro i h1 h2
    have hi : i < ps.length := by omega
    have e1 : (ps[i]).1 = i := by
      have e := congrArg (fun l => l[i]?) hp
      simp only [List.getElem?_map, List.getElem?_eq_getElem hi, Option.map_some] at e
      rw [List.getElem?_eq_getElem (by rw [List.length_range]; omega), List.getElem_range] at e
      exact Option.some.inj e
    have s := h.to ps[i] (List.getElem_mem hi)
    unfold Slot at s
    rw [e1] at s
    have e2 := (Array.getElem?_eq_some_iff.1 s).2
    subst hv
    simpa using e2
end Go.Proofs.YtckikgfckihniaaDoor
