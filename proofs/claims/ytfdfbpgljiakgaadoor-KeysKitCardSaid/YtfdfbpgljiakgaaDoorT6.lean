/- Texts of one proof, laid together: DrawnS, Vars, KeysKit, DrawnT. -/
import Derived.Test.YtfdfbpgljiakgaaDoorT5
import Derived.Laws.StructEq
import Derived.ChangeKeysEq
set_option linter.unusedVariables false
set_option linter.unusedSimpArgs false
set_option maxRecDepth 10000
/- A region, with an invariant that goes on by stages: operations of a spine (calls, each waiting for the one ahead) change what holds; all others leave it. -/
namespace Go.Proofs.YtfdfbpgljiakgaaDoor
open Go.RowKit

/-- Where operation i stands in the spine. -/
def spIdx : List Nat → Nat → Nat → Option Nat
  | [], _, _ => none
  | s :: r, i, k => match Nat.beq s i with | true => some k | false => spIdx r i (k + 1)
theorem spIdx_none : ∀ {sp : List Nat} {i k : Nat}, spIdx sp i k = none → i ∉ sp
  | [], _, _, _ => List.not_mem_nil
  | s :: r, i, k, h => by
    unfold spIdx at h
    cases e : Nat.beq s i with
    | true => rw [e] at h; cases h
    | false =>
      rw [e] at h
      have e2 : s ≠ i := fun q => by rw [q, Nat.beq_refl] at e; cases e
      intro q
      rcases List.mem_cons.1 q with q | q
      · exact e2 q.symm
      · exact spIdx_none h q
theorem spIdx_some : ∀ {sp : List Nat} {i k m : Nat}, spIdx sp i k = some m → k ≤ m ∧ sp[m - k]? = some i ∧ i ∉ sp.take (m - k)
  | [], _, _, _, h => by cases h
  | s :: r, i, k, m, h => by
    unfold spIdx at h
    cases e : Nat.beq s i with
    | true =>
      rw [e] at h
      cases h
      have := Nat.eq_of_beq_eq_true e
      subst this
      simp
    | false =>
      rw [e] at h
      have e2 : s ≠ i := fun q => by rw [q, Nat.beq_refl] at e; cases e
      obtain ⟨h1, h2, h3⟩ := spIdx_some h
      obtain ⟨d, hd⟩ : ∃ d, m - k = d + 1 := ⟨m - k - 1, by omega⟩
      have hd2 : m - (k + 1) = d := by omega
      rw [hd2] at h2 h3
      refine ⟨by omega, by rw [hd]; exact h2, ?_⟩
      rw [hd, List.take_succ_cons]
      intro q
      rcases List.mem_cons.1 q with q | q
      · exact e2 q.symm
      · exact h3 q
/-- Each operation of the spine waits for the one ahead of it. -/
def spineOk (md : Region.Mode) (l : List Oper) : List Nat → Bool
  | [] => true
  | [s] => decide (s < l.length)
  | s :: t :: r => (match l[t]? with | none => false | some o => waits md o s) && spineOk md l (t :: r)
/-- How many of the spine are done. -/
def stageOf (done : Nat → Bool) : List Nat → Nat
  | [] => 0
  | s :: r => if done s then stageOf done r + 1 else 0
theorem stage_same {done done' : Nat → Bool} : ∀ {sp : List Nat}, (∀ s ∈ sp, done' s = done s) → stageOf done' sp = stageOf done sp
  | [], _ => rfl
  | s :: r, h => by
    unfold stageOf
    rw [h s (by simp), stage_same fun x hx => h x (by simp [hx])]
theorem stage_at {done : Nat → Bool} : ∀ {sp : List Nat} {k i : Nat}, sp[k]? = some i → (∀ s ∈ sp.take k, done s = true) → done i = false → stageOf done sp = k
  | [], _, _, h, _, _ => by simp at h
  | s :: r, 0, i, h, _, hi => by
    simp only [List.getElem?_cons_zero, Option.some.injEq] at h
    subst h
    unfold stageOf
    rw [hi]
    rfl
  | s :: r, k + 1, i, h, hd, hi => by
    unfold stageOf
    rw [hd s (by simp), if_pos rfl, stage_at (sp := r) (k := k) (by simpa using h) (fun x hx => hd x (by simp [hx])) hi]
theorem stage_next {done' : Nat → Bool} : ∀ {sp : List Nat} {k i : Nat}, sp[k]? = some i → (∀ s ∈ sp.take k, done' s = true) → done' i = true → (∀ j, sp[k + 1]? = some j → done' j = false) → stageOf done' sp = k + 1
  | [], _, _, h, _, _, _ => by simp at h
  | s :: r, 0, i, h, _, hi, hn => by
    simp only [List.getElem?_cons_zero, Option.some.injEq] at h
    subst h
    unfold stageOf
    rw [hi, if_pos rfl]
    cases r with
    | nil => rfl
    | cons t r =>
      have := hn t (by simp)
      unfold stageOf
      rw [this]
      rfl
  | s :: r, k + 1, i, h, hd, hi, hn => by
    unfold stageOf
    rw [hd s (by simp), if_pos rfl, stage_next (sp := r) (k := k) (by simpa using h) (fun x hx => hd x (by simp [hx])) hi fun j hj => hn j (by simpa using hj)]
theorem spine_waits {md : Region.Mode} {l : List Oper} : ∀ {sp : List Nat} {k i j : Nat}, spineOk md l sp = true → sp[k]? = some i → sp[k + 1]? = some j → ∃ o, l[j]? = some o ∧ waits md o i = true
  | [], _, _, _, _, h, _ => by simp at h
  | [s], 0, _, _, _, _, h => by simp at h
  | [s], k + 1, _, _, _, h, _ => by simp at h
  | s :: t :: r, 0, i, j, hs, hi, hj => by
    unfold spineOk at hs
    simp only [Bool.and_eq_true] at hs
    simp only [List.getElem?_cons_zero, Option.some.injEq] at hi
    simp only [List.getElem?_cons_succ, List.getElem?_cons_zero, Option.some.injEq] at hj
    subst hi hj
    cases e : l[t]? with
    | none => rw [e] at hs; cases hs.1
    | some o => rw [e] at hs; exact ⟨o, rfl, hs.1⟩
  | s :: t :: r, k + 1, i, j, hs, hi, hj => by
    unfold spineOk at hs
    simp only [Bool.and_eq_true] at hs
    exact spine_waits (sp := t :: r) (k := k) hs.2 (by simpa using hi) (by simpa using hj)
/-- Of the spine, what operation j is or waits for: so far at least the spine is done where j is. -/
def dirB (md : Region.Mode) (l : List Oper) (j s : Nat) : Bool := s == j || (match l[j]? with | none => false | some o => waits md o s)
def birthOf (md : Region.Mode) (l : List Oper) (j : Nat) : List Nat → Nat → Nat
  | [], _ => 0
  | s :: r, k => Nat.max (if dirB md l j s = true then k + 1 else 0) (birthOf md l j r (k + 1))
theorem birth_le {md : Region.Mode} {l : List Oper} {done : Nat → Bool} {j : Nat} (hj : done j = true) (hc : ∀ o, l[j]? = some o → ∀ i, waits md o i = true → done i = true) : ∀ {sp : List Nat} {k t : Nat}, (∀ m i, sp[m]? = some i → done i = true → k + m < t) → birthOf md l j sp k ≤ t
  | [], _, _, _ => Nat.zero_le _
  | s :: r, k, t, h => by
    unfold birthOf
    refine Nat.max_le.2 ⟨?_, birth_le hj hc (sp := r) (k := k + 1) fun m i hm hi => by have := h (m + 1) i (by simpa using hm) hi; omega⟩
    by_cases e : dirB md l j s = true
    · rw [if_pos e]
      have hs : done s = true := by
        unfold dirB at e
        rw [Bool.or_eq_true] at e
        rcases e with e | e
        · rw [beq_iff_eq] at e; rw [e]; exact hj
        · cases ho : l[j]? with
          | none => rw [ho] at e; cases e
          | some o => rw [ho] at e; exact hc o ho s e
      have := h 0 s (by simp) hs
      omega
    · rw [if_neg e]
      exact Nat.zero_le _
def StepOn (P : Program) (l : List Oper) (Q : Exit → Act → World → Prop) (md : Region.Mode) (N : Nat) (Fix : Act → Prop) (H : Nat → World → Prop) (Rs : Nat → World → World → Prop) (Good : Nat → Value → Act → World → Prop) (i : Nat) (o : Oper) (k : Nat) : Prop :=
  ∀ (a : Act) (w : World) (K : Act → World → Prop), a.tmps.size = N → Fix a → H k w →
    (∀ j oj, waits md o j = true → l[j]? = some oj → ∃ v, (∀ d, oj.dst = some d → Slot a d v) ∧ Good j v a w) →
    (∀ v w', H (k + 1) w' → Rs k w w' → Good i v (a.put o.dst v) w' → K (a.put o.dst v) w') →
    if Region.wanted o (yielded l.toArray a.tmps) = true then o.wp P a w K Q else K (a.put o.dst undef) w
def StepOff (P : Program) (l : List Oper) (Q : Exit → Act → World → Prop) (md : Region.Mode) (N : Nat) (Fix : Act → Prop) (H : Nat → World → Prop) (Good : Nat → Value → Act → World → Prop) (i : Nat) (o : Oper) : Prop :=
  ∀ (a : Act) (w : World) (K : Act → World → Prop) (t : Nat), a.tmps.size = N → Fix a → H t w →
    (∀ j oj, waits md o j = true → l[j]? = some oj → ∃ v, (∀ d, oj.dst = some d → Slot a d v) ∧ Good j v a w) →
    (∀ v w', H t w' → Keeps w w' → Good i v (a.put o.dst v) w' → K (a.put o.dst v) w') →
    if Region.wanted o (yielded l.toArray a.tmps) = true then o.wp P a w K Q else K (a.put o.dst undef) w
def StepOk3 (P : Program) (l : List Oper) (Q : Exit → Act → World → Prop) (md : Region.Mode) (N : Nat) (Fix : Act → Prop) (sp : List Nat) (H : Nat → World → Prop) (Rs : Nat → World → World → Prop) (Good : Nat → Value → Act → World → Prop) (i : Nat) (o : Oper) : Prop :=
  match spIdx sp i 0 with
  | some k => StepOn P l Q md N Fix H Rs Good i o k
  | none => StepOff P l Q md N Fix H Good i o
/-- What is said of operation i lasts. -/
def Last3 (md : Region.Mode) (l : List Oper) (sp : List Nat) (Rs : Nat → World → World → Prop) (i : Nat) (G : Value → Act → World → Prop) : Prop := lastB md l i = true ∨ (Lasts2 Keeps G ∧ ∀ k, birthOf md l i sp 0 ≤ k → k < sp.length → Lasts2 (Rs k) G)
section
variable {P : Program} {l : List Oper} {Q : Exit → Act → World → Prop} {md : Region.Mode} {N : Nat} {Fix : Act → Prop} {fix : List Tmp} {sp : List Nat} {H : Nat → World → Prop} {Rs : Nat → World → World → Prop} {Good : Nat → Value → Act → World → Prop} {deps : Nat → List Tmp}

/-- One step, told of what is done. -/
theorem step3 (hsp : spineOk md l sp = true) (hst : ∀ i, Last3 md l sp Rs i (Good i)) {done : Nat → Bool} {i : Nat} {o : Oper} (ho : l[i]? = some o) (hi : done i = false) (hw : ∀ j, waits md o j = true → done j = true)
    (hc : ∀ j oj, done j = true → l[j]? = some oj → ∀ m, waits md oj m = true → done m = true) (hs : StepOk3 P l Q md N Fix sp H Rs Good i o) {a : Act} {w : World} {K : Act → World → Prop} (hN : a.tmps.size = N) (hF : Fix a) (hH : H (stageOf done sp) w)
    (hG : ∀ j oj, waits md o j = true → l[j]? = some oj → ∃ v, (∀ d, oj.dst = some d → Slot a d v) ∧ Good j v a w)
    (h : ∀ v w', H (stageOf (fun k => k == i || done k) sp) w' → (∀ j u a', done j = true → lastB md l j = false → Good j u a' w → Good j u a' w') → Good i v (a.put o.dst v) w' → K (a.put o.dst v) w') :
    if Region.wanted o (yielded l.toArray a.tmps) = true then o.wp P a w K Q else K (a.put o.dst undef) w := by
  have back : ∀ (n k m : Nat) (x y : Nat), n = m - k → k ≤ m → sp[k]? = some x → sp[m]? = some y → done y = true → done x = true := by
    intro n
    induction n with
    | zero =>
      intro k m x y hn hkm hx hy hd
      obtain rfl : k = m := by omega
      rw [hx] at hy; cases hy; exact hd
    | succ n ih =>
      intro k m x y hn hkm hx hy hd
      obtain ⟨m', rfl⟩ : ∃ m', m = m' + 1 := ⟨m - 1, by omega⟩
      have hm' : m' < sp.length := by have := (List.getElem?_eq_some_iff.1 hy).1; omega
      obtain ⟨oy, hoy, hwy⟩ := spine_waits hsp (List.getElem?_eq_getElem hm') hy
      exact ih k m' x sp[m'] (by omega) (by omega) hx (List.getElem?_eq_getElem hm') (hc y oy hd hoy _ hwy)
  unfold StepOk3 at hs
  cases e : spIdx sp i 0 with
  | none =>
    rw [e] at hs
    have hni := spIdx_none e
    have hst2 : stageOf (fun k => k == i || done k) sp = stageOf done sp := stage_same fun s hs => by
      have : (s == i) = false := by rw [beq_eq_false_iff_ne]; exact fun q => hni (q ▸ hs)
      simp only [this, Bool.false_or]
    rw [hst2] at h
    exact hs a w K (stageOf done sp) hN hF hH hG fun v w' h1 h2 h3 => h v w' h1 (fun j u a' hj hl hg => by
      rcases hst j with q | q
      · rw [q] at hl; cases hl
      · exact q.1 u a' w w' h2 hg) h3
  | some k =>
    rw [e] at hs
    obtain ⟨_, hk, hnt⟩ := spIdx_some e
    rw [Nat.sub_zero] at hk hnt
    have hkl := (List.getElem?_eq_some_iff.1 hk).1
    have ahead : ∀ s ∈ sp.take k, done s = true := fun s hs => by
      obtain ⟨m, hm, rfl⟩ := List.getElem_of_mem hs
      rw [List.length_take] at hm
      rw [List.getElem_take]
      obtain ⟨k', rfl⟩ : ∃ k', k = k' + 1 := ⟨k - 1, by omega⟩
      have hk' : k' < sp.length := by omega
      obtain ⟨oi, hoi, hwi⟩ := spine_waits hsp (List.getElem?_eq_getElem hk') hk
      rw [ho] at hoi
      cases hoi
      exact back _ m k' _ _ rfl (by omega) (List.getElem?_eq_getElem (by omega)) (List.getElem?_eq_getElem hk') (hw _ hwi)
    have hs0 := stage_at hk ahead hi
    have later : ∀ m x, k < m → sp[m]? = some x → done x = false := fun m x hm hx => by
      cases hd : done x with
      | false => rfl
      | true =>
        have := back _ k m i x rfl (by omega) hk hx hd
        rw [hi] at this
        cases this
    have hs1 : stageOf (fun z => z == i || done z) sp = k + 1 := stage_next hk (fun s hs => by simp only [ahead s hs, Bool.or_true]) (by simp) fun j hj => by
      have h1 := later (k + 1) j (by omega) hj
      have h2 : (j == i) = false := by
        rw [beq_eq_false_iff_ne]
        intro q
        subst q
        obtain ⟨oj, hoj, hwj⟩ := spine_waits hsp hk hj
        have := hw j (by rw [ho] at hoj; cases hoj; exact hwj)
        rw [hi] at this
        cases this
      simp only [h1, h2, Bool.or_self]
    rw [hs0] at hH
    rw [hs1] at h
    refine hs a w K hN hF hH hG fun v w' h1 h2 h3 => h v w' h1 (fun j u a' hj hl hg => ?_) h3
    rcases hst j with q | q
    · rw [q] at hl; cases hl
    · have hb := birth_le (md := md) (l := l) (done := done) hj (fun oj hoj m hm => hc j oj hj hoj m hm) (sp := sp) (k := 0) (t := k) fun m x hx hd => by
        rcases Nat.lt_or_ge m k with g | g
        · omega
        · exfalso
          rcases Nat.eq_or_lt_of_le g with g2 | g2
          · subst g2; rw [hk] at hx; cases hx; rw [hi] at hd; cases hd
          · rw [later m x g2 hx] at hd; cases hd
      exact q.2 k hb hkl u a' w w' h2 hg
theorem wpAny_drawn3 (hsp : spineOk md l sp = true) (hFix : ∀ (a : Act) (e : Option Tmp) (v : Value), (∀ d, e = some d → d ∉ fix) → Fix a → Fix (a.put e v)) (hst : ∀ i, Last3 md l sp Rs i (Good i))
    (hdep : ∀ i v a a' w, (∀ d ∈ deps i, a'.tmps[d]? = a.tmps[d]?) → Good i v a w → Good i v a' w)
    (hd : dstsOk l N fix = true) (ha : dstsApart l = true) (hw : waitsOk md l 0 = true) (hdp : depsOk md l deps = true) (hs : EachOp (StepOk3 P l Q md N Fix sp H Rs Good) l 0)
    (hfin : ∀ (a : Act) (w : World), a.tmps.size = N → Fix a → H sp.length w → (∀ i o, l[i]? = some o → ∃ v, (∀ d, o.dst = some d → Slot a d v) ∧ Good i v a w) → Q .normal a w) :
    ∀ (fuel : Nat) (listed : Array Bool) (a : Act) (w : World), listed.size = l.length → listed.toList.count false ≤ fuel → a.tmps.size = N → Fix a → H (stageOf (fun k => listed.getD k false) sp) w →
      (∀ i o, listed.getD i false = true → l[i]? = some o → ∃ v, (∀ d, o.dst = some d → Slot a d v) ∧ Good i v a w) →
      (∀ i o j, listed.getD i false = true → l[i]? = some o → waits md o j = true → listed.getD j false = true) → wpAny P md l.toArray Q fuel listed a w := by
  have spIn : ∀ s ∈ sp, s < l.length := by
    have h : ∀ (sp : List Nat), spineOk md l sp = true → ∀ s ∈ sp, s < l.length := by
      intro sp
      induction sp with
      | nil => intro _ s hs; cases hs
      | cons x r ih =>
        intro hx s hs
        cases r with
        | nil =>
          unfold spineOk at hx
          rw [List.mem_singleton] at hs
          rw [hs]
          exact of_decide_eq_true hx
        | cons t r =>
          have h0 := hx
          unfold spineOk at hx
          simp only [Bool.and_eq_true] at hx
          rcases List.mem_cons.1 hs with hs | hs
          · subst hs
            cases e : l[t]? with
            | none => rw [e] at hx; cases hx.1
            | some o =>
              rw [e] at hx
              have h1 := (List.getElem?_eq_some_iff.1 e).1
              obtain ⟨f, hf0, hb⟩ := List.any_eq_true.1 hx.1
              simp only [Bool.and_eq_true, beq_iff_eq] at hb
              have := waitsOk_at hw t o e f (by simpa using hf0) hb.1
              omega
          · exact ih hx.2 s hs
    exact h sp hsp
  have full : ∀ (listed : Array Bool), (∀ i, i < l.length → listed.getD i false = true) → stageOf (fun k => listed.getD k false) sp = sp.length := by
    intro listed hall
    have h : ∀ (r : List Nat), (∀ s ∈ r, listed.getD s false = true) → stageOf (fun k => listed.getD k false) r = r.length := by
      intro r
      induction r with
      | nil => intro _; rfl
      | cons x r ih =>
        intro hr
        unfold stageOf
        rw [hr x (by simp), if_pos rfl, ih fun s hs => hr s (by simp [hs])]
        rfl
    exact h sp fun s hs => hall s (spIn s hs)
  have all_in : ∀ (listed : Array Bool), Region.ready md l.toArray listed = [] → listed.size = l.length → ∀ i, i < l.length → listed.getD i false = true := by
    intro listed hr hsz i
    induction i using Nat.strongRecOn with
    | _ i ih =>
      intro hi
      cases hg : listed.getD i false with
      | true => rfl
      | false =>
        exfalso
        have hin : i ∈ Region.ready md l.toArray listed := by
          simp only [Region.ready, List.mem_filter, List.mem_range, List.size_toArray]
          refine ⟨hi, ?_⟩
          have hx : listed.getD i true = false := by
            have hi2 : i < listed.size := by omega
            simp only [Array.getD, hi2, dif_pos] at hg ⊢
            exact hg
          have ho : l.toArray[i]? = some l[i] := by simp [hi]
          rw [hx, ho]
          simp only [Bool.not_false, Bool.true_and, Option.map_some, Option.getD_some]
          refine Array.all_eq_true_iff_forall_mem.2 fun e he => ?_
          cases hb : Region.binds md e with
          | false => rfl
          | true =>
            have h1 := waitsOk_at hw i l[i] (by simp [hi]) e he hb
            have h2 := ih e.on (by omega) (by omega)
            simpa using h2
        rw [hr] at hin
        cases hin
  intro fuel
  induction fuel with
  | zero =>
    intro listed a w hsz hc hN hF hH hG _
    have hall : ∀ i, i < l.length → listed.getD i false = true := fun i hi => by
      have hi2 : i < listed.size := by omega
      have h0 : listed.toList.count false = 0 := by omega
      have h1 := List.count_eq_zero.1 h0
      have h2 : listed[i] ∈ listed.toList := by simp
      have h3 : listed[i] ≠ false := fun e => h1 (e ▸ h2)
      simp only [Array.getD, hi2, dif_pos]
      simpa using h3
    refine ⟨?_, hfin a w hN hF (by rw [← full listed hall]; exact hH) fun i o ho => hG i o (hall i (List.getElem?_eq_some_iff.1 ho).1) ho⟩
    simp only [Region.ready, List.filter_eq_nil_iff, List.mem_range, List.size_toArray]
    intro i hi
    have := hall i hi
    have hi2 : i < listed.size := by omega
    rw [arr_getD _ _ _ hi2] at this
    rw [arr_getD _ _ _ hi2, this]
    simp
  | succ fuel ih =>
    intro listed a w hsz hc hN hF hH hG hI
    refine ⟨fun hr => hfin a w hN hF (by rw [← full listed (all_in listed hr hsz)]; exact hH) fun i o ho => hG i o (all_in listed hr hsz i (List.getElem?_eq_some_iff.1 ho).1) ho, fun i hi => ?_⟩
    simp only [Region.ready, List.mem_filter, List.mem_range, List.size_toArray, Bool.and_eq_true, Bool.not_eq_true'] at hi
    obtain ⟨hi1, hi2, hi3⟩ := hi
    have ho : l[i]? = some l[i] := by simp [hi1]
    have ho2 : l.toArray[i]? = some l[i] := by simp [hi1]
    rw [ho2] at hi3
    simp only [Option.map_some, Option.getD_some] at hi3
    have hnot : listed.getD i false = false := by
      have hi4 : i < listed.size := by omega
      simp only [Array.getD, hi4, dif_pos] at hi2 ⊢
      exact hi2
    have hwl : ∀ j, waits md l[i] j = true → listed.getD j false = true := fun j hj => by
      obtain ⟨e, he0, hb⟩ := List.any_eq_true.1 hj
      have he : e ∈ l[i].after := by simpa using he0
      simp only [Bool.and_eq_true, beq_iff_eq] at hb
      have := Array.all_eq_true_iff_forall_mem.1 hi3 e he
      rw [hb.1, hb.2] at this
      simpa using this
    have hdeps : ∀ j oj, waits md l[i] j = true → l[j]? = some oj → ∃ v, (∀ d, oj.dst = some d → Slot a d v) ∧ Good j v a w := fun j oj hj hoj => hG j oj (hwl j hj) hoj
    refine wpOp_step ho2 fun K' hK' => ?_
    have hstep := EachOp.at hs i l[i] ho
    rw [Nat.zero_add] at hstep
    have hlisted : ∀ j, (listed.setIfInBounds i true).getD j false = true ↔ (j = i ∨ listed.getD j false = true) := fun j => by
      have hi4 : i < listed.size := by omega
      by_cases hlt : j < listed.size
      · rw [arr_getD _ _ _ (by simpa using hlt), arr_getD _ _ _ hlt]
        by_cases e : i = j
        · subst e; simp
        · rw [Array.getElem_setIfInBounds_ne hlt e]
          constructor
          · exact Or.inr
          · rintro (h | h)
            · exact absurd h.symm e
            · exact h
      · have : ¬ j = i := by omega
        simp [Array.getD, hlt, this]
    have hfun : (fun k => (listed.setIfInBounds i true).getD k false) = fun k => k == i || listed.getD k false := by
      funext k
      have := hlisted k
      cases h1 : (listed.setIfInBounds i true).getD k false with
      | true =>
        rcases this.1 h1 with h | h
        · subst h; simp
        · rw [h]; simp
      | false =>
        symm
        rw [Bool.or_eq_false_iff]
        constructor
        · rw [beq_eq_false_iff_ne]
          intro q
          rw [this.2 (Or.inl q)] at h1
          cases h1
        · cases h2 : listed.getD k false with
          | false => rfl
          | true => rw [this.2 (Or.inr h2)] at h1; cases h1
    refine step3 (done := fun k => listed.getD k false) hsp hst ho hnot hwl (fun j oj hj hoj m hm => hI j oj m hj hoj hm) hstep hN hF hH hdeps fun v w' hH' hR hg => hK' _ _ (ih _ _ _ (by simpa using hsz) ?_ (by rw [put_size]; exact hN) (hFix _ _ _ (fun d hdd => (dstsOk_at hd i l[i] d ho hdd).2) hF) (by rw [hfun]; exact hH') ?_ ?_)
    · have hi4 : i < listed.size := by omega
      rw [Array.toList_setIfInBounds, List.count_set (by simpa using hi4)]
      have hx : listed[i] = false := by
        simp only [Array.getD, hi4, dif_pos] at hi2
        exact hi2
      have hpos : 0 < listed.toList.count false := List.count_pos_iff.2 (by rw [← hx]; simp)
      have e1 : (listed.toList[i]'(by simpa using hi4) == false) = true := by rw [Array.getElem_toList, hx]; rfl
      rw [if_pos e1, if_neg (by decide)]
      omega
    · intro j o hj hoj
      rcases (hlisted j).1 hj with e | hj2
      · subst e
        obtain rfl : l[j] = o := Option.some.inj (ho.symm.trans hoj)
        exact ⟨v, fun d hdd => by rw [hdd]; exact Slot.put_same (by rw [hN]; exact (dstsOk_at hd j _ d ho hdd).1) v, hg⟩
      · obtain ⟨u, h1, h2⟩ := hG j o hj2 hoj
        have hne : ¬ j = i := fun e => by rw [e, hnot] at hj2; cases hj2
        refine ⟨u, fun d hdd => (h1 d hdd).put_other (fun x => hne (dstsApart_at ha i j _ _ d ho hoj x hdd).symm) _, ?_⟩
        have hl : lastB md l j = false := by
          cases hb : lastB md l j with
          | false => rfl
          | true =>
            exfalso
            unfold lastB at hb
            rw [hoj] at hb
            have := List.all_eq_true.1 hb i (List.mem_range.2 hi1)
            simp only [Bool.or_eq_true, beq_iff_eq] at this
            rcases this with e | hwt
            · exact hne e.symm
            · have := hI j o i hj2 hoj hwt
              rw [hnot] at this
              cases this
        refine hdep j u a _ w' (fun d hdd => ?_) (hR j u a hj2 hl h2)
        obtain ⟨j2, oj2, hw2, hoj2, hdst⟩ := depsOk_at hdp hoj hdd
        have hj3 := hI j o j2 hj2 hoj hw2
        have hne2 : ¬ j2 = i := fun e => by rw [e, hnot] at hj3; cases hj3
        have hx : l[i].dst ≠ some d := fun x => hne2 (dstsApart_at ha i j2 _ _ d ho hoj2 x hdst).symm
        unfold Act.put
        cases hdo : l[i].dst with
        | none => rfl
        | some e =>
          simp only [Array.getElem?_setIfInBounds]
          rw [if_neg]
          intro e2
          rw [e2] at hdo
          exact hx hdo
    · intro j o k hj hoj hwk
      rcases (hlisted j).1 hj with e | hj2
      · subst e
        obtain rfl : l[j] = o := Option.some.inj (ho.symm.trans hoj)
        exact (hlisted k).2 (Or.inr (hwl k hwk))
      · exact (hlisted k).2 (Or.inr (hI j o k hj2 hoj hwk))
theorem stage_none : ∀ (sp : List Nat), stageOf (fun _ => false) sp = 0
  | [] => rfl
  | _ :: _ => rfl
theorem region_drawn3 {id : Nat} {a : Act} {w : World} (hm : P.follows .mixedOrders = true) (hsp : spineOk .any l sp = true) (hFix : ∀ (a : Act) (e : Option Tmp) (v : Value), (∀ d, e = some d → d ∉ fix) → Fix a → Fix (a.put e v)) (hst : ∀ i, Last3 .any l sp Rs i (Good i))
    (hdep : ∀ i v a a' w, (∀ d ∈ deps i, a'.tmps[d]? = a.tmps[d]?) → Good i v a w → Good i v a' w)
    (hd : dstsOk l N fix = true) (ha : dstsApart l = true) (hw : waitsOk .any l 0 = true) (hdp : depsOk .any l deps = true) (hN : a.tmps.size = N) (hF : Fix a) (hH : H 0 w.drew)
    (hfin : ∀ (a : Act) (w : World), a.tmps.size = N → Fix a → H sp.length w → (∀ i o, l[i]? = some o → ∃ v, (∀ d, o.dst = some d → Slot a d v) ∧ Good i v a w) → Q .normal a w)
    (hs : EachOp (StepOk3 P l Q .any N Fix sp H Rs Good) l 0) : (Code.region id l.toArray true).wp P Q a w := by
  refine wp_region_any hm ?_
  have none : ∀ i, (Array.replicate l.toArray.size false).getD i false = false := fun i => by
    by_cases h : i < (Array.replicate l.toArray.size false).size
    · rw [arr_getD _ _ _ h, Array.getElem_replicate]
    · simp [Array.getD, h]
  refine wpAny_drawn3 (sp := sp) hsp hFix hst hdep hd ha hw hdp hs hfin _ _ a w.drew (by simp) (by simp) hN hF ?_ (fun i o hi _ => ?_) (fun i o j hi _ _ => ?_)
  · rw [show (fun k => (Array.replicate l.toArray.size false).getD k false) = fun _ => false from funext none, stage_none]
    exact hH
  · rw [none] at hi; cases hi
  · rw [none] at hi; cases hi
/-- The same for a region that goes in its order. -/
theorem wpList_plain3 (hsp : spineOk md l sp = true) (hFix : ∀ (a : Act) (e : Option Tmp) (v : Value), (∀ d, e = some d → d ∉ fix) → Fix a → Fix (a.put e v)) (hst : ∀ i, Last3 md l sp Rs i (Good i))
    (hdep : ∀ i v a a' w, (∀ d ∈ deps i, a'.tmps[d]? = a.tmps[d]?) → Good i v a w → Good i v a' w)
    (hd : dstsOk l N fix = true) (ha : dstsApart l = true) (hw : waitsOk md l 0 = true) (hdp : depsOk md l deps = true) (hall : sp.all (fun s => decide (s < l.length)) = true) (hs : EachOp (StepOk3 P l Q md N Fix sp H Rs Good) l 0)
    (hfin : ∀ (a : Act) (w : World), a.tmps.size = N → Fix a → H sp.length w → (∀ i o, l[i]? = some o → ∃ v, (∀ d, o.dst = some d → Slot a d v) ∧ Good i v a w) → Q .normal a w) :
    ∀ (suf pre : List Oper) (a : Act) (w : World), l = pre ++ suf → a.tmps.size = N → Fix a → H (stageOf (fun k => decide (k < pre.length)) sp) w → (∀ i o, i < pre.length → l[i]? = some o → ∃ v, (∀ d, o.dst = some d → Slot a d v) ∧ Good i v a w) → wpList P l.toArray Q suf a w := by
  have wl : ∀ (i j : Nat) (o : Oper), l[i]? = some o → waits md o j = true → j < i := fun i j o ho hj => by
    obtain ⟨e, he0, hb⟩ := List.any_eq_true.1 hj
    simp only [Bool.and_eq_true, beq_iff_eq] at hb
    have := waitsOk_at hw i o ho e (by simpa using he0) hb.1
    omega
  intro suf
  induction suf with
  | nil =>
    intro pre a w hl hN hF hH hG
    rw [List.append_nil] at hl
    have full : ∀ (r : List Nat), (∀ s ∈ r, s < pre.length) → stageOf (fun k => decide (k < pre.length)) r = r.length := by
      intro r
      induction r with
      | nil => intro _; rfl
      | cons x r ih =>
        intro hr
        unfold stageOf
        rw [decide_eq_true (hr x (by simp)), if_pos rfl, ih fun s hs => hr s (by simp [hs])]
        rfl
    refine wpList_nil (hfin a w hN hF (by rw [← full sp fun s hs => by rw [← hl]; exact of_decide_eq_true (List.all_eq_true.1 hall s hs)]; exact hH) fun i o ho => hG i o ?_ ho)
    have := (List.getElem?_eq_some_iff.1 ho).1
    rw [hl] at this
    exact this
  | cons o suf ih =>
    intro pre a w hl hN hF hH hG
    have ho : l[pre.length]? = some o := by rw [hl]; simp
    have hi1 : pre.length < l.length := (List.getElem?_eq_some_iff.1 ho).1
    refine wpList_step fun K' hK' => ?_
    have hstep := EachOp.at hs pre.length o ho
    rw [Nat.zero_add] at hstep
    have hfun : (fun k => decide (k < (pre ++ [o]).length)) = fun k => k == pre.length || decide (k < pre.length) := by
      funext k
      rw [List.length_append, List.length_singleton]
      by_cases h : k = pre.length
      · subst h; simp
      · have h2 : (k == pre.length) = false := by rw [beq_eq_false_iff_ne]; exact h
        rw [h2, Bool.false_or]
        exact decide_eq_decide.2 (by omega)
    refine step3 (done := fun k => decide (k < pre.length)) hsp hst ho (by simp) (fun j hj => decide_eq_true (wl _ _ _ ho hj)) (fun j oj hj hoj m hm => decide_eq_true (by have := wl _ _ _ hoj hm; have := of_decide_eq_true hj; omega)) hstep hN hF hH (fun j oj hj hoj => hG j oj (wl _ _ _ ho hj) hoj) fun v w' hH' hR hg => hK' _ _ (ih (pre ++ [o]) _ _ (by rw [hl]; simp) (by rw [put_size]; exact hN) (hFix _ _ _ (fun d hdd => (dstsOk_at hd _ o d ho hdd).2) hF) (by rw [hfun]; exact hH') fun j oj hj hoj => ?_)
    rw [List.length_append, List.length_singleton] at hj
    by_cases e : j = pre.length
    · subst e
      obtain rfl : o = oj := Option.some.inj (ho.symm.trans hoj)
      exact ⟨v, fun d hdd => by rw [hdd]; exact Slot.put_same (by rw [hN]; exact (dstsOk_at hd _ _ d ho hdd).1) v, hg⟩
    · obtain ⟨u, h1, h2⟩ := hG j oj (by omega) hoj
      refine ⟨u, fun d hdd => (h1 d hdd).put_other (fun x => e (dstsApart_at ha _ j _ _ d ho hoj x hdd).symm) _, ?_⟩
      have hlb : lastB md l j = false := by
        cases hb : lastB md l j with
        | false => rfl
        | true =>
          exfalso
          unfold lastB at hb
          rw [hoj] at hb
          have := List.all_eq_true.1 hb pre.length (List.mem_range.2 hi1)
          simp only [Bool.or_eq_true, beq_iff_eq] at this
          rcases this with h | hwt
          · exact e h.symm
          · have := wl _ _ _ hoj hwt
            omega
      refine hdep j u a _ w' (fun d hdd => ?_) (hR j u a (decide_eq_true (by omega)) hlb h2)
      obtain ⟨j2, oj2, hw2, hoj2, hdst⟩ := depsOk_at hdp hoj hdd
      have hj3 := wl _ _ _ hoj hw2
      have hx : o.dst ≠ some d := fun x => by have := dstsApart_at ha pre.length j2 _ _ d ho hoj2 x hdst; omega
      unfold Act.put
      cases hdo : o.dst with
      | none => rfl
      | some f =>
        simp only [Array.getElem?_setIfInBounds]
        rw [if_neg]
        intro e2
        rw [e2] at hdo
        exact hx hdo
theorem region_plain3 {id : Nat} {a : Act} {w : World} (hall : sp.all (fun s => decide (s < l.length)) = true) (hsp : spineOk .any l sp = true) (hFix : ∀ (a : Act) (e : Option Tmp) (v : Value), (∀ d, e = some d → d ∉ fix) → Fix a → Fix (a.put e v)) (hst : ∀ i, Last3 .any l sp Rs i (Good i))
    (hdep : ∀ i v a a' w, (∀ d ∈ deps i, a'.tmps[d]? = a.tmps[d]?) → Good i v a w → Good i v a' w)
    (hd : dstsOk l N fix = true) (ha : dstsApart l = true) (hw : waitsOk .any l 0 = true) (hdp : depsOk .any l deps = true) (hN : a.tmps.size = N) (hF : Fix a) (hH : H 0 w)
    (hfin : ∀ (a : Act) (w : World), a.tmps.size = N → Fix a → H sp.length w → (∀ i o, l[i]? = some o → ∃ v, (∀ d, o.dst = some d → Slot a d v) ∧ Good i v a w) → Q .normal a w)
    (hs : EachOp (StepOk3 P l Q .any N Fix sp H Rs Good) l 0) : (Code.region id l.toArray false).wp P Q a w := by
  refine wp_region_lit (wpList_plain3 (sp := sp) hsp hFix hst hdep hd ha hw hdp hall hs hfin l [] a w rfl hN hF ?_ fun i o hi _ => absurd hi (Nat.not_lt_zero i))
  rw [show (fun k => decide (k < ([] : List Oper).length)) = fun _ => false from funext fun k => decide_eq_false (Nat.not_lt_zero k), stage_none]
  exact hH
end
/-- What lasts, operation by operation. -/
def AllLast3 (md : Region.Mode) (l : List Oper) (sp : List Nat) (Rs : Nat → World → World → Prop) : List (Value → Act → World → Prop) → Nat → Prop
  | [], _ => True
  | G :: r, k => Last3 md l sp Rs k G ∧ AllLast3 md l sp Rs r (k + 1)
theorem good_lasts3 {md : Region.Mode} {l : List Oper} {sp : List Nat} {Rs : Nat → World → World → Prop} : ∀ {gs : List (Value → Act → World → Prop)} {k : Nat}, AllLast3 md l sp Rs gs k → ∀ i, Last3 md l sp Rs (k + i) (goodOf2 gs i)
  | [], _, _, _ => Or.inr ⟨fun _ _ _ _ _ h => h, fun _ _ _ _ _ _ _ _ h => h⟩
  | G :: r, k, h, 0 => h.1
  | G :: r, k, h, i + 1 => by
    have := good_lasts3 (gs := r) (k := k + 1) h.2 i
    rw [show k + 1 + i = k + (i + 1) by omega] at this
    exact this
theorem good_lasts30 {md : Region.Mode} {l : List Oper} {sp : List Nat} {Rs : Nat → World → World → Prop} {gs : List (Value → Act → World → Prop)} (h : AllLast3 md l sp Rs gs 0) (i : Nat) : Last3 md l sp Rs i (goodOf2 gs i) := by
  have q := good_lasts3 h i
  rwa [Nat.zero_add] at q
section
variable {md : Region.Mode} {l : List Oper} {sp : List Nat} {Rs : Nat → World → World → Prop} {i : Nat} {G : Value → Act → World → Prop}
theorem valA_last3 (x : Value) : Last3 md l sp Rs i (valA x) := Or.inr ⟨fun _ _ _ _ _ h => h, fun _ _ _ _ _ _ _ _ h => h⟩
/-- Behind it nothing of the spine is done. -/
theorem late3 (hb : birthOf md l i sp 0 = sp.length) (h : Lasts2 Keeps G) : Last3 md l sp Rs i G := Or.inr ⟨h, fun k h1 h2 => by omega⟩
/-- It lasts in all steps of the spine. -/
theorem all3 (h : Lasts2 Keeps G) (h' : ∀ k, Lasts2 (Rs k) G) : Last3 md l sp Rs i G := Or.inr ⟨h, fun k _ _ => h' k⟩
end
theorem ptrA_keeps (B n : Nat) (T : TypeId) : Lasts2 Keeps (ptrA B n T) := fun _ _ _ _ h q => ptrA_lasts (StepM.of h) q
theorem putA_keeps (B : Nat) (d : Tmp) (cs : Array Value) (T : TypeId) : Lasts2 Keeps (putA B d cs T) := fun _ _ w w' h ⟨g, e, hg, hc⟩ => ⟨g, e, hg, (Below.block h g (lt_of_block hc)).trans hc⟩
theorem holdA_keeps (xs : List Nat) : Lasts2 Keeps (holdA xs) := fun _ _ _ _ h q => q.keeps h
/-- Great frames: a fixed slot by its place in the list; slots one by one; a literal frame; a frame laid out again. -/
theorem FixOf.get {fx : List (Tmp × Value)} {a : Act} (h : FixOf fx a) (i : Nat) {k : Tmp} {v : Value} (e : fx[i]? = some (k, v)) : Slot a k v := h.2 (k, v) (List.mem_of_getElem? e)
def AllSlot (a : Act) : List (Tmp × Value) → Prop
  | [] => True
  | x :: r => Slot a x.1 x.2 ∧ AllSlot a r
theorem AllSlot.nil {a : Act} : AllSlot a [] := trivial
theorem AllSlot.cons {a : Act} {k : Tmp} {v : Value} {ps : List (Tmp × Value)} (h : Slot a k v) (r : AllSlot a ps) : AllSlot a ((k, v) :: ps) := ⟨h, r⟩
theorem AllSlot.to {a : Act} : ∀ {ps : List (Tmp × Value)}, AllSlot a ps → ∀ x ∈ ps, Slot a x.1 x.2
  | [], _ => fun _ hx => absurd hx List.not_mem_nil
  | _ :: _, h => fun x hx => by
    rcases List.mem_cons.1 hx with e | e
    · subst e; exact h.1
    · exact AllSlot.to h.2 x e
theorem fix_of {ps : List (Tmp × Value)} {a : Act} (hd : a.defers = []) (h : AllSlot a ps) : FixOf ps a := ⟨hd, h.to⟩
theorem fix_lit {l : List Value} {ps : List (Tmp × Value)} (hb : (ps.all fun x => decide (x.1 < l.length)) = true) (hv : ps.map (fun x => x.2) = ps.map fun x => l.getD x.1 undef) : FixOf ps ⟨l.toArray, []⟩ := by
  refine ⟨rfl, fun x hx => ?_⟩
  have h1 := of_decide_eq_true (List.all_eq_true.1 hb x hx)
  have h2 := List.map_inj_left.1 hv x hx
  unfold Slot
  rw [h2]
  simp [List.getD, h1]
theorem slot_any {tm : Array Value} {N : Nat} (hN : tm.size = N) (k : Nat) (h : k < N) : ∃ y, Slot ⟨tm, []⟩ k y := ⟨tm[k], by unfold Slot; simp [hN, h]⟩
theorem arr_slots {tm : Array Value} {N : Nat} (ps : List (Tmp × Value)) (vs : List Value) (hN : tm.size = N) (hp : ps.map (fun x => x.1) = List.range N) (hv : ps.map (fun x => x.2) = vs) (h : AllSlot ⟨tm, []⟩ ps) : tm = vs.toArray := by
  have hl : ps.length = N := by have e := congrArg List.length hp; rwa [List.length_map, List.length_range] at e
  apply Array.ext
  · rw [hN, ← hv]; simp [hl]
  · intro i h1 h2
    have hi : i < ps.length := by omega
    have e1 : (ps[i]).1 = i := by
      have e := congrArg (fun l => l[i]?) hp
      simp only [List.getElem?_map, List.getElem?_eq_getElem hi, Option.map_some] at e
      rw [List.getElem?_eq_getElem (by rw [List.length_range]; omega), List.getElem_range] at e
      exact Option.some.inj e
    have s := h.to ps[i] (List.getElem_mem hi)
    unfold Slot at s
    rw [e1] at s
    have e2 := (Array.getElem?_eq_some_iff.1 s).2
    subst hv
    simpa using e2
end Go.Proofs.YtfdfbpgljiakgaaDoor
/- Variables of any cells: made, written as a whole, read as a whole or by parts. -/
namespace Go.Proofs.YtfdfbpgljiakgaaDoor
open Go.RowKit

/-- Block z is a variable of type T with these cells. -/
def VarC (T : TypeId) (w : World) (z : Nat) (cs : List Value) : Prop := w.heap[z]? = some (.cells cs.toArray T (0, 0))
section
variable {T : TypeId} {w w' : World} {z : Nat} {cs ds : List Value}
theorem VarC.size (h : VarC T w z cs) : z < w.heap.size := lt_of_block h
theorem VarC.keeps (h : VarC T w z cs) (k : Keeps w w') : VarC T w' z cs := (Below.block k z h.size).trans h
theorem VarC.new (w : World) (cs : List Value) : VarC T (w.alloc (.cells cs.toArray T)) w.heap.size cs := (MapKept.heap_alloc w _).1
theorem VarC.cell (h : VarC T w z cs) (i : Nat) (v : Value) (e : cs[i]? = some v) : w.cell? ⟨z, i, none⟩ = some v := by
  simp only [World.cell?, show w.heap[z]? = _ from h]
  simpa using e
theorem VarC.free (h : VarC T w z cs) (i : Nat) : w.frozen? ⟨z, i, none⟩ = false := by simp [World.frozen?, show w.heap[z]? = _ from h]
theorem VarC.range (h : VarC T w z cs) : w.rangeAt z 0 cs := fun j v hj => by
  rw [Nat.zero_add]; exact h.cell j v hj
/-- A part of the cells. -/
theorem VarC.part (h : VarC T w z (ds ++ cs)) (n : Nat) (hn : ds.length = n) : w.rangeAt z n cs := fun j v hj => by
  subst hn
  refine h.cell _ v ?_
  rw [List.getElem?_append_right (by omega), Nat.add_sub_cancel_left, hj]
theorem VarC.mid {es : List Value} (h : VarC T w z (ds ++ (cs ++ es))) (n : Nat) (hn : ds.length = n) : w.rangeAt z n cs := fun j v hj => by
  subst hn
  refine h.cell _ v ?_
  have hl := (List.getElem?_eq_some_iff.1 hj).1
  rw [List.getElem?_append_right (by omega), Nat.add_sub_cancel_left, List.getElem?_append_left hl, hj]
theorem VarC.setRow (h : VarC T w z cs) : VarC T (w.setRow z ds.toArray) z ds := setRow_heap w z _ _ T (0, 0) h
theorem VarC.other {g : Nat} (h : VarC T w z cs) (c : Array Value) (hn : z ≠ g) : VarC T (w.setRow g c) z cs := (setRow_other w g z c hn).trans h
end
/-- A whole variable is written. -/
theorem wp_store_var {P : Program} {T T' : TypeId} {G : Nat} {cs : List Value} {old : Array Value} {o : Oper} {a : Act} {w : World} {K : Act → World → Prop} {Q : Exit → Act → World → Prop} (hi : (P.info? T).map (·.size) = some cs.length) (h1 : ∀ v ∈ cs, v.oneCell' = true) (x y : Operand) (ho : o.op = .store T x y)
    (hx : a.eval x = .pointer (some ⟨G, 0, none⟩)) (hy : a.eval y = .agg cs.toArray) (hA : w.heap[G]? = some (Obj.cells old T' (0, 0))) (hz : old.size = cs.length) (h : K (a.put o.dst undef) (w.setRow G cs.toArray)) : o.wp P a w K Q := by
  have e := run_storeVar_row (P := P) w G T' T old cs.toArray hA (by simpa using hi) (by simpa using hz) (all_oneCell_toArray h1)
  unfold Oper.wp execOp
  simp only [ho, hx, hy, Instr.storeAt, Instr.sureAddr, Sem.run_bind, Sem.run_pure, Result.andThen_ok, e]
  exact h
theorem putC_size {old : Array Value} {n : Nat} {cs : List Value} (h : old.size = n) (e : cs.length = n) : cs.toArray.size = old.size := by simp [h, e]
/-- A part of many cells is laid into a value that is built. -/
theorem fold_set_from (n : Nat) : ∀ (vs : List Value) (k : Nat) (A Z : List Value), A.length = n + k → Z.length = vs.length → List.foldl (fun cs x => cs.setIfInBounds (n + x.snd) x.fst) (A ++ Z).toArray (vs.zipIdx k) = (A ++ vs).toArray := by
  intro vs
  induction vs with
  | nil => intro k A Z hA hZ; rw [List.eq_nil_of_length_eq_zero hZ]; rfl
  | cons v r ih =>
    intro k A Z hA hZ
    cases Z with
    | nil => simp at hZ
    | cons y Z =>
      rw [List.zipIdx_cons, List.foldl_cons]
      have e : (A ++ y :: Z).toArray.setIfInBounds (n + k) v = ((A ++ [v]) ++ Z).toArray := by
        rw [List.setIfInBounds_toArray, ← hA, List.set_append_right _ _ (Nat.le_refl _), Nat.sub_self, List.set_cons_zero, List.append_assoc]; rfl
      show List.foldl _ ((A ++ y :: Z).toArray.setIfInBounds (n + k) v) _ = _
      rw [e, ih (k + 1) (A ++ [v]) Z (by rw [List.length_append, hA]; rfl) (by simpa using hZ), List.append_assoc]
      rfl
theorem fold_set (A Z vs : List Value) (h : Z.length = vs.length) : List.foldl (fun cs x => cs.setIfInBounds (A.length + x.snd) x.fst) (A ++ Z).toArray vs.zipIdx = (A ++ vs).toArray := fold_set_from A.length vs 0 A Z rfl h
/-- Structs are held against each other, as a whole. -/
theorem exec_eql_row {P : Program} {ρ : Operand → Value} {o : Oper} {T T2 : TypeId} {x y : Operand} {xs ys : Array Value} {b : Bool} {w : World} (ho : o.op = .binOp .eql T x y T2) (hx : ρ x = .agg xs) (hy : ρ y = .agg ys) (hm : P.eqGuardType P.depth T = false) (he : (Op.equalIn 10000 T (.agg xs) (.agg ys)).run P w = .ok b w) :
    (execOp ρ o).run P w = .ok (Next.value (.bool b)) w := by
  unfold execOp
  simp only [ho, hx, hy]
  rw [Sem.run_bind, Sem.run_bind, run_eqGuard_agg w _ _ _ _ _ _ hm, Result.andThen_ok, run_eql_struct, he]
  rfl
theorem exec_neq_row {P : Program} {ρ : Operand → Value} {o : Oper} {T T2 : TypeId} {x y : Operand} {xs ys : Array Value} {b : Bool} {w : World} (ho : o.op = .binOp .neq T x y T2) (hx : ρ x = .agg xs) (hy : ρ y = .agg ys) (hm : P.eqGuardType P.depth T = false) (he : (Op.equalIn 10000 T (.agg xs) (.agg ys)).run P w = .ok b w) :
    (execOp ρ o).run P w = .ok (Next.value (.bool (!b))) w := by
  unfold execOp
  simp only [ho, hx, hy]
  rw [Sem.run_bind, Sem.run_bind, run_eqGuard_agg w _ _ _ _ _ _ hm, Result.andThen_ok, run_neq_struct, he]
  rfl
end Go.Proofs.YtfdfbpgljiakgaaDoor
/- What is asked of package keys, as contracts: in a world of which R holds; kits and their points in memory. -/
namespace Go.Proofs.YtfdfbpgljiakgaaDoor
open Go.RowKit Go.FieldMath Go.PointMath Go.HashMath

/-- A kit's cells. -/
def kitC (K : KitN) : List Value := [.int .u64 (K.fund : Int), .int .u64 (K.pay : Int), .int .u64 (K.late : Int), .int .u64 (K.cond : Int), .int .u64 (K.rev : Int)] ++ vals8 K.chain
theorem kit_len {K : KitN} (h : KitOk K) : (kitC K).length = 37 := by
  have := h.2.2.2.2.2.1
  simp [kitC, vals8, this]
theorem kit_one (K : KitN) : ∀ v ∈ kitC K, v.oneCell' = true := by
  intro v hv
  rcases List.mem_append.1 hv with h | h
  · simp only [List.mem_cons, List.not_mem_nil, or_false] at h
    rcases h with rfl | rfl | rfl | rfl | rfl <;> rfl
  · obtain ⟨x, _, rfl⟩ := List.mem_map.1 h; rfl
theorem undKit : Tryd.prog.underlying 28 = some (.struct (Tryd.prog.fieldsOf 28)) := by kernel_rfl
theorem sizKit37 : (Tryd.prog.info? 28).map (·.size) = some 37 := by kernel_rfl
theorem sizKit {K : KitN} (h : KitOk K) : (Tryd.prog.info? 28).map (·.size) = some (kitC K).length := by rw [kit_len h]; exact sizKit37
/-- The points of a kit's secrets, as cells. -/
def basL (K : KitN) : List Nat := [baseP K.fund, baseP K.pay, baseP K.late, baseP K.cond, baseP K.rev]
theorem undBas : Tryd.prog.underlying 35 = some (.struct (Tryd.prog.fieldsOf 35)) := by kernel_rfl
theorem sizBas : (Tryd.prog.info? 35).map (·.size) = some 5 := by kernel_rfl
theorem basL_lt (K : KitN) : ∀ x ∈ basL K, x < 18446744073709551616 := by
  have u : ∀ k, baseP k < 18446744073709551616 := fun k => in_up (baseP_in k)
  intro x hx
  unfold basL at hx
  simp only [List.mem_cons, List.not_mem_nil, or_false] at hx
  rcases hx with h | h | h | h | h <;> (rw [h]; exact u _)
def perV (K : KitN) (no : Int) : Nat := if secB no then perK (secV K.chain no) else 0
structure KeysC (R : World → Prop) : Prop where
  ckit : ∀ (seed : List Nat) (w : World), Sum32 seed → R w → Calls Tryd.prog 9 #[.agg (vals8 seed).toArray] w (fun e w' => e = .returned (.agg (kitC (kitN seed)).toArray) ∧ Keeps w w')
  cbasics : ∀ (K : KitN) (w : World), KitOk K → R w → Calls Tryd.prog 14 #[.agg (kitC K).toArray] w (fun e w' => e = .returned (.agg (cellsK .u64 (basL K)).toArray) ∧ Keeps w w')
  cper : ∀ (K : KitN) (no : Int) (w : World), KitOk K → -9223372036854775808 ≤ no → no ≤ 9223372036854775807 → R w → Calls Tryd.prog 11 #[.agg (kitC K).toArray, .int .i64 no] w (fun e w' => e = .returned (.tuple #[.int .u64 (perV K no : Int), .bool (secB no)]) ∧ Keeps w w')
  cperof : ∀ (s : List Nat) (w : World), Sum32 s → R w → Calls Tryd.prog 16 #[.agg (vals8 s).toArray] w (fun e w' => e = .returned (.int .u64 (perK s : Int)) ∧ Keeps w w')
  cmix : ∀ (b p : Nat) (w : World), inG b → inG p → R w → Calls Tryd.prog 18 #[.int .u64 (b : Int), .int .u64 (p : Int)] w (fun e w' => e = .returned (.int .u64 (mixP b p : Int)) ∧ Keeps w w')
  cmixs : ∀ (k p : Nat) (w : World), k < 18446744073709551616 → inG p → R w → Calls Tryd.prog 20 #[.int .u64 (k : Int), .int .u64 (p : Int)] w (fun e w' => e = .returned (.int .u64 (mixS k p : Int)) ∧ Keeps w w')
  crev : ∀ (b p : Nat) (w : World), inG b → inG p → R w → Calls Tryd.prog 22 #[.int .u64 (b : Int), .int .u64 (p : Int)] w (fun e w' => e = .returned (.int .u64 (revP b p : Int)) ∧ Keeps w w')
  crevs : ∀ (k : Nat) (s : List Nat) (w : World), k < 18446744073709551616 → Sum32 s → R w → Calls Tryd.prog 24 #[.int .u64 (k : Int), .agg (vals8 s).toArray] w (fun e w' => e = .returned (.int .u64 (revS k s : Int)) ∧ Keeps w w')
/-! ### Kits and points are held against each other -/
theorem u64_same (T : TypeId) (hu : Tryd.prog.underlying T = some (.int .u64)) (d : Nat) (n : Int) (w : World) : (Op.equalIn (d + 1) T (.int .u64 n) (.int .u64 n)).run Tryd.prog w = .ok true w := by
  simp [Op.equalIn, run_underlying hu]
theorem sum_same (d : Nat) {L : List Nat} (h : Sum32 L) (w : World) : (Op.equalIn (d + 2) 23 (.agg (vals8 L).toArray) (.agg (vals8 L).toArray)).run Tryd.prog w = .ok true w := by
  rw [sum_cells h.2, run_equalIn_bytes w d 23 5 32 undSum Tryd.underlying5 (fun _ => by kernel_rfl) _ _ (by rw [List.length_map]; exact h.1) (by rw [List.length_map]; exact h.1), beq_self_eq_true]
theorem kit_part (K : KitN) (h : KitOk K) (w : World) : (part 23 (kitC K).toArray 5).run Tryd.prog w = .ok (.agg (vals8 K.chain).toArray) w := by
  have hs : (sizeOf 23).run Tryd.prog w = .ok 32 w := by kernel_rfl
  have ha : (isAgg 23).run Tryd.prog w = .ok true w := by kernel_rfl
  have hl : (vals8 K.chain).length = 32 := by rw [vals8, List.length_map]; exact h.2.2.2.2.2.1
  have e : (kitC K).toArray.extract 5 (5 + 32) = (vals8 K.chain).toArray := by
    have e1 : (kitC K).drop 5 = vals8 K.chain := List.drop_left' rfl
    rw [List.extract_toArray]
    congr 1
    rw [List.extract_eq_take_drop, e1, List.take_of_length_le (by omega)]
  simp only [part, Sem.run_bind, ha, hs, Result.andThen_ok, if_true, Sem.run_pure, e]
theorem field_same {P : Program} {d : Nat} {xs ys : Array Value} {f : Field} {fs : List Field} {a b : Value} {w : World} (hn : f.name ≠ "_") (p1 : (part f.type xs f.offset).run P w = .ok a w) (p2 : (part f.type ys f.offset).run P w = .ok b w) (p3 : (Op.equalIn d f.type a b).run P w = .ok true w) (h : (Op.eqFields d xs ys fs).run P w = .ok true w) :
    (Op.eqFields d xs ys (f :: fs)).run P w = .ok true w := by
  simp only [Op.eqFields, hn, ne_eq, not_false_eq_true, if_true, Sem.run_bind, p1, p2, p3, Result.andThen_ok]
  simpa using h
theorem fields_none {P : Program} {d : Nat} {xs ys : Array Value} {w : World} : (Op.eqFields d xs ys []).run P w = .ok true w := by simp [Op.eqFields]
theorem kit_same {K : KitN} (h : KitOk K) (w : World) : (Op.equalIn 10000 28 (.agg (kitC K).toArray) (.agg (kitC K).toArray)).run Tryd.prog w = .ok true w := by
  have pc := kit_part K h w
  have es : (Op.equalIn 9999 23 (.agg (vals8 K.chain).toArray) (.agg (vals8 K.chain).toArray)).run Tryd.prog w = .ok true w := sum_same 9997 h.2.2.2.2.2 w
  have q := fun (i : Nat) (v : Value) (hx : (kitC K).toArray[i]? = some v) => run_part_plain (P := Tryd.prog) (w := w) (e := 25) (by kernel_rfl) hx
  have p0 := q 0 (.int .u64 (K.fund : Int)) (by simp [kitC])
  have p1 := q 1 (.int .u64 (K.pay : Int)) (by simp [kitC])
  have p2 := q 2 (.int .u64 (K.late : Int)) (by simp [kitC])
  have p3 := q 3 (.int .u64 (K.cond : Int)) (by simp [kitC])
  have p4 := q 4 (.int .u64 (K.rev : Int)) (by simp [kitC])
  have u : ∀ n : Int, (Op.equalIn 9999 25 (.int .u64 n) (.int .u64 n)).run Tryd.prog w = .ok true w := fun n => u64_same 25 Tryd.underlying25 9998 n w
  have e := run_equalIn_agg (P := Tryd.prog) w 9999 28 (kitC K).toArray (kitC K).toArray undKit (by kernel_rfl)
  unfold Program.fieldsOf at e
  rw [Tryd.underlying28] at e
  generalize (kitC K).toArray = xs at *
  generalize Value.agg (vals8 K.chain).toArray = vc at *
  exact e.trans (field_same (by decide) p0 p0 (u _) (field_same (by decide) p1 p1 (u _) (field_same (by decide) p2 p2 (u _) (field_same (by decide) p3 p3 (u _) (field_same (by decide) p4 p4 (u _) (field_same (by decide) pc pc es fields_none))))))
/-- Five points are held against the same ones. -/
theorem bas_same (a b c d e : Nat) (w : World) : (Op.equalIn 10000 35 (.agg (cellsK .u64 [a, b, c, d, e]).toArray) (.agg (cellsK .u64 [a, b, c, d, e]).toArray)).run Tryd.prog w = .ok true w := by
  have q := fun (i : Nat) (v : Value) (hx : (cellsK .u64 [a, b, c, d, e]).toArray[i]? = some v) => run_part_plain (P := Tryd.prog) (w := w) (e := 30) (by kernel_rfl) hx
  have p0 := q 0 (.int .u64 (a : Int)) (by simp [cellsK])
  have p1 := q 1 (.int .u64 (b : Int)) (by simp [cellsK])
  have p2 := q 2 (.int .u64 (c : Int)) (by simp [cellsK])
  have p3 := q 3 (.int .u64 (d : Int)) (by simp [cellsK])
  have p4 := q 4 (.int .u64 (e : Int)) (by simp [cellsK])
  have u : ∀ n : Int, (Op.equalIn 9999 30 (.int .u64 n) (.int .u64 n)).run Tryd.prog w = .ok true w := fun n => u64_same 30 Tryd.underlying30 9998 n w
  have ee := run_equalIn_agg (P := Tryd.prog) w 9999 35 (cellsK .u64 [a, b, c, d, e]).toArray (cellsK .u64 [a, b, c, d, e]).toArray undBas (by kernel_rfl)
  unfold Program.fieldsOf at ee
  rw [Tryd.underlying35] at ee
  generalize (cellsK .u64 [a, b, c, d, e]).toArray = xs at *
  exact ee.trans (field_same (by decide) p0 p0 (u _) (field_same (by decide) p1 p1 (u _) (field_same (by decide) p2 p2 (u _) (field_same (by decide) p3 p3 (u _) (field_same (by decide) p4 p4 (u _) fields_none)))))
end Go.Proofs.YtfdfbpgljiakgaaDoor
/- Frames told in short: all fixed slots at once, a frame laid out at once. -/
namespace Go.Proofs.YtfdfbpgljiakgaaDoor
open Go.RowKit

/-- Whoever is told all fixed slots. -/
def SlotsImp (a : Act) (G : Prop) : List (Tmp × Value) → Prop
  | [] => G
  | (k, v) :: r => Slot a k v → SlotsImp a G r
theorem SlotsImp.nil {a : Act} {G : Prop} (h : G) : SlotsImp a G [] := h
theorem slots_imp {a : Act} {G : Prop} : ∀ {fx : List (Tmp × Value)}, (∀ x ∈ fx, Slot a x.1 x.2) → SlotsImp a G fx → G
  | [], _, f => f
  | (k, v) :: r, h, f => slots_imp (fx := r) (fun x hx => h x (by simp [hx])) (f (h (k, v) (by simp)))
theorem FixOf.all {fx : List (Tmp × Value)} {a : Act} {G : Prop} (h : FixOf fx a) (f : SlotsImp a G fx) : G := slots_imp h.2 f
/-- Slots that are not told get names. -/
def LayImp : List (Option Value) → (List Value → Prop) → Prop
  | [], P => P []
  | some v :: r, P => LayImp r fun l => P (v :: l)
  | none :: r, P => ∀ y, LayImp r fun l => P (y :: l)
def SlotsAt (a : Act) : Nat → List (Option Value) → Prop
  | _, [] => True
  | k, some v :: r => Slot a k v ∧ SlotsAt a (k + 1) r
  | k, none :: r => SlotsAt a (k + 1) r
theorem lay_from {tm : Array Value} {G : Prop} : ∀ (sp : List (Option Value)) (k : Nat) (pre : List Value → List Value), SlotsAt ⟨tm, []⟩ k sp → k + sp.length ≤ tm.size → tm.toList = pre ((tm.toList.drop k).take sp.length) → LayImp sp (fun l => tm = (pre l).toArray → G) → G
  | [], k, pre, _, _, e, f => by
    rw [LayImp] at f
    refine f ?_
    rw [List.length_nil, List.take_zero] at e
    rw [← e]
  | some v :: r, k, pre, hs, hl, e, f => by
    rw [List.length_cons] at hl e
    have hk : tm[k]? = some v := hs.1
    have q : (tm.toList.drop k).take (r.length + 1) = v :: (tm.toList.drop (k + 1)).take r.length := by
      have hk2 : k < tm.toList.length := by simp; omega
      rw [List.drop_eq_getElem_cons hk2, List.take_succ_cons]
      congr 1
      have := (Array.getElem?_eq_some_iff.1 hk).2
      simpa using this
    rw [q] at e
    rw [LayImp] at f
    exact lay_from r (k + 1) (fun l => pre (v :: l)) hs.2 (by omega) e f
  | none :: r, k, pre, hs, hl, e, f => by
    rw [List.length_cons] at hl e
    have hk2 : k < tm.toList.length := by simp; omega
    rw [List.drop_eq_getElem_cons hk2, List.take_succ_cons] at e
    rw [LayImp] at f
    exact lay_from r (k + 1) (fun l => pre (tm.toList[k] :: l)) hs (by omega) e (f _)
theorem lay_all {tm : Array Value} {N : Nat} {G : Prop} (sp : List (Option Value)) (hN : tm.size = N) (hl : N = sp.length) (h : SlotsAt ⟨tm, []⟩ 0 sp) (f : LayImp sp fun l => tm = l.toArray → G) : G :=
  lay_from sp 0 (fun l => l) h (by omega) (by rw [List.drop_zero, List.take_of_length_le (by simp; omega)]) f
section
variable {P : Program} {l : List Oper} {Q : Exit → Act → World → Prop} {N : Nat} {fx : List (Tmp × Value)} {sp : List Nat} {H : Nat → World → Prop} {Rs : Nat → World → World → Prop} {gs : List (Value → Act → World → Prop)} {dss : List (List Tmp)}
theorem leans0 (hle : AllLean dss gs 0) (gi : Nat) (gv : Value) (ga gb : Act) (gw : World) (hd : ∀ d ∈ dss.getD gi [], gb.tmps[d]? = ga.tmps[d]?) : goodOf2 gs gi gv ga gw → goodOf2 gs gi gv gb gw :=
  good_leans (k := 0) hle gi gv ga gb gw (by rw [Nat.zero_add]; exact hd)
theorem region_drawn4 {id : Nat} {a : Act} {w : World} (hl : AllLast3 .any l sp Rs gs 0) (hle : AllLean dss gs 0) (hm : P.follows .mixedOrders = true) (hsp : spineOk .any l sp = true)
    (hd : dstsOk l N (fx.map (·.1)) = true) (ha : dstsApart l = true) (hw : waitsOk .any l 0 = true) (hdp : depsOk .any l (fun gi => dss.getD gi []) = true) (hN : a.tmps.size = N) (hF : FixOf fx a) (hH : H 0 w.drew)
    (hs : EachOp (StepOk3 P l Q .any N (FixOf fx) sp H Rs (goodOf2 gs)) l 0)
    (hfin : ∀ (a : Act) (w : World), a.tmps.size = N → FixOf fx a → H sp.length w → (∀ i o, l[i]? = some o → ∃ v, (∀ d, o.dst = some d → Slot a d v) ∧ goodOf2 gs i v a w) → Q .normal a w) : (Code.region id l.toArray true).wp P Q a w :=
  region_drawn3 hm hsp (fix_all _) (good_lasts30 hl) (leans0 hle) hd ha hw hdp hN hF hH hfin hs
theorem region_plain4 {id : Nat} {a : Act} {w : World} (hl : AllLast3 .any l sp Rs gs 0) (hle : AllLean dss gs 0) (hall : sp.all (fun s => decide (s < l.length)) = true) (hsp : spineOk .any l sp = true)
    (hd : dstsOk l N (fx.map (·.1)) = true) (ha : dstsApart l = true) (hw : waitsOk .any l 0 = true) (hdp : depsOk .any l (fun gi => dss.getD gi []) = true) (hN : a.tmps.size = N) (hF : FixOf fx a) (hH : H 0 w)
    (hs : EachOp (StepOk3 P l Q .any N (FixOf fx) sp H Rs (goodOf2 gs)) l 0)
    (hfin : ∀ (a : Act) (w : World), a.tmps.size = N → FixOf fx a → H sp.length w → (∀ i o, l[i]? = some o → ∃ v, (∀ d, o.dst = some d → Slot a d v) ∧ goodOf2 gs i v a w) → Q .normal a w) : (Code.region id l.toArray false).wp P Q a w :=
  region_plain3 hall hsp (fix_all _) (good_lasts30 hl) (leans0 hle) hd ha hw hdp hN hF hH hfin hs
theorem v3 {md : Region.Mode} {l : List Oper} {sp : List Nat} {Rs : Nat → World → World → Prop} {i : Nat} {x : Value} : Last3 md l sp Rs i (valA x) := valA_last3 x
theorem vl {ds : List Tmp} {x : Value} : Leans ds (valA x) := valA_leans ds x
end
end Go.Proofs.YtfdfbpgljiakgaaDoor
