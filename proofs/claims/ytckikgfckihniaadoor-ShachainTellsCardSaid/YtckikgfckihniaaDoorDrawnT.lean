/- Frames told in short: all fixed slots at once, a frame laid out at once. -/
import Derived.Test.YtckikgfckihniaaDoorDrawnS
set_option linter.unusedVariables false
set_option linter.unusedSimpArgs false
set_option maxRecDepth 10000
namespace Go.Proofs.YtckikgfckihniaaDoor
open Go.RowKit

/-- Whoever is told all fixed slots. -/
def SlotsImp (a : Act) (G : Prop) : List (Tmp × Value) → Prop
  | [] => G
  | (k, v) :: r => Slot a k v → SlotsImp a G r
theorem SlotsImp.nil {a : Act} {G : Prop} (h : G) : SlotsImp a G [] := h
theorem slots_imp {a : Act} {G : Prop} : ∀ {fx : List (Tmp × Value)}, (∀ x ∈ fx, Slot a x.1 x.2) → SlotsImp a G fx → G
  | [], _, f => f
  | (k, v) :: r, h, f => slots_imp (fx := r) (fun x hx => h x (by simp [hx])) (f (h (k, v) (by simp)))
theorem FixOf.all {fx : List (Tmp × Value)} {a : Act} {G : Prop} (h : FixOf fx a) (f : SlotsImp a G fx) : G := slots_imp h.2 f
/-- Slots that are not told get names. -/
def LayImp : List (Option Value) → (List Value → Prop) → Prop
  | [], P => P []
  | some v :: r, P => LayImp r fun l => P (v :: l)
  | none :: r, P => ∀ y, LayImp r fun l => P (y :: l)
def SlotsAt (a : Act) : Nat → List (Option Value) → Prop
  | _, [] => True
  | k, some v :: r => Slot a k v ∧ SlotsAt a (k + 1) r
  | k, none :: r => SlotsAt a (k + 1) r
theorem lay_from {tm : Array Value} {G : Prop} : ∀ (sp : List (Option Value)) (k : Nat) (pre : List Value → List Value), SlotsAt ⟨tm, []⟩ k sp → k + sp.length ≤ tm.size → tm.toList = pre ((tm.toList.drop k).take sp.length) → LayImp sp (fun l => tm = (pre l).toArray → G) → G
  | [], k, pre, _, _, e, f => by
    rw [LayImp] at f
    refine f ?_
    rw [List.length_nil, List.take_zero] at e
    rw [← e]
  | some v :: r, k, pre, hs, hl, e, f => by
    rw [List.length_cons] at hl e
    have hk : tm[k]? = some v := hs.1
    have q : (tm.toList.drop k).take (r.length + 1) = v :: (tm.toList.drop (k + 1)).take r.length := by
      have hk2 : k < tm.toList.length := by simp; omega
      rw [List.drop_eq_getElem_cons hk2, List.take_succ_cons]
      congr 1
      have := (Array.getElem?_eq_some_iff.1 hk).2
      simpa using this
    rw [q] at e
    rw [LayImp] at f
    exact lay_from r (k + 1) (fun l => pre (v :: l)) hs.2 (by omega) e f
  | none :: r, k, pre, hs, hl, e, f => by
    rw [List.length_cons] at hl e
    have hk2 : k < tm.toList.length := by simp; omega
    rw [List.drop_eq_getElem_cons hk2, List.take_succ_cons] at e
    rw [LayImp] at f
    exact lay_from r (k + 1) (fun l => pre (tm.toList[k] :: l)) hs (by omega) e (f _)
theorem lay_all {tm : Array Value} {N : Nat} {G : Prop} (sp : List (Option Value)) (hN : tm.size = N) (hl : N = sp.length) (h : SlotsAt ⟨tm, []⟩ 0 sp) (f : LayImp sp fun l => tm = l.toArray → G) : G :=
  lay_from sp 0 (fun l => l) h (by omega) (by rw [List.drop_zero, List.take_of_length_le (by simp; omega)]) f
section
variable {P : Program} {l : List Oper} {Q : Exit → Act → World → Prop} {N : Nat} {fx : List (Tmp × Value)} {sp : List Nat} {H : Nat → World → Prop} {Rs : Nat → World → World → Prop} {gs : List (Value → Act → World → Prop)} {dss : List (List Tmp)}
theorem leans0 (hle : AllLean dss gs 0) (gi : Nat) (gv : Value) (ga gb : Act) (gw : World) (hd : ∀ d ∈ dss.getD gi [], gb.tmps[d]? = ga.tmps[d]?) : goodOf2 gs gi gv ga gw → goodOf2 gs gi gv gb gw :=
  good_leans (k := 0) hle gi gv ga gb gw (by rw [Nat.zero_add]; exact hd)
theorem region_drawn4 {id : Nat} {a : Act} {w : World} (hl : AllLast3 .any l sp Rs gs 0) (hle : AllLean dss gs 0) (hm : P.follows .mixedOrders = true) (hsp : spineOk .any l sp = true)
    (hd : dstsOk l N (fx.map (·.1)) = true) (ha : dstsApart l = true) (hw : waitsOk .any l 0 = true) (hdp : depsOk .any l (fun gi => dss.getD gi []) = true) (hN : a.tmps.size = N) (hF : FixOf fx a) (hH : H 0 w.drew)
    (hs : EachOp (StepOk3 P l Q .any N (FixOf fx) sp H Rs (goodOf2 gs)) l 0)
    (hfin : ∀ (a : Act) (w : World), a.tmps.size = N → FixOf fx a → H sp.length w → (∀ i o, l[i]? = some o → ∃ v, (∀ d, o.dst = some d → Slot a d v) ∧ goodOf2 gs i v a w) → Q .normal a w) : (Code.region id l.toArray true).wp P Q a w :=
  region_drawn3 hm hsp (fix_all _) (good_lasts30 hl) (leans0 hle) hd ha hw hdp hN hF hH hfin hs
theorem region_plain4 {id : Nat} {a : Act} {w : World} (hl : AllLast3 .any l sp Rs gs 0) (hle : AllLean dss gs 0) (hall : sp.all (fun s => decide (s < l.length)) = true) (hsp : spineOk .any l sp = true)
    (hd : dstsOk l N (fx.map (·.1)) = true) (ha : dstsApart l = true) (hw : waitsOk .any l 0 = true) (hdp : depsOk .any l (fun gi => dss.getD gi []) = true) (hN : a.tmps.size = N) (hF : FixOf fx a) (hH : H 0 w)
    (hs : EachOp (StepOk3 P l Q .any N (FixOf fx) sp H Rs (goodOf2 gs)) l 0)
    (hfin : ∀ (a : Act) (w : World), a.tmps.size = N → FixOf fx a → H sp.length w → (∀ i o, l[i]? = some o → ∃ v, (∀ d, o.dst = some d → Slot a d v) ∧ goodOf2 gs i v a w) → Q .normal a w) : (Code.region id l.toArray false).wp P Q a w :=
  region_plain3 hall hsp (fix_all _) (good_lasts30 hl) (leans0 hle) hd ha hw hdp hN hF hH hfin hs
theorem v3 {md : Region.Mode} {l : List Oper} {sp : List Nat} {Rs : Nat → World → World → Prop} {i : Nat} {x : Value} : Last3 md l sp Rs i (valA x) := valA_last3 x
theorem vl {ds : List Tmp} {x : Value} : Leans ds (valA x) := valA_leans ds x
end
end Go.Proofs.YtckikgfckihniaaDoor
