/- Package code: a reader in memory; what takes the part that stands next. -/
import Derived.Lib.SliceRun
import Derived.Test.YtddnnblhlglaaaaCodeNext
set_option linter.unusedVariables false
set_option linter.unusedSimpArgs false
set_option maxRecDepth 10000
namespace Go.Proofs.Ytddnnblhlglaaaa
open Go.RowKit Go.HashMath Go.CodeMath

/-- A result variable that lies in memory, of one cell. -/
theorem results_one {P : Program} {fn : Func} {p : Tmp} {ty : TypeId} (h : fn.results = #[.cell p ty]) (tmps : Array Value) (w : World) (a : Addr) (v : Value) (hp : tmps.getD p undef = .pointer (some a)) (ha : ∀ w, (isAgg ty).run P w = .ok false w) (hc : w.cell? a = some v) :
    (results fn tmps).run P w = .ok v w := by
  have hp' : tmps[p]?.getD undef = .pointer (some a) := by simpa using hp
  simp [results, h, hp', asAddr, loadVar, ha, hc]
/-- The reader in block g, whose bytes are sv; s is what is left. -/
def RdG (S : Nat → Prop) (w : World) (g : Nat) (sv : Value) (s : St) : Prop := S g ∧ w.heap[g]? = some (.cells #[sv, .bool (!s.isSome)] 51 (0, 0)) ∧ Holds8 w sv (leftO s) ∧ (∀ a l c, sv = .slice (some a) l c → S a.block ∧ a.block ≠ g) ∧ ∀ i, S i → i < w.heap.size
/-- v is a reader, in blocks of S. -/
def RdH (w : World) (v : Value) (S : Nat → Prop) (s : St) : Prop := ∃ (g : Nat) (sv : Value), v = .pointer (some ⟨g, 0, none⟩) ∧ RdG S w g sv s ∧ (leftO s).length ≤ 140737488355328
section
variable {S T : Nat → Prop} {w w' : World} {g : Nat} {sv : Value} {s : St}
theorem RdG.cell0 (h : RdG S w g sv s) : w.cell? ⟨g, 0, none⟩ = some sv := by simp [World.cell?, h.2.1]
theorem RdG.cell1 (h : RdG S w g sv s) : w.cell? ⟨g, 1, none⟩ = some (.bool (!s.isSome)) := by simp [World.cell?, h.2.1]
theorem RdG.free (h : RdG S w g sv s) (i : Nat) : w.frozen? ⟨g, i, none⟩ = false := by simp [World.frozen?, h.2.1]
theorem RdG.lasts (h : RdG S w g sv s) (k : Mut T w w') (hd : ∀ i, S i → ¬ T i) : RdG S w' g sv s := by
  obtain ⟨h1, h2, h3, h4, h5⟩ := h
  exact ⟨h1, (k.block g (lt_of_block h2) (hd g h1)).trans h2, k.holds8 h3 (Or.inr fun b off l c e => hd b (h4 _ l c e).1), h4, fun i hi => Nat.lt_of_lt_of_le (h5 i hi) k.size⟩
theorem RdG.keeps (h : RdG S w g sv s) (k : Keeps w w') : RdG S w' g sv s := h.lasts (Mut.of k fun _ => False) (fun _ _ q => q)
theorem RdG.wrt {z : Nat} (h : RdG S w g sv s) (k : Wrt z w w') (hz : ¬ S z) : RdG S w' g sv s := h.lasts (T := fun i => i = z) (Mut.wrt k rfl) (fun i hi e => hz (e ▸ hi))
theorem RdG.put {ys : List Nat} {v1 : Value} (h : RdG S w g sv s) (hs : s.isSome = true) (hv : Holds8 w v1 ys) (ho : ∀ a l c, v1 = .slice (some a) l c → S a.block ∧ a.block ≠ g) : RdG S (w.setCell ⟨g, 0, none⟩ v1) g v1 (some ys) ∧ Wrt g w (w.setCell ⟨g, 0, none⟩ v1) := by
  have hW : Wrt g w (w.setCell ⟨g, 0, none⟩ v1) := (Wrt.refl g w).set 0 v1
  refine ⟨⟨h.1, ?_, hW.holds8 hv fun b off l c e => (ho _ l c e).2, ho, fun i hi => Nat.lt_of_lt_of_le (h.2.2.2.2 i hi) hW.size⟩, hW⟩
  simp [World.setCell, Array.getElem?_modify, h.2.1, hs]
/-- Behind a failure. -/
theorem RdG.failed (h : RdG S w g sv s) (hW : Wrt g w w') (hc : w'.heap[g]? = some (.cells #[.slice none 0 0, .bool true] 51 (0, 0))) : RdG S w' g (.slice none 0 0) none :=
  ⟨h.1, hc, Holds8.nil w', (fun a l c e => by cases e), fun i hi => Nat.lt_of_lt_of_le (h.2.2.2.2 i hi) hW.size⟩
end
/-- What is left behind k bytes that were taken. -/
def takenO (k : Nat) (s : St) : St := if k = 0 then none else some ((leftO s).drop k)
set_option maxHeartbeats 1000000 in
set_option maxRecDepth 100000 in
theorem take_at (F : Nat) (EF : ∀ args w, (callFunc F args).run Try.prog w = .ok (.enter F args) w) (z g k : Nat) (S : Nat → Prop) (sv : Value) (s : St) (R : World → Prop) (w : World) (h : RdG S w g sv s) (hk : k ≤ (leftO s).length)
    (C : Calls Try.prog F #[sv, .pointer (some ⟨z, 0, none⟩)] w (fun e w1 => e = .returned (.int .i64 (k : Int)) ∧ R w1)) (hR : ∀ w1, R w1 → RdG S w1 g sv s) :
    Calls Try.prog 24 #[.pointer (some ⟨g, 0, none⟩), .func (.func F) #[] #[.pointer (some ⟨z, 0, none⟩)]] w
      (fun e w' => e = .returned (.tuple #[]) ∧ ∃ w1 sv', R w1 ∧ Wrt g w1 w' ∧ RdG S w' g sv' (takenO k s)) := by
  have HH := Lib.hid h
  have c0 := h.cell0
  have f0 := h.free 0
  obtain ⟨_, ao, len, cap, rfl, hlen, hlc, hcm, hcell⟩ := h.2.2.1
  have HR := Lib.hid hR
  have HK := Lib.hid hk
  have HC := Lib.hid C
  have LN := Lib.hid hlen
  clear h hR C hcell
  by_cases hz : k = 0
  · have e0 : ((k : Int) == 0) = true := by rw [beq_iff_eq]; omega
    rw [show takenO k s = none from if_pos hz]
    clear hz hk
    go_enter Try.func24, Try.ntmps24
    go_wp2_with ((with_reducible refine HC.out.mono ?_); rintro e w1 ⟨rfl, hr⟩; have GG := Lib.hid (HR.out w1 hr); have d0 := GG.out.cell0; have g0 := GG.out.free 0; have g1 := GG.out.free 1; have d1 := GG.out.cell1; have RR := Lib.hid hr; clear hr)
    (try simp only [Exit.inBlock, Exit.then])
    refine bodyPost_ret (results_none rfl _ _ _) rfl ?_
    have hW : Wrt g w1 ((w1.setCell ⟨g, 0, none⟩ (.slice none 0 0)).setCell ⟨g, 1, none⟩ (.bool true)) := ((Wrt.refl g w1).set 0 _).set 1 _
    exact ⟨rfl, w1, _, RR.out, hW, GG.out.failed hW (by simp [World.setCell, Array.getElem?_modify, GG.out.2.1])⟩
  · have e0 : ((k : Int) == 0) = false := by rw [beq_eq_false_iff_ne]; omega
    rw [show takenO k s = some ((leftO s).drop k) from if_neg hz]
    have HS := Lib.hid (show s.isSome = true from by
      cases s with
      | none => exact absurd (Nat.le_zero.1 HK.out) hz
      | some xs => rfl)
    have CF := fun W => run_cutFrom (P := Try.prog) (ao := ao) (len := len) (cap := cap) Try.underlying23 elem8s siz8s k (by omega) W
    obtain ⟨va, vn, vc, ev⟩ : ∃ va vn vc, Value.slice va vn vc = sliced ao k len cap 1 := ⟨_, _, _, rfl⟩
    rw [← ev] at CF
    have EV := Lib.hid ev
    clear ev hz hk
    go_enter Try.func24, Try.ntmps24
    go_wp2_with ((with_reducible refine HC.out.mono ?_); rintro e w1 ⟨rfl, hr⟩; have GG := Lib.hid (HR.out w1 hr); have d0 := GG.out.cell0; have g0 := GG.out.free 0; have RR := Lib.hid hr; clear hr)
    go_end0
    have HP := GG.out.put HS.out (v1 := .slice va vn vc) (ys := (leftO s).drop k) (by rw [EV.out]; have := GG.out.2.2.1; rw [← LN.out] at this ⊢; exact this.cutFrom k HK.out) (fun a l c e => by rw [EV.out] at e; obtain ⟨y, ey, eb⟩ := sliced_at e; have := GG.out.2.2.2.1 y _ _ (by rw [ey]); rw [eb] at this; exact this)
    exact ⟨rfl, w1, _, RR.out, HP.2, HP.1⟩
end Go.Proofs.Ytddnnblhlglaaaa
