/- Package code's contracts. -/
import Derived.Test.YtddnnblhlglaaaaCodeReaders
import Derived.Test.YtddnnblhlglaaaaCodePut
set_option linter.unusedVariables false
set_option linter.unusedSimpArgs false
set_option maxRecDepth 10000
namespace Go.Proofs.Ytddnnblhlglaaaa
open Go.RowKit Go.HashMath Go.CodeMath

theorem open_at (v : Value) (xs : List Nat) (w : World) (h : Holds8 w v xs) (hl : xs.length ≤ 140737488355328) :
    Calls Try.prog 9 #[v] w (fun e w' => ∃ g sv S, e = .returned (.pointer (some ⟨g, 0, none⟩)) ∧ RdG S w' g sv (some xs) ∧ Keeps w w' ∧ ∀ i, S i → w.heap.size ≤ i) := by
  have CL := Lib.hid (clone_at v xs w h hl)
  obtain ⟨_, ao, len, cap, rfl, _⟩ := h
  clear hl
  go_enter Try.func9, Try.ntmps9
  go_wp2_with (go_at_call 23; (with_reducible refine CL.out.mono ?_); rintro e w2 ⟨y, rfl, ho, hk⟩; have K2 := Lib.hid hk; have O2 := Lib.hid ho; obtain ⟨_, yo, yn, yc, rfl, _⟩ := ho.holds; clear ho hk)
  go_ret
  refine ⟨w2.heap.size, .slice yo yn yc, fun i => w.heap.size ≤ i ∧ i < w2.heap.size + 1, rfl, ⟨⟨K2.out.size, by omega⟩, (MapKept.heap_alloc w2 _).1, O2.out.holds.keeps ((Keeps.refl _).alloc _), fun a l c e => ?_, fun i hi => by rw [World.size_alloc]; exact hi.2⟩, K2.out.alloc _, fun i hi => hi.1⟩
  cases e
  have hb := O2.out.1
  have h1 := hb.lt a.block rfl
  exact ⟨⟨h1.1, by omega⟩, by omega⟩
theorem left_at (S : Nat → Prop) (g : Nat) (sv : Value) (s : St) (w : World) (h : RdG S w g sv s) :
    Calls Try.prog 11 #[.pointer (some ⟨g, 0, none⟩)] w (fun e w' => e = .returned (.int .i64 ((leftO s).length : Int)) ∧ w = w') := by
  have c0 := h.cell0
  obtain ⟨_, ao, len, cap, rfl, hlen, _⟩ := h.2.2.1
  rw [hlen]
  clear h
  go_enter Try.func11, Try.ntmps11
  go_wp2_with fail
  go_ret
  exact ⟨rfl, rfl⟩
theorem ok_at (S : Nat → Prop) (g : Nat) (sv : Value) (s : St) (w : World) (h : RdG S w g sv s) :
    Calls Try.prog 17 #[.pointer (some ⟨g, 0, none⟩)] w (fun e w' => e = .returned (.bool s.isSome) ∧ w = w') := by
  have c1 := h.cell1
  clear h
  cases s with
  | none =>
    have c1 : w.cell? ⟨g, 1, none⟩ = some (.bool true) := c1
    go_enter Try.func17, Try.ntmps17
    go_wp2_with fail
    go_ret
    exact ⟨rfl, rfl⟩
  | some xs =>
    have c1 : w.cell? ⟨g, 1, none⟩ = some (.bool false) := c1
    go_enter Try.func17, Try.ntmps17
    go_wp2_with fail
    go_ret
    exact ⟨rfl, rfl⟩
theorem code_reads : ReadC RdH where
  rlasts := fun S T w w' v s h k hd => by obtain ⟨g, sv, rfl, h1, h2⟩ := h; exact ⟨g, sv, rfl, h1.lasts k hd, h2⟩
  rfine := fun S w v s h => by obtain ⟨g, sv, rfl, h1, h2⟩ := h; exact h1.2.2.1.1
  rbound := fun S w v s h => by obtain ⟨g, sv, rfl, h1, h2⟩ := h; exact h1.2.2.2.2
  rsome := fun S w v s h => by obtain ⟨g, sv, rfl, h1, h2⟩ := h; exact ⟨g, rfl⟩
  copen := fun v xs w h hl => (open_at v xs w h hl).mono fun e w' ⟨g, sv, S, e1, e2, e3, e4⟩ => ⟨_, S, e1, ⟨g, sv, rfl, e2, hl⟩, e3, e4⟩
  cnum := fun S v s w h => by
    obtain ⟨g, sv, rfl, h1, h2⟩ := h
    exact (read_num S g sv s w h1).mono fun e w' ⟨e1, ⟨sv', e2⟩, e3⟩ => ⟨e1, ⟨g, sv', rfl, e2, Nat.le_trans (left_num s h1.2.2.1.1) h2⟩, e3⟩
  cu64 := fun S v s w h => by
    obtain ⟨g, sv, rfl, h1, h2⟩ := h
    exact (read_u64 S g sv s w h1).mono fun e w' ⟨e1, ⟨sv', e2⟩, e3⟩ => ⟨e1, ⟨g, sv', rfl, e2, by rw [(u64O_take s).2]; exact Nat.le_trans (left_take s) h2⟩, e3⟩
  cbytes := fun S v s w h => by
    obtain ⟨g, sv, rfl, h1, h2⟩ := h
    exact (read_bytes S g sv s w h1 h2).mono fun e w' ⟨y, e1, eo, ⟨sv', e2⟩, e3⟩ => ⟨y, e1, eo, ⟨g, sv', rfl, e2, Nat.le_trans (left_bytes s h1.2.2.1.1) h2⟩, e3⟩
  chash := fun S v s w h => by
    obtain ⟨g, sv, rfl, h1, h2⟩ := h
    exact (read_hash S g sv s w h1).mono fun e w' ⟨e1, ⟨sv', e2⟩, e3⟩ => ⟨e1, ⟨g, sv', rfl, e2, Nat.le_trans (left_take s) h2⟩, e3⟩
  cleft := fun S v s w h => by
    obtain ⟨g, sv, rfl, h1, h2⟩ := h
    exact (left_at S g sv s w h1).mono fun e w' ⟨e1, e2⟩ => ⟨e1, e2 ▸ Keeps.refl w⟩
  cok := fun S v s w h => by
    obtain ⟨g, sv, rfl, h1, h2⟩ := h
    exact (ok_at S g sv s w h1).mono fun e w' ⟨e1, e2⟩ => ⟨e1, e2 ▸ Keeps.refl w⟩
theorem code_puts : PutC where
  cput := fun v xs n w h hl h0 h1 => put_at v xs n w h hl h0 h1
  cput64 := fun v xs n w h hl hn => put64_at v xs n w h hl hn
  cputb := fun v u xs ys w h h' hl hl' => putb_at v u xs ys w h h' hl hl'
  cputh := fun v xs l w h hl hs => puth_at v xs l w h hl hs
end Go.Proofs.Ytddnnblhlglaaaa
