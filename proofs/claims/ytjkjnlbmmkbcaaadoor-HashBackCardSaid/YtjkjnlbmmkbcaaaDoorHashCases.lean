/- Package hash at the arguments of the laws' small case. -/
import Derived.Test.YtjkjnlbmmkbcaaaDoorHashSame
import Derived.Test.YtjkjnlbmmkbcaaaDoorDrawn
import Derived.Test.YtjkjnlbmmkbcaaaDoorHashShort
import Derived.Test.YtjkjnlbmmkbcaaaDoorHashTagD
import Derived.Test.YtjkjnlbmmkbcaaaDoorHashNumD
import Derived.Test.YtjkjnlbmmkbcaaaDoorHashHexD
import Derived.Test.YtjkjnlbmmkbcaaaDoorHashReadD
set_option linter.unusedVariables false
set_option linter.unusedSimpArgs false
namespace Go.Proofs.YtjkjnlbmmkbcaaaDoor
open Go.RowKit Go.HashMath

/-- Two sums that are the same; two that aren't: as the comparison of arrays goes. -/
theorem equal_sum {L M : List Nat} (h : Sum32 L) (h' : Sum32 M) (w : World) : (Op.equalIn 10000 24 (.agg (vals8 L).toArray) (.agg (vals8 M).toArray)).run Tryd.prog w = .ok (decide (L = M)) w := by
  have e := run_eql_sum h h' w
  unfold hashV at e
  rw [run_eql_struct] at e
  generalize (Op.equalIn 10000 24 (.agg (vals8 L).toArray) (.agg (vals8 M).toArray)).run Tryd.prog w = r at e ⊢
  cases r with
  | ok b w1 =>
    simp only [Result.andThen_ok, Result.ok.injEq, Value.bool.injEq] at e ⊢
    exact e
  | halt x w1 => cases e
theorem equal_same {L : List Nat} (h : Sum32 L) (w : World) : (Op.equalIn 10000 24 (.agg (vals8 L).toArray) (.agg (vals8 L).toArray)).run Tryd.prog w = .ok true w := by rw [equal_sum h h, decide_eq_true rfl]
theorem equal_not {L M : List Nat} (h : Sum32 L) (h' : Sum32 M) (hn : L ≠ M) (w : World) : (Op.equalIn 10000 24 (.agg (vals8 L).toArray) (.agg (vals8 M).toArray)).run Tryd.prog w = .ok false w := by rw [equal_sum h h', decide_eq_false hn]
/-- The parts of a tag that are made on the spot. -/
theorem parts_one {w : World} {v : Value} {l : List Nat} (h : Holds8 w v l) {T : TypeId} {c : Array Value} (hc : c = #[v]) : Parts (w.alloc (.cells c T)) (.slice (some ⟨w.heap.size, 0, none⟩) 1 1) [l] := by
  subst hc
  refine ⟨_, _, _, rfl, rfl, Nat.le_refl _, ⟨by unfold maxLen; omega, fun e => by cases e⟩, Or.inr ⟨_, _, rfl, by rw [World.size_alloc]; omega, fun i hi => ?_⟩⟩
  obtain rfl : i = 0 := by omega
  refine ⟨v, ?_, h.keeps ((Keeps.refl _).alloc _)⟩
  simp only [World.cell?, (MapKept.heap_alloc w (.cells #[v] T)).1]
  simp
theorem parts_at {w : World} {v : Value} {l : List Nat} {g : Nat} {T : TypeId} {c : Array Value} (h : Holds8 w v l) (hc : c = #[v]) (hg : g = w.heap.size) : Parts (w.alloc (.cells c T)) (.slice (some ⟨g, 0, none⟩) 1 1) [l] := by
  subst hg
  exact parts_one h hc
theorem parts_alloc {w : World} {v : Value} {l : List (List Nat)} (h : Parts w v l) (o : Obj) : Parts (w.alloc o) v l := h.keeps ((Keeps.refl _).alloc _)
theorem parts_drew {w : World} {v : Value} {l : List (List Nat)} (h : Parts w v l) : Parts w.drew v l := h.keeps ((Keeps.refl _).drew)
theorem parts_mark {w : World} {v : Value} {l : List (List Nat)} (h : Parts w v l) (g : Nat) : Parts (markW w g) v l := by
  obtain ⟨ao, n, c, e, h1, h2, h3, h4⟩ := h
  refine ⟨ao, n, c, e, h1, h2, h3, ?_⟩
  rcases h4 with h4 | ⟨b, off, e1, e2, e3⟩
  · exact Or.inl h4
  · refine Or.inr ⟨b, off, e1, by rw [mark_size]; exact e2, fun i hi => ?_⟩
    obtain ⟨u, a, q⟩ := e3 i hi
    exact ⟨u, (mark_cell w g _).trans a, holds8_mark q g⟩
def partsG (ls : List (List Nat)) : Value → World → Prop := fun v w => Parts w v ls
theorem partsG_lasts (ls : List (List Nat)) : Lasts (partsG ls) := fun v w w' hs h => by
  rcases hs with hs | ⟨g, rfl⟩
  · exact h.keeps hs
  · exact parts_mark h g
theorem parts_none (w : World) : Parts w (.slice none 0 0) [] := ⟨_, _, _, rfl, rfl, Nat.le_refl _, ⟨by unfold maxLen; omega, fun _ => rfl⟩, Or.inl rfl⟩
theorem holds_none (w : World) : Holds8 w (.slice none 0 0) [] := ⟨by simp, _, _, _, rfl, rfl, Nat.le_refl _, ⟨by unfold maxLen; omega, fun _ => rfl⟩, Or.inl rfl⟩
theorem hash_cases : ∃ A B E C D : List Nat, Sum32 A ∧ Sum32 B ∧ Sum32 E ∧ Sum32 C ∧ Sum32 D ∧ C ≠ D ∧
    (∀ w, RootsIn w → Calls Tryd.prog 10 #[.slice none 0 0] w (fun e w' => e = .returned (.agg (vals8 A).toArray) ∧ Keeps w w')) ∧
    (∀ w v, Holds8 w v [97, 98, 99] → RootsIn w → Calls Tryd.prog 10 #[v] w (fun e w' => e = .returned (.agg (vals8 B).toArray) ∧ Keeps w w')) ∧
    (∀ w, Calls Tryd.prog 8 #[.string { data := #[101, 51, 98, 48, 99, 52, 52, 50, 57, 56, 102, 99, 49, 99, 49, 52, 57, 97, 102, 98, 102, 52, 99, 56, 57, 57, 54, 102, 98, 57, 50, 52, 50, 55, 97, 101, 52, 49, 101, 52, 54, 52, 57, 98, 57, 51, 52, 99, 97, 52, 57, 53, 57, 57, 49, 98, 55, 56, 53, 50, 98, 56, 53, 53] }] w (fun e w' => e = .returned (.tuple #[.agg (vals8 A).toArray, .bool true]) ∧ Keeps w w')) ∧
    (∀ w, Calls Tryd.prog 8 #[.string { data := #[69, 51, 98, 48, 99, 52, 52, 50, 57, 56, 102, 99, 49, 99, 49, 52, 57, 97, 102, 98, 102, 52, 99, 56, 57, 57, 54, 102, 98, 57, 50, 52, 50, 55, 97, 101, 52, 49, 101, 52, 54, 52, 57, 98, 57, 51, 52, 99, 97, 52, 57, 53, 57, 57, 49, 98, 55, 56, 53, 50, 98, 56, 53, 53] }] w (fun e w' => e = .returned (.tuple #[.agg (vals8 (List.replicate 32 0)).toArray, .bool false]) ∧ Keeps w w')) ∧
    (∀ w, Calls Tryd.prog 14 #[.agg (vals8 A).toArray] w (fun e w' => e = .returned (.string { data := #[101, 51, 98, 48, 99, 52, 52, 50, 57, 56, 102, 99, 49, 99, 49, 52, 57, 97, 102, 98, 102, 52, 99, 56, 57, 57, 54, 102, 98, 57, 50, 52, 50, 55, 97, 101, 52, 49, 101, 52, 54, 52, 57, 98, 57, 51, 52, 99, 97, 52, 57, 53, 57, 57, 49, 98, 55, 56, 53, 50, 98, 56, 53, 53] }) ∧ Keeps w w')) ∧
    (∀ w, Calls Tryd.prog 14 #[.agg (vals8 B).toArray] w (fun e w' => e = .returned (.string { data := #[98, 97, 55, 56, 49, 54, 98, 102, 56, 102, 48, 49, 99, 102, 101, 97, 52, 49, 52, 49, 52, 48, 100, 101, 53, 100, 97, 101, 50, 50, 50, 51, 98, 48, 48, 51, 54, 49, 97, 51, 57, 54, 49, 55, 55, 97, 57, 99, 98, 52, 49, 48, 102, 102, 54, 49, 102, 50, 48, 48, 49, 53, 97, 100] }) ∧ Keeps w w')) ∧
    (∀ w, Calls Tryd.prog 12 #[.agg (vals8 A).toArray] w (fun e w' => e = .returned (.int .u64 16406829232824261652) ∧ Keeps w w')) ∧
    (∀ w, RootsIn w → Calls Tryd.prog 16 #[.string { data := #[] }, .slice none 0 0] w (fun e w' => e = .returned (.agg (vals8 E).toArray) ∧ Keeps w w')) ∧
    (∀ w v, Holds8 w v (List.replicate 8 0) → RootsIn w → Calls Tryd.prog 10 #[v] w (fun e w' => e = .returned (.agg (vals8 E).toArray) ∧ Keeps w w')) ∧
    (∀ w v, Parts w v [[98, 99]] → RootsIn w → Calls Tryd.prog 16 #[.string { data := #[97] }, v] w (fun e w' => e = .returned (.agg (vals8 C).toArray) ∧ Keeps w w')) ∧
    (∀ w v, Parts w v [[99]] → RootsIn w → Calls Tryd.prog 16 #[.string { data := #[97, 98] }, v] w (fun e w' => e = .returned (.agg (vals8 D).toArray) ∧ Keeps w w')) := by
  refine ⟨sha [], sha [97, 98, 99], sha (List.replicate 8 0), sha [0, 0, 0, 0, 0, 0, 0, 1, 97, 0, 0, 0, 0, 0, 0, 0, 2, 98, 99], sha [0, 0, 0, 0, 0, 0, 0, 2, 97, 98, 0, 0, 0, 0, 0, 0, 0, 1, 99], sum32_sha _, sum32_sha _, sum32_sha _, sum32_sha _, sum32_sha _, ?_, ?_, ?_, ?_, ?_, ?_, ?_, ?_, ?_, ?_, ?_, ?_⟩
  · rw [sha_a_bc, sha_ab_c]; decide
  · exact fun w R => sum_at _ _ w (holds_none w) (by decide) R
  · exact fun w v h R => sum_at _ _ w h (by decide) R
  · refine fun w => (read_at _ w (by unfold maxLen; decide)).mono fun e w' h => ?_
    rw [show readB (strB ({ data := #[101, 51, 98, 48, 99, 52, 52, 50, 57, 56, 102, 99, 49, 99, 49, 52, 57, 97, 102, 98, 102, 52, 99, 56, 57, 57, 54, 102, 98, 57, 50, 52, 50, 55, 97, 101, 52, 49, 101, 52, 54, 52, 57, 98, 57, 51, 52, 99, 97, 52, 57, 53, 57, 57, 49, 98, 55, 56, 53, 50, 98, 56, 53, 53] } : ByteArray)) = sha [] by rw [sha_none]; kernel_rfl, show isHex (strB ({ data := #[101, 51, 98, 48, 99, 52, 52, 50, 57, 56, 102, 99, 49, 99, 49, 52, 57, 97, 102, 98, 102, 52, 99, 56, 57, 57, 54, 102, 98, 57, 50, 52, 50, 55, 97, 101, 52, 49, 101, 52, 54, 52, 57, 98, 57, 51, 52, 99, 97, 52, 57, 53, 57, 57, 49, 98, 55, 56, 53, 50, 98, 56, 53, 53] } : ByteArray)) = true by kernel_rfl] at h
    exact h
  · refine fun w => (read_at _ w (by unfold maxLen; decide)).mono fun e w' h => ?_
    rw [show readB (strB ({ data := #[69, 51, 98, 48, 99, 52, 52, 50, 57, 56, 102, 99, 49, 99, 49, 52, 57, 97, 102, 98, 102, 52, 99, 56, 57, 57, 54, 102, 98, 57, 50, 52, 50, 55, 97, 101, 52, 49, 101, 52, 54, 52, 57, 98, 57, 51, 52, 99, 97, 52, 57, 53, 57, 57, 49, 98, 55, 56, 53, 50, 98, 56, 53, 53] } : ByteArray)) = List.replicate 32 0 by kernel_rfl, show isHex (strB ({ data := #[69, 51, 98, 48, 99, 52, 52, 50, 57, 56, 102, 99, 49, 99, 49, 52, 57, 97, 102, 98, 102, 52, 99, 56, 57, 57, 54, 102, 98, 57, 50, 52, 50, 55, 97, 101, 52, 49, 101, 52, 54, 52, 57, 98, 57, 51, 52, 99, 97, 52, 57, 53, 57, 57, 49, 98, 55, 56, 53, 50, 98, 56, 53, 53] } : ByteArray)) = false by kernel_rfl] at h
    exact h
  · refine fun w => (hex_at _ w (sum32_sha _)).mono fun e w' h => ?_
    rw [show txtOf (hexN (sha [])) = ({ data := #[101, 51, 98, 48, 99, 52, 52, 50, 57, 56, 102, 99, 49, 99, 49, 52, 57, 97, 102, 98, 102, 52, 99, 56, 57, 57, 54, 102, 98, 57, 50, 52, 50, 55, 97, 101, 52, 49, 101, 52, 54, 52, 57, 98, 57, 51, 52, 99, 97, 52, 57, 53, 57, 57, 49, 98, 55, 56, 53, 50, 98, 56, 53, 53] } : ByteArray) by rw [sha_none]; kernel_rfl] at h
    exact h
  · refine fun w => (hex_at _ w (sum32_sha _)).mono fun e w' h => ?_
    rw [show txtOf (hexN (sha [97, 98, 99])) = ({ data := #[98, 97, 55, 56, 49, 54, 98, 102, 56, 102, 48, 49, 99, 102, 101, 97, 52, 49, 52, 49, 52, 48, 100, 101, 53, 100, 97, 101, 50, 50, 50, 51, 98, 48, 48, 51, 54, 49, 97, 51, 57, 54, 49, 55, 55, 97, 57, 99, 98, 52, 49, 48, 102, 102, 54, 49, 102, 50, 48, 48, 49, 53, 97, 100] } : ByteArray) by rw [sha_abc]; kernel_rfl] at h
    exact h
  · refine fun w => (num_at _ w (sum32_sha _)).mono fun e w' h => ?_
    rw [show unbig ((sha []).take 8) = 16406829232824261652 by rw [sha_none]; kernel_rfl] at h
    exact h
  · exact fun w R => tag_at _ _ [] w (parts_none w) (by decide) R
  · exact fun w v h R => sum_at _ _ w h (by decide) R
  · exact fun w v h R => tag_at _ _ [[98, 99]] w h (by decide) R
  · exact fun w v h R => tag_at _ _ [[99]] w h (by decide) R
end Go.Proofs.YtjkjnlbmmkbcaaaDoor
