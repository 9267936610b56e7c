/- What the laws on seals ask of package hash; the numbers of the small case. -/
import Derived.Test.YtboogomenmlhjaaDoorSealKit
import Derived.Test.YtboogomenmlhjaaDoorHashBig
import Derived.Test.YtboogomenmlhjaaDoorHashSum
import Derived.Test.YtboogomenmlhjaaDoorHashFacts
import Derived.Test.YtboogomenmlhjaaDoorMark
import Derived.Test.YtboogomenmlhjaaDoorSumSlice
set_option linter.unusedVariables false
set_option linter.unusedSimpArgs false
set_option maxRecDepth 10000
namespace Go.Proofs.YtboogomenmlhjaaDoor
open Go.RowKit Go.HashMath

/-- What lasts as long as all that was there is as it was. -/
def Lasting (R : World → Prop) : Prop := ∀ w w', R w → Keeps w w' → R w'
structure SumC (R : World → Prop) : Prop where
  csum : ∀ (v : Value) (bs : List Nat) (w : World), Holds8 w v bs → bs.length ≤ 1000000 → R w → Calls Tryd.prog 17 #[v] w (fun e w' => e = .returned (.agg (vals8 (sha bs)).toArray) ∧ Keeps w w')
  ctag : ∀ (name : ByteArray) (v : Value) (ls : List (List Nat)) (w : World), Parts w v ls → (tagB (strB name) ls).length ≤ 900000 → R w → Calls Tryd.prog 16 #[.string name, v] w (fun e w' => e = .returned (.agg (vals8 (sha (tagB (strB name) ls))).toArray) ∧ Keeps w w')
theorem equal_not9 {L M : List Nat} (h : Sum32 L) (h' : Sum32 M) (hn : L ≠ M) (w : World) : (Op.equalIn 10000 23 (.agg (vals8 L).toArray) (.agg (vals8 M).toArray)).run Tryd.prog w = .ok false w := by rw [equal8 h h', decide_eq_false hn]
theorem holds_len {w : World} {o : Option Addr} {n c m : Nat} {xs : List Nat} (h : Holds8 w (.slice o n c) xs) (hm : xs.length = m) : n = m := by
  obtain ⟨_, _, _, _, e, hn, _⟩ := h
  cases e
  omega
theorem marks_apart : sha (tagB nSeal [sha [107, 101, 121]]) ≠ sha (tagB nSeal [sha [107, 101, 121], []]) := by
  simp only [← shaF_eq]
  intro h
  have e : (shaF (tagB nSeal [shaF [107, 101, 121]])).take 1 = (shaF (tagB nSeal [shaF [107, 101, 121], []])).take 1 := by rw [h]
  revert e
  exact of_decide_eq_false (by kernel_rfl)
theorem hide_nil (key : List Nat) : hideB key [] = [] := by unfold hideB overB; rfl
theorem seal_nil (key : List Nat) : sealB key [] = (sha (tagB nSeal [key, []])).take 8 := by rw [sealB, hide_nil, markS, List.nil_append]
theorem stream_five (key : List Nat) : streamB key 5 = (sha (tagB nStream [key, List.replicate 8 0])).take 5 := by
  unfold streamB
  rw [show 5 / 32 + 1 = 1 from rfl, blks, blks, List.nil_append, sumAt, show big 8 0 = List.replicate 8 0 from by decide]
end Go.Proofs.YtboogomenmlhjaaDoor
