/- A string's bytes, as a row in memory: []byte(s). -/
import Derived.Test.YtckikgfckihniaaDoorWrt
import Derived.Lib.ConvBytes
import Derived.Lib.AtoiErrMem
import Derived.Laws.AppendOwn
import Derived.Laws.BytesArg
set_option linter.unusedVariables false
set_option linter.unusedSimpArgs false
set_option maxRecDepth 10000
namespace Go.Proofs.YtckikgfckihniaaDoor
open Go.RowKit

/-- A string's bytes. -/
def strB (s : ByteArray) : List Nat := s.data.toList.map fun b => b.toNat
theorem strB_len (s : ByteArray) : (strB s).length = s.size := by rw [strB, List.length_map]; rfl
theorem strB_lt (s : ByteArray) : ∀ x ∈ strB s, x < 256 := by
  intro x hx
  obtain ⟨b, _, rfl⟩ := List.mem_map.1 hx
  exact b.toNat_lt
theorem strB_at (s : ByteArray) (i : Nat) (h : i < s.size) : (strB s).getD i 0 = (s[i]'h).toNat := by
  have h2 : i < s.data.toList.length := by simpa using h
  simp only [strB, List.getD, List.getElem?_map, List.getElem?_eq_getElem h2, Option.map_some, Option.getD_some]
  rfl
theorem run_conv_bytes (s : ByteArray) (w : World) : (convert 9 25 (.string s)).run Tryd.prog w = .ok (.slice (some ⟨w.heap.size, 0, none⟩) s.size (grownCap w s.size 0 5)) (Lib.bytesWorld w 5 s) :=
  Lib.run_convert_string_bytes w _ _ _ s Tryd.underlying9 Tryd.underlying25 Tryd.underlying5
theorem bytes_keeps (s : ByteArray) (w : World) : Keeps w (Lib.bytesWorld w 5 s) := Lib.bytesWorld_below w _ s
theorem bytes_holds (s : ByteArray) (w : World) (h : s.size ≤ maxLen) : Holds8 (Lib.bytesWorld w 5 s) (.slice (some ⟨w.heap.size, 0, none⟩) s.size (grownCap w s.size 0 5)) (strB s) :=
  ⟨strB_lt s, _, _, _, rfl, strB_len s, grownCap_ge w _ _ _, ⟨grownCap_le_maxLen w _ _ _ h, fun e => by cases e⟩, Or.inr ⟨w.heap.size, 0, rfl, by rw [Lib.bytesWorld_size]; omega, fun i hi => by
    rw [Nat.zero_add, Lib.bytesWorld_cell w _ s i hi, strB_at s i hi]
    have h2 : i < s.data.toList.length := by simpa using hi
    simp only [List.getD, List.getElem?_eq_getElem h2, Option.getD_some]
    rfl⟩⟩
/-- A row of bytes as a text. -/
def txtOf (l : List Nat) : ByteArray := strOfNums (l.map fun x : Nat => (x : Int))
theorem run_conv_text {w : World} {v : Value} {bs : List Nat} (h : Holds8 w v bs) (hp : 0 < bs.length) : (convert 25 9 v).run Tryd.prog w = .ok (.string (txtOf bs)) w := by
  obtain ⟨b, off, n, c, rfl, hn, _, _, _, hx⟩ := h.open hp
  refine run_convert_bytes_arg w 25 5 Tryd.underlying25 Tryd.underlying5 b off n c _ (by rw [List.length_map]; exact hn) (fun i hi => ?_) 9 Tryd.underlying9
  rw [hx i (by omega)]
  have h2 : i < bs.length := by omega
  simp [List.getD, h2]
theorem strB_txt {l : List Nat} (h : ∀ x ∈ l, x < 256) : strB (txtOf l) = l := by
  rw [strB, txtOf, strOfNums]
  simp only [List.map_map]
  conv => rhs; rw [← List.map_id l]
  refine List.map_congr_left fun x hx => ?_
  have := h x hx
  simp; omega
theorem txt_strB (s : ByteArray) : txtOf (strB s) = s := by
  have e : s = ⟨s.data.toList.toArray⟩ := by simp
  conv => rhs; rw [e]
  unfold txtOf strB strOfNums
  simp only [List.map_map]
  congr 2
  conv => rhs; rw [← List.map_id s.data.toList]
  refine List.map_congr_left fun c _ => ?_
  simp
theorem txt_size (l : List Nat) : (txtOf l).size = l.length := by
  show (txtOf l).data.size = l.length
  simp [txtOf, strOfNums]
end Go.Proofs.YtckikgfckihniaaDoor
