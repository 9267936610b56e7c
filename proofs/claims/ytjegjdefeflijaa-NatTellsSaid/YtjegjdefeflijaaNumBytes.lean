/- A string's letters as a list of numbers: plain lemmas; no program is named here. (Package num's texts still hold their own copy of bts.) -/
import Derived.Test.YtjegjdefeflijaaNumRead
import Derived.Laws.BytesArg
set_option linter.unusedVariables false
set_option linter.unusedSimpArgs false
namespace Go.NumDigits

/-- A string's letters, as numbers. -/
def lets (s : ByteArray) : List Int := s.data.toList.map fun b => (b.toNat : Int)
theorem lets_length (s : ByteArray) : (lets s).length = s.size := by rw [lets, List.length_map]; rfl
theorem lets_snoc (s : ByteArray) (k : Nat) (h : k < s.size) : (lets s).take (k + 1) = (lets s).take k ++ [(s[k].toNat : Int)] := by
  have h2 : k < (lets s).length := by rw [lets_length]; exact h
  rw [List.take_succ_eq_append_getElem h2]
  congr 2
  simp [lets]
  rfl
theorem lets_all (s : ByteArray) : (lets s).take s.size = lets s := by rw [← lets_length]; exact List.take_length
theorem digs_cut {l : List Int} {k : Nat} (h : digs (l.take k) = false) : digs l = false := by
  have e : l = l.take k ++ l.drop k := (List.take_append_drop _ _).symm
  rw [e, digs_append, h]; rfl

/-- Is it a natural's text? -/
def natB : List Int → Bool
  | [] => false
  | c :: t => digs (c :: t) && (c != 48 || t.isEmpty)
def natV (l : List Int) : Nat := if natB l then val l else 0
theorem natB_digs {l : List Int} (h : digs l = false) : natB l = false := by
  cases l with
  | nil => rfl
  | cons c t => rw [natB, h]; rfl
theorem lets_head (s : ByteArray) (h : 0 < s.size) : ∃ t, lets s = ((s[0]'h).toNat : Int) :: t ∧ t.length + 1 = s.size := by
  have e := lets_length s
  cases hl : lets s with
  | nil => rw [hl] at e; simp at e; omega
  | cons c t =>
    refine ⟨t, ?_, by rw [hl] at e; simpa using e⟩
    have k := lets_snoc s 0 h
    rw [hl] at k
    simp at k
    rw [k]
theorem val_lt (l : List Int) (h : digs l = true) : val l < 10 ^ l.length := by
  induction l using snoc_ind with
  | h0 => simp [val]
  | h1 k c ih =>
    rw [digs_snoc, Bool.and_eq_true, Bool.and_eq_true, decide_eq_true_eq, decide_eq_true_eq] at h
    have := ih h.1
    rw [val_snoc, List.length_append, List.length_singleton, Nat.pow_succ]
    generalize 10 ^ k.length = z at *
    omega
end Go.NumDigits
