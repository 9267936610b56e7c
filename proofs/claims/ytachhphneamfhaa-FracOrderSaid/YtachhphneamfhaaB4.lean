/- Texts of one proof, laid together: NatGrow, NatParseD, NatHere, FracOwn, FracRight, FracLowD, FracLiken, FracReck, FracProd, FracMulQ. -/
import Derived.Test.YtachhphneamfhaaB1
import Derived.Test.YtachhphneamfhaaB2
import Derived.Test.YtachhphneamfhaaB3
import Derived.Laws.RangeAny
import Derived.Laws.BytesArg
import Derived.Deep.RegionHeld3
import Derived.Deep.DeepCutAuto
import Derived.Deep.RegionWith
set_option linter.unusedVariables false
set_option linter.unusedSimpArgs false
/- The contracts of package nat's decimal and grow. -/
namespace Go.Proofs.Ytachhphneamfhaa
open Go.RowKit Go.NatMath Go.NumDigits

theorem keeps_iter {w wr : World} (h : Keeps w wr) (s : ByteArray) (k : Nat) : Keeps w (wr.iter s k) := h.alloc _

set_option maxHeartbeats 1000000 in
theorem decimal_walk (s : ByteArray) (w : World) (hs : s.size ≤ 1000) (hp : 0 < s.size) (x : Nat) (fx : ∀ h : 0 < s.size, (((s[0]'h).toNat : Nat) : Int) = (x : Int)) (h : ((x : Int) == 48) = false ∨ ((x : Int) == 48) = true ∧ ¬ (1 : Int) < (s.size : Int)) :
    Calls Try.prog 58 #[.string s] w (fun e w' => e = .returned (.bool (digs (lets s))) ∧ Keeps w w') := by
  have h0 : s.size ≠ 0 := by omega
  have he : s.toList.isEmpty = false := by
    rw [ByteArray.toList_eq]
    have : s.data.toList.length = s.size := rfl
    cases hl : s.data.toList with
    | nil => rw [hl] at this; exact absurd this.symm h0
    | cons c l => rfl
  have hne : ¬ s.toList = [] := by intro e; rw [e] at he; exact absurd he (by decide)
  generalize hD : digs (lets s) = D
  have HD := Lib.hid hD
  clear h0 hD
  rcases h with e1 | ⟨e1, e2⟩
  all_goals
    go_enter Try.func58, Try.ntmps58
    go_wp2
    go_loopw [2] (fun s2 wr => ∃ k : Nat, s2 = .bool false ∧ k ≤ s.size ∧ wr = w.iter s k ∧ Hid (digs ((lets s).take k) = true)) (fun _ wr => s.size - wr.iterPos w.heap.size)
    case atStart => exact ⟨0, rfl, Nat.zero_le _, rfl, Lib.hid rfl⟩
    case round =>
      obtain ⟨k, rfl, hk, rfl, hd⟩ := hrel
      by_cases hlt : k < s.size
      · have hsn := lets_snoc s k hlt
        by_cases ha : s[k].toNat < 128
        · obtain ⟨y, ey⟩ : ∃ y : Nat, y = s[k].toNat := ⟨_, rfl⟩
          have hn := fun ty => run_next_ascii (P := Try.prog) w s k ty hlt ha
          simp only [← ey] at hn hsn ha
          have HN := Lib.hid hsn
          clear hsn ey
          by_cases c1 : (y : Int) < 48
          · have E := Lib.hid (show D = false from by rw [← HD.out]; exact digs_cut (k := k + 1) (by rw [HN.out, digs_snoc]; simp; omega))
            go_wp2
            go_ret
            exact ⟨by rw [E.out]; rfl, keeps_iter (Keeps.refl _) _ _⟩
          · by_cases c2 : (57 : Int) < (y : Int)
            · have E := Lib.hid (show D = false from by rw [← HD.out]; exact digs_cut (k := k + 1) (by rw [HN.out, digs_snoc]; simp; omega))
              go_wp2
              go_ret
              exact ⟨by rw [E.out]; rfl, keeps_iter (Keeps.refl _) _ _⟩
            · have E := Lib.hid (show digs ((lets s).take (k + 1)) = true from by rw [HN.out, digs_snoc, hd.out]; simp; omega)
              go_wp2
              go_roundw
              case rel => exact ⟨k + 1, rfl, hlt, rfl, E⟩
              case measure => simp; omega
        · obtain ⟨r, er⟩ : ∃ r : Nat, r = (Utf8.decode s k).1 := ⟨_, rfl⟩
          obtain ⟨p, ep⟩ : ∃ p : Nat, p = k + (Utf8.decode s k).2 := ⟨_, rfl⟩
          have hn := fun ty => run_next_any (P := Try.prog) w s k ty hlt
          have E := Lib.hid (show D = false from by rw [← HD.out]; exact digs_cut (k := k + 1) (by rw [hsn, digs_snoc]; simp; omega))
          have r1 := (decode_high s k hlt (by omega)).1
          have r2 := decode_le s k
          rw [← er] at r1 r2
          simp only [← er, ← ep] at hn
          clear er ep hsn ha
          have r3 : (57 : Int) < (r : Int) := by omega
          have r4 : ¬ (r : Int) < 48 := by omega
          go_wp2
          go_ret
          exact ⟨by rw [E.out]; rfl, keeps_iter (Keeps.refl _) _ _⟩
      · have hn := fun ty => run_next_end (P := Try.prog) w s k ty hlt
        obtain rfl : k = s.size := by omega
        rw [lets_all] at hd
        have E := Lib.hid (show D = true from by rw [← HD.out]; exact hd.out)
        clear hd
        go_wp2
        go_ret
        exact ⟨by rw [E.out]; rfl, keeps_iter (Keeps.refl _) _ _⟩

theorem own_decimal (s : ByteArray) (hs : s.size ≤ 1000) (w : World) : Calls Try.prog 58 #[.string s] w (fun e w' => e = .returned (.bool (natB (lets s))) ∧ Keeps w w') := by
  by_cases h0 : s.size = 0
  · have e0 : s = { data := #[] } := by
      apply ByteArray.ext
      exact Array.eq_empty_of_size_eq_zero h0
    subst e0
    go_enter Try.func58, Try.ntmps58
    go_wp2_with fail
    go_ret
    exact ⟨rfl, Keeps.refl _⟩
  · have hp : 0 < s.size := by omega
    obtain ⟨t, ht, htl⟩ := lets_head s hp
    obtain ⟨x, ex⟩ : ∃ x : Nat, x = (s[0]'hp).toNat := ⟨_, rfl⟩
    have fx : ∀ h : 0 < s.size, (((s[0]'h).toNat : Nat) : Int) = (x : Int) := fun h => by rw [ex]
    rw [← ex] at ht
    by_cases cx : x = 48
    · by_cases c1 : 1 < s.size
      · have hB : natB (lets s) = false := by
          have : t.isEmpty = false := by
            cases t with
            | nil => simp at htl; omega
            | cons _ _ => rfl
          rw [ht, cx]; simp [natB, this]
        have he : s.toList.isEmpty = false := by
          rw [ByteArray.toList_eq]
          have : s.data.toList.length = s.size := rfl
          cases hl : s.data.toList with
          | nil => rw [hl] at this; exact absurd this.symm h0
          | cons c l => rfl
        have hne : ¬ s.toList = [] := by intro e; rw [e] at he; exact absurd he (by decide)
        have e1 : ((x : Int) == 48) = true := by simp [cx]
        have c3 : (1 : Int) < (s.size : Int) := by omega
        rw [hB]
        clear hB ht htl ex cx c1 h0
        go_enter Try.func58, Try.ntmps58
        go_wp2_with fail
        go_ret
        exact ⟨rfl, Keeps.refl _⟩
      · have hB : natB (lets s) = digs (lets s) := by
          have : t.isEmpty = true := by
            cases t with
            | nil => rfl
            | cons _ _ => simp at htl; omega
          rw [ht]; simp [natB, this]
        rw [hB]
        exact decimal_walk s w hs hp x fx (Or.inr ⟨by simp [cx], by omega⟩)
    · have hB : natB (lets s) = digs (lets s) := by
        rw [ht]
        have : ((x : Int) != 48) = true := by simp; omega
        simp only [natB]
        rw [this]; simp
      rw [hB]
      exact decimal_walk s w hs hp x fx (Or.inl (by simp; omega))

/-- A row of the call's own that may grow: v holds these digits. -/
def Own32 (w : World) (B : Nat) (v : Value) (xs : List Nat) : Prop := w.ownsRow B 45 1 v xs.length (vals xs) ∧ ∀ x ∈ xs, x < 4294967296
theorem Own32.holds {w : World} {B : Nat} {v : Value} {xs : List Nat} (h : Own32 w B v xs) : Holds32 w v xs := holds_of_own h.1 h.2
theorem Own32.lt {w : World} {B : Nat} {v : Value} {xs : List Nat} (h : Own32 w B v xs) (i : Nat) : xs.getD i 0 < 4294967296 := h.holds.lt i
theorem vals_getD (xs : List Nat) (i : Nat) (hi : i < xs.length) : (vals xs)[i]? = some (.int .u32 ((xs.getD i 0 : Nat) : Int)) := by
  simp [vals, List.getD, hi]
/-- What a row with a digit is. -/
theorem Own32.parts {w : World} {B : Nat} {v : Value} {xs : List Nat} (h : Own32 w B v xs) (hp : 0 < xs.length) : ∃ g cap, v = .slice (some ⟨g, 0, none⟩) xs.length cap ∧ B ≤ g := by
  obtain ⟨⟨h1, h2⟩, _⟩ := h
  rcases h2 with ⟨_, h2⟩ | ⟨g, cap, cur, h3, h4, _⟩
  · omega
  · exact ⟨g, cap, h3, h4⟩
theorem Own32.cell {w : World} {B g n cap : Nat} {xs : List Nat} (h : Own32 w B (.slice (some ⟨g, 0, none⟩) n cap) xs) (i : Nat) (hi : i < xs.length) :
    w.cell? ⟨g, i, none⟩ = some (.int .u32 ((xs.getD i 0 : Nat) : Int)) ∧ w.frozen? ⟨g, i, none⟩ = false := by
  obtain ⟨⟨h1, h2⟩, _⟩ := h
  rcases h2 with ⟨h2, _⟩ | ⟨g', cap', cur, h3, h4, h5, h6, h7, h8, h9⟩
  · cases h2
  · cases h3
    have e : cur[i]? = some (.int .u32 ((xs.getD i 0 : Nat) : Int)) := by
      rw [← vals_getD xs i hi, ← h9, List.getElem?_take]
      simp [hi]
    exact ⟨by simp only [World.cell?, h5]; exact e, by simp [World.frozen?, h5]⟩
theorem Own32.set {w : World} {B g n cap : Nat} {xs : List Nat} (h : Own32 w B (.slice (some ⟨g, 0, none⟩) n cap) xs) (i d : Nat) (hi : i < xs.length) (hd : d < 4294967296) :
    Own32 (w.setCell ⟨g, i, none⟩ (.int .u32 (d : Int))) B (.slice (some ⟨g, 0, none⟩) n cap) (xs.set i d) := by
  obtain ⟨⟨h1, h2⟩, hx⟩ := h
  rcases h2 with ⟨h2, _⟩ | ⟨g', cap', cur, h3, h4, h5, h6, h7, h8, h9⟩
  · cases h2
  · cases h3
    refine ⟨⟨by simp [vals], Or.inr ⟨g, cap, cur.setIfInBounds i (.int .u32 (d : Int)), by simp, h4, ?_, by simpa using h6, h7, by simpa using h8, ?_⟩⟩, fun x hm => ?_⟩
    · simp [World.setCell, Array.getElem?_modify, h5]
    · rw [List.length_set, Array.toList_setIfInBounds, List.take_set, h9]
      simp [vals, List.map_set]
    · rcases List.mem_or_eq_of_mem_set hm with q | q
      · exact hx x q
      · omega

theorem grow_next {xs m : List Nat} {k c t M d c2 : Nat} (hk : k < m.length) (hg : m.getD k 0 = xs.getD k 0) (h : nv (m.take k) + 4294967296 ^ k * c = t * nv (xs.take k) + M) (e : c + xs.getD k 0 * t = d + 4294967296 * c2) :
    nv ((m.set k d).take (k + 1)) + 4294967296 ^ (k + 1) * c2 = t * nv (xs.take (k + 1)) + M := by
  rw [nv_take_succ, nv_take_succ, List.take_set_of_le (Nat.le_refl _), show (m.set k d).getD k 0 = d from by simp [List.getD, hk], Nat.pow_succ, Nat.mul_assoc, Nat.mul_add]
  have e2 : 4294967296 ^ k * c + 4294967296 ^ k * (xs.getD k 0 * t) = 4294967296 ^ k * d + 4294967296 ^ k * (4294967296 * c2) := by rw [← Nat.mul_add, ← Nat.mul_add, e]
  have e3 : t * (4294967296 ^ k * xs.getD k 0) = 4294967296 ^ k * (xs.getD k 0 * t) := by rw [Nat.mul_left_comm, Nat.mul_comm t]
  rw [e3]
  omega
theorem grow_right {xs m : List Nat} {t M : Nat} (hm : ∀ x ∈ m, x < 4294967296) (hr : rt xs = true) (hl : m.length = xs.length) (ht : 0 < t) (h : nv m = t * nv xs + M) : lo (nv m) = m := by
  refine lo_nv hm ?_
  by_cases h0 : m.length = 0
  · rw [List.eq_nil_of_length_eq_zero h0]; rfl
  · obtain ⟨l, hl2⟩ : ∃ l, xs.length = l + 1 := ⟨xs.length - 1, by omega⟩
    have a := nv_ge hr hl2
    have b : 1 * nv xs ≤ t * nv xs := Nat.mul_le_mul_right _ ht
    cases hc : rt m
    · have hlm : m.length = l + 1 := by omega
      rw [rt, hlm, Bool.or_eq_false_iff, decide_eq_false_iff_not, decide_eq_false_iff_not, Nat.add_sub_cancel] at hc
      obtain ⟨_, t2⟩ := top_one hm hlm
      rw [show m.getD l 0 = 0 from by omega, Nat.zero_add, Nat.one_mul] at t2
      omega
    · rfl
theorem grow_more {m : List Nat} {c : Nat} (hm : ∀ x ∈ m, x < 4294967296) (hc : 0 < c) (hc2 : c < 4294967296) : lo (nv m + 4294967296 ^ m.length * c) = m ++ [c] := by
  have e : nv (m ++ [c]) = nv m + 4294967296 ^ m.length * c := by rw [nv_append]; simp [nv]
  rw [← e]
  refine lo_nv (fun x hx => ?_) ?_
  · rcases List.mem_append.1 hx with g | g
    · exact hm x g
    · rw [List.mem_singleton] at g; omega
  · simp [rt, List.getD]; omega

def GrowIn (W : World) (xs : List Nat) (t M : Nat) (s0 s7 s14 : Value) (wr : World) : Prop :=
  ∃ (k c : Nat) (m : List Nat), s14 = .int .i64 (k : Int) ∧ s7 = .int .u64 (c : Int) ∧ k ≤ xs.length ∧ c < 4294967296 ∧ m.length = xs.length ∧ Own32 wr W.heap.size s0 m ∧ Keeps W wr ∧ (∀ i, k ≤ i → m.getD i 0 = xs.getD i 0) ∧ nv (m.take k) + 4294967296 ^ k * c = t * nv (xs.take k) + M
def GrewIn (W : World) (N : Nat) (e : Ending) (w' : World) : Prop := ∃ v', e = .returned v' ∧ Own32 w' W.heap.size v' (lo N) ∧ Keeps W w'

set_option maxHeartbeats 2000000 in
set_option maxRecDepth 100000 in
theorem own_grow (W : World) (v : Value) (xs : List Nat) (t M : Nat) (w : World) (lx : xs.length ≤ 1000) (ht : 0 < t) (ht2 : t < 4294967296) (hM : M < 4294967296) (hr : rt xs = true) (h : Own32 w W.heap.size v xs) (hk : Keeps W w) :
    Calls Try.prog 59 #[v, .int .u32 t, .int .u32 M] w (GrewIn W (t * nv xs + M)) := by
  obtain ⟨i0, hi, hz0, hz1, hz2⟩ := info_parts info32
  have hH := h.holds
  obtain ⟨_, ao, len, cap, rfl, e1, e2, e3, _⟩ := hH
  subst e1
  have HO := Lib.hid h
  have HK := Lib.hid hk
  have HRT := Lib.hid hr
  clear h hk hr e3
  go_enter Try.func59, Try.ntmps59
  go_wp2_with fail
  go_loopw [7, 14] (fun s7 s14 wr => GrowIn W xs t M (.slice ao xs.length cap) s7 s14 wr) (fun _ s14 _ => xs.length - (intOf s14).toNat)
  case atStart => exact ⟨0, M, xs, rfl, rfl, Nat.zero_le _, hM, rfl, HO.out, HK.out, fun _ _ => rfl, by simp [nv]⟩
  case round =>
    clear HO HK hM
    obtain ⟨k, c, m, rfl, rfl, hk, hc, hml, hO, hK, hg, hI⟩ := hrel
    by_cases g1 : (k : Int) < (xs.length : Int)
    · have hP := hO.parts (by omega)
      rw [hml] at hP
      obtain ⟨g, cap', e, hgB⟩ := hP
      cases e
      obtain ⟨cx, fx⟩ := hO.cell k (by omega)
      have hx := hO.lt k
      rw [hg k (Nat.le_refl _)] at cx hx
      have hN := fun d c2 e => grow_next (d := d) (c2 := c2) (show k < m.length by omega) (hg k (Nat.le_refl _)) hI e
      obtain ⟨x, ex⟩ : ∃ x, x = xs.getD k 0 := ⟨_, rfl⟩
      rw [← ex] at cx hx hN
      have hp : x * t ≤ 4294967295 * 4294967295 := Nat.mul_le_mul (by omega) (by omega)
      have v1 : IntKind.u64.wrap ((x : Int) * (t : Int)) = ((x * t : Nat) : Int) := by rw [IntKind.wrap_u64, Int.natCast_mul]; rw [← Int.natCast_mul]; omega
      obtain ⟨p, ep⟩ : ∃ p, p = x * t := ⟨_, rfl⟩
      rw [← ep] at v1 hN hp
      obtain ⟨d, ed⟩ : ∃ d, d = (c + p) % 4294967296 := ⟨_, rfl⟩
      obtain ⟨c2, ec2⟩ : ∃ c2, c2 = (c + p) / 4294967296 := ⟨_, rfl⟩
      have f1 : ((c : Int) + (p : Int)) % 4294967296 = (d : Int) := by omega
      have f2 : ((c : Int) + (p : Int)) / 4294967296 = (c2 : Int) := by omega
      have hd : d < 4294967296 := by omega
      have hc2 : c2 < 4294967296 := by omega
      have HN := Lib.hid (hN d c2 (by omega))
      have HO := Lib.hid (hO.set k d (by omega) hd)
      have HK := Lib.hid (keeps_set (G := g) (i := k) (v := .int .u32 (d : Int)) hK hgB)
      have HML := Lib.hid (show (m.set k d).length = xs.length by rw [List.length_set]; exact hml)
      have HG := Lib.hid (show ∀ i, k + 1 ≤ i → (m.set k d).getD i 0 = xs.getD i 0 from fun i hi => by
        rw [← hg i (by omega)]
        have hne : k ≠ i := by omega
        simp [List.getD, List.getElem?_set_ne hne])
      clear hN hO hK hml hg hI ex ep ed ec2
      go_wp2_with fail
      go_roundw
      case rel => exact ⟨k + 1, c2, _, by go_num, rfl, by omega, hc2, HML.out, HO.out, HK.out, HG.out, HN.out⟩
      case measure => simp [intOf]; omega
    · obtain rfl : k = xs.length := by omega
      rw [List.take_of_length_le (Nat.le_of_eq hml), List.take_length] at hI
      by_cases hc0 : (0 : Int) < (c : Int)
      · have hgm := grow_more hO.2 (show 0 < c by omega) hc
        rw [hml, hI] at hgm
        have hO1 : wr.ownsRow W.heap.size 45 1 (.slice ao xs.length cap) xs.length (vals m) := by have q := hO.1; rw [hml] at q; exact q
        have HM := Lib.hid hml
        have HX := Lib.hid hO.2
        have HO := Lib.hid hO1
        have HK := Lib.hid hK
        have HGM := Lib.hid hgm
        have f0 : (c : Int) % 4294967296 = (c : Int) := by omega
        clear hO hO1 hK hg hI hgm hml
        go_wp2_with (at_builtin; refine wpList_append_own _ rfl (.tmp 36) (.tmp 39) 22 rfl W.heap.size 45 i0 (.int .u32 0) 1 4 Try.underlying22 hi hz0 hz1 hz2 rfl (by decide) _ xs.length _ rfl (HO.out.alloc _) ⟨_, 0, none⟩ 1 1 [.int .u32 (c : Int)] rfl ?c1 ?c2 ?c3 ?c4 ?c5 ?c6 ?_)
        case c3 => first | rfl | (intro u hu; rw [List.mem_singleton] at hu; subst hu; rfl)
        case c4 => unfold maxLen; omega
        case c5 => omega
        case c6 => have := HK.out.size; first | omega | (rw [World.size_alloc]; omega)
        intro v' w1 ho hgr _
        have HO2 := Lib.hid ho
        have HK2 := Lib.hid (keeps_grown HK.out HO.out hgr)
        clear ho hgr
        go_wp2_with fail
        go_ret
        refine ⟨v', rfl, ?_, HK2.out⟩
        rw [HGM.out]
        refine ⟨?_, fun x hx => ?_⟩
        · have o := HO2.out
          rw [show vals m ++ [Value.int .u32 (c : Int)] = vals (m ++ [c]) from by simp [vals]] at o
          rw [List.length_append, HM.out]; exact o
        · rcases List.mem_append.1 hx with g | g
          · exact HX.out x g
          · rw [List.mem_singleton] at g; omega
      · obtain rfl : c = 0 := by omega
        rw [Nat.mul_zero, Nat.add_zero] at hI
        have hgr := grow_right hO.2 HRT.out hml ht hI
        rw [hI] at hgr
        have HO := Lib.hid hO
        have HK := Lib.hid hK
        have HGR := Lib.hid hgr
        clear hO hK hg hI hgr hml
        go_wp2_with fail
        go_ret
        exact ⟨_, rfl, by rw [HGR.out]; exact HO.out, HK.out⟩
end Go.Proofs.Ytachhphneamfhaa
/- The contract of package nat's Parse. -/
namespace Go.Proofs.Ytachhphneamfhaa
open Go.RowKit Go.NatMath Go.NumDigits

theorem val_append (l k : List Int) : val (l ++ k) = val l * 10 ^ k.length + val k := by
  induction k using snoc_ind with
  | h0 => simp [val]
  | h1 k c ih => rw [← List.append_assoc, val_snoc, ih, val_snoc, List.length_append, List.length_singleton, Nat.pow_succ, Nat.mul_add, ← Nat.mul_assoc, Nat.mul_comm 10 (val l), Nat.mul_assoc, Nat.mul_comm 10 (10 ^ k.length), ← Nat.add_assoc]
theorem lets_extract (s : ByteArray) (i j : Nat) (h : j ≤ s.size) : lets (s.extract i j) = ((lets s).take j).drop i := by
  rw [lets, ByteArray.data_extract, Array.toList_extract]
  simp only [List.extract, lets, List.map_take, List.map_drop]
  rw [List.drop_take]
theorem digs_take {l : List Int} (h : digs l = true) (k : Nat) : digs (l.take k) = true := by
  rw [← List.take_append_drop k l, digs_append, Bool.and_eq_true] at h; exact h.1
theorem digs_drop {l : List Int} (h : digs l = true) (k : Nat) : digs (l.drop k) = true := by
  rw [← List.take_append_drop k l, digs_append, Bool.and_eq_true] at h; exact h.2
theorem digs_at {s : ByteArray} {k : Nat} (h : digs (lets s) = true) (hk : k < s.size) : 48 ≤ s[k].toNat ∧ s[k].toNat ≤ 57 := by
  have := digs_take h (k + 1)
  rw [lets_snoc s k hk, digs_snoc, Bool.and_eq_true, Bool.and_eq_true, decide_eq_true_eq, decide_eq_true_eq] at this
  omega
theorem lo_val_len (l : List Int) (h : digs l = true) (hl : l.length ≤ 1000) : (lo (val l)).length ≤ 1000 := Nat.le_trans (lo_ten_pow l.length _ (val_lt l h)) hl

/-- How it stands between two groups: u is left of s. -/
def ParseIn (w : World) (s : ByteArray) (u : ByteArray) (s4 : Value) (wr : World) : Prop :=
  ∃ p : Nat, p ≤ s.size ∧ lets u = (lets s).drop p ∧ (p = 0 ∨ u.size % 9 = 0) ∧ Own32 wr w.heap.size s4 (lo (val ((lets s).take p))) ∧ Keeps w wr

theorem parse_next {l : List Int} {p q : Nat} (hd : digs l = true) (hq : q ≤ 9) (hp : p = 0 ∨ q = 9) (hl : p + q ≤ l.length) : 1000000000 * val (l.take p) + val ((l.drop p).take q) = val (l.take (p + q)) := by
  rw [List.take_add, val_append, List.length_take, List.length_drop, Nat.min_eq_left (by omega)]
  rcases hp with rfl | rfl
  · simp [val]
  · rw [Nat.mul_comm]
theorem own_empty (w w1 : World) (h : w.heap.size ≤ w1.heap.size) : Own32 (w1.alloc (.cells #[] 45)) w.heap.size (.slice (some ⟨w1.heap.size, 0, none⟩) 0 0) [] := by
  refine ⟨⟨rfl, Or.inr ⟨w1.heap.size, 0, #[], rfl, h, (MapKept.heap_alloc w1 _).1, Nat.le_refl _, Nat.zero_le _, rfl, rfl⟩⟩, fun x hx => by cases hx⟩
def strLen : Value → Nat | .string u => u.size | _ => 0
theorem Own32.grown {w w' : World} {B : Nat} {v : Value} {xs : List Nat} (h : Own32 w B v xs) (k : Keeps w w') : Own32 w' B v xs := by
  obtain ⟨⟨h1, h2⟩, hx⟩ := h
  refine ⟨⟨h1, ?_⟩, hx⟩
  rcases h2 with h2 | ⟨g, cap, cur, h3, h4, h5, h6⟩
  · exact Or.inl h2
  · exact Or.inr ⟨g, cap, cur, h3, h4, (Below.block k g (lt_of_block h5)).trans h5, h6⟩

set_option maxHeartbeats 2000000 in
set_option maxRecDepth 100000 in
theorem nat_parse (s : ByteArray) (hs : s.size ≤ 1000) (w : World) :
    Calls Try.prog 33 #[.string s] w (Gives2 w (if natB (lets s) then lo (val (lets s)) else []) (natB (lets s))) := by
  have D := own_decimal s hs w
  cases hb : natB (lets s)
  · rw [hb] at D
    rw [if_neg (by decide)]
    clear hb
    go_enter Try.func33, Try.ntmps33
    go_wp2_with (go_at_call 58; (with_reducible refine (D).mono ?_); rintro e w1 ⟨rfl, hk⟩)
    go_ret2
    exact ⟨_, rfl, Holds32.nil _, hk, fresh_nil _⟩
  · rw [hb] at D
    rw [if_pos rfl]
    have hdg : digs (lets s) = true := by
      cases h : digs (lets s)
      · rw [natB_digs h] at hb; cases hb
      · rfl
    have HDG := Lib.hid hdg
    have HSL := Lib.hid (lets_length s)
    clear hb hdg
    go_enter Try.func33, Try.ntmps33
    go_upto_block 0 with (go_at_call 58; (with_reducible refine (D).mono ?_); rintro e w1 ⟨rfl, hk⟩)
    have hO := own_empty w w1 hk.size
    have hK := hk.alloc (.cells #[] 45)
    generalize w1.alloc (.cells #[] 45) = w2 at hO hK ⊢
    have HO := Lib.hid hO
    have HK := Lib.hid hK
    clear D hO hK hk
    go_wp2_with fail
    go_loopw [0, 4] (fun s0 s4 wr => ∃ u : ByteArray, s0 = .string u ∧ ParseIn w s u s4 wr) (fun s0 _ _ => strLen s0)
    case atStart => exact ⟨s, rfl, 0, Nat.zero_le _, by rw [List.drop_zero], Or.inl rfl, by rw [List.take_zero, show val [] = 0 from rfl, lo_zero]; exact HO.out, HK.out⟩
    case round =>
      clear HO HK
      obtain ⟨u, rfl, p, hp, hu, hp9, hO, hK⟩ := hrel
      have hul : u.size + p = s.size := by have a := lets_length u; rw [hu, List.length_drop, HSL.out] at a; omega
      by_cases h0 : u.size = 0
      · have e0 : u = { data := #[] } := by
          apply ByteArray.ext
          exact Array.eq_empty_of_size_eq_zero h0
        subst e0
        have e1 : p = s.size := by omega
        rw [e1, lets_all] at hO
        have HH := Lib.hid hO.holds
        have HF := Lib.hid (show Fresh w u4 from fun b off l c e => by
          obtain ⟨⟨_, q⟩, _⟩ := hO
          rcases q with ⟨q, _⟩ | ⟨g, cap, cur, q, q2, _⟩
          · rw [e] at q; cases q
          · rw [e] at q; cases q; exact q2)
        have HK := Lib.hid hK
        clear hu hul hp9 hO hK h0 e1 hp
        go_wp2_with fail
        go_ret2
        exact ⟨_, rfl, HH.out, HK.out, HF.out⟩
      · have he : u.toList.isEmpty = false := by
          rw [ByteArray.toList_eq]
          have : u.data.toList.length = u.size := rfl
          cases hl : u.data.toList with
          | nil => rw [hl] at this; exact absurd this.symm h0
          | cons c l => rfl
        have hne : ¬ u.toList = [] := by intro e; rw [e] at he; exact absurd he (by decide)
        obtain ⟨n, en⟩ : ∃ n, u.size = n + 1 := ⟨u.size - 1, by omega⟩
        obtain ⟨q, eq⟩ : ∃ q, q = n % 9 + 1 := ⟨_, rfl⟩
        have f1 : ((n : Int) + 1 - 1) % 9 + 1 = (q : Int) := by omega
        have q1 : q ≤ u.size := by omega
        have q2 : (q : Int) ≤ (u.size : Int) := by omega
        have q3 : 1 ≤ q := by omega
        have q4 : q ≤ 9 := by omega
        have ub : (u.size : Int) ≤ 1000 := by omega
        have f2 : ((u.size : Int) - 1) % 9 + 1 = (q : Int) := by omega
        have HU := Lib.hid hu
        have HUL := Lib.hid hul
        have HP9 := Lib.hid hp9
        have HO := Lib.hid hO
        have HK := Lib.hid hK
        have EN := Lib.hid en
        have EQ := Lib.hid eq
        clear hu hul hp9 hO hK en eq h0 f1
        go_upto_block 2 with fail
        have ha : lets (u.extract 0 q) = ((lets s).drop p).take q := by rw [lets_extract u 0 q q1, List.drop_zero, HU.out]
        have hal : (u.extract 0 q).size = q := by rw [ByteArray.size_extract]; omega
        have hu2 : lets (u.extract q u.size) = (lets s).drop (p + q) := by rw [lets_extract u q u.size (Nat.le_refl _), lets_all, HU.out, List.drop_drop]
        have hu2l : (u.extract q u.size).size = u.size - q := by rw [ByteArray.size_extract]; omega
        have had : digs (lets (u.extract 0 q)) = true := by rw [ha]; exact digs_take (digs_drop HDG.out p) q
        obtain ⟨a, ea⟩ : ∃ a, a = u.extract 0 q := ⟨_, rfl⟩
        rw [← ea] at ha hal had ⊢
        have HA := Lib.hid ha
        have HAL := Lib.hid hal
        have HU2 := Lib.hid hu2
        have HU2L := Lib.hid hu2l
        have HAD := Lib.hid had
        clear ha hal hu2 hu2l had ea f2
        go_wp2_with fail
        go_loopw [6] (fun s6 wr2 => ∃ k v : Nat, k ≤ a.size ∧ wr2 = wr.iter a k ∧ s6 = .int .u32 (v : Int) ∧ Hid (v = val ((lets a).take k))) (fun _ wr2 => a.size - wr2.iterPos wr.heap.size)
        case atStart => exact ⟨0, 0, Nat.zero_le _, rfl, rfl, Lib.hid rfl⟩
        case round =>
          obtain ⟨k, v, hk, rfl, rfl, hv⟩ := hrel
          by_cases hlt : k < a.size
          · have hsn := lets_snoc a k hlt
            obtain ⟨y1, y2⟩ := digs_at HAD.out hlt
            have hvl := val_lt _ (digs_take HAD.out k)
            rw [← hv.out] at hvl
            have hv8 : v < 100000000 := by
              have b : 10 ^ ((lets a).take k).length ≤ 10 ^ 8 := Nat.pow_le_pow_right (by decide) (Nat.le_trans (List.length_take_le _ _) (by have := HAL.out; omega))
              omega
            have hn := fun ty => run_next_ascii (P := Try.prog) wr a k ty hlt (by omega)
            obtain ⟨y, ey⟩ : ∃ y : Nat, y = a[k].toNat := ⟨_, rfl⟩
            simp only [← ey] at hn hsn y1 y2
            have HV := Lib.hid (show 10 * v + (y - 48) = val ((lets a).take (k + 1)) by rw [hsn, val_snoc, ← hv.out]; omega)
            clear hsn ey hvl
            go_wp2
            go_roundw
            case rel => exact ⟨k + 1, 10 * v + (y - 48), hlt, rfl, by congr 1; omega, HV⟩
            case measure => simp; omega
          · have hn := fun ty => run_next_end (P := Try.prog) wr a k ty hlt
            obtain rfl : k = a.size := by omega
            have hv2 := hv.out
            rw [lets_all] at hv2
            have hvl := val_lt _ HAD.out
            rw [← hv2] at hvl
            have hv9 : v < 4294967296 := by
              have b : 10 ^ (lets a).length ≤ 10 ^ 9 := Nat.pow_le_pow_right (by decide) (by rw [lets_length]; have := HAL.out; omega)
              omega
            have hul := HUL.out
            have hen := EN.out
            have heq := EQ.out
            have hpn := parse_next (p := p) (q := q) HDG.out q4 (by rcases HP9.out with h | h; exact Or.inl h; right; omega) (by rw [HSL.out]; omega)
            rw [← HA.out, ← hv2] at hpn
            have G := own_grow w u4 (lo (val ((lets s).take p))) 1000000000 v (wr.iter a a.size) (lo_val_len _ (digs_take HDG.out p) (by rw [List.length_take, HSL.out]; omega)) (by decide) (by decide) hv9 (rt_lo _) (HO.out.grown (keeps_iter (Keeps.refl _) _ _)) (keeps_iter HK.out _ _)
            rw [nv_lo, hpn, show ((1000000000 : Nat) : Int) = 1000000000 from rfl] at G
            have HPQ := Lib.hid (show p + q ≤ s.size by omega)
            have H9 := Lib.hid (show (u.size - q) % 9 = 0 by omega)
            have HLT := Lib.hid (show u.size - q < u.size by omega)
            clear hv hv2 hvl hul hen heq hpn
            go_wp2_with (go_at_call 59; (with_reducible refine (G).mono ?_); rintro e w3 ⟨v3, rfl, ho3, hk3⟩)
            go_roundw
            case rel => exact ⟨_, rfl, p + q, HPQ.out, HU2.out, Or.inr (by rw [HU2L.out]; exact H9.out), ho3, hk3⟩
            case measure => show (u.extract q u.size).size < u.size; rw [HU2L.out]; exact HLT.out
end Go.Proofs.Ytachhphneamfhaa
/- All contracts of package nat. -/
namespace Go.Proofs.Ytachhphneamfhaa
end Go.Proofs.Ytachhphneamfhaa
/- Package frac: isOne, Whole and nought, by their contracts. -/
namespace Go.Proofs.Ytachhphneamfhaa
open Go.RowKit Go.NatMath Go.FracMath

theorem Holds32.sl {w : World} {v : Value} {xs : List Nat} (h : Holds32 w v xs) : ∃ a n c, v = .slice a n c := by
  obtain ⟨_, a, n, c, e, _⟩ := h
  exact ⟨a, n, c, e⟩
theorem lo_one1 : lo 1 = [1] := by rw [lo_pos (by decide), show 1 / 4294967296 = 0 from rfl, lo_zero]
theorem Gives.keeps {w : World} {xs : List Nat} {e : Ending} {w' : World} (h : Gives w xs e w') : ∃ v, e = .returned v ∧ Holds32 w' v xs ∧ Keeps w w' := by
  obtain ⟨v, h1, h2, h3, _⟩ := h
  exact ⟨v, h1, h2, h3⟩
/-- Two slices are laid into a block of the call's own. -/
theorem laid_F {w W : World} {b : Nat} {a a' : Option Addr} {n n' c c' : Nat} {T : TypeId} {u v : Value} {xs ys : List Nat} (hb : Blk w b #[.slice a n c, .slice a' n' c'] T) (h1 : Holds32 w u xs) (h2 : Holds32 w v ys) (hk : Keeps W w) (hl : W.heap.size ≤ b) :
    Blk ((w.setCell ⟨b, 0, none⟩ u).setCell ⟨b, 1, none⟩ v) b #[u, v] T ∧ HoldsF ((w.setCell ⟨b, 0, none⟩ u).setCell ⟨b, 1, none⟩ v) (.agg #[u, v]) xs ys ∧ Keeps W ((w.setCell ⟨b, 0, none⟩ u).setCell ⟨b, 1, none⟩ v) :=
  ⟨(hb.set0 _).set1 _, ⟨u, v, rfl, (h1.put hb (i := 0) rfl _).put (hb.set0 _) (i := 1) rfl _, (h2.put hb (i := 0) rfl _).put (hb.set0 _) (i := 1) rfl _⟩, Below.setCell (Below.setCell hk (p := ⟨b, 0, none⟩) hl _) (p := ⟨b, 1, none⟩) hl _⟩
theorem R_fr {n d : Nat} {w : World} {v : Value} (hd : 0 < d) (hg : Nat.gcd n d = 1) (h : HoldsF w v (lo n) (lo d)) : HoldsR w v (fr n d) := by
  refine ⟨fr_nonneg _ _, ?_⟩
  rw [fr_up hd, fr_den hd, hg, Nat.div_one, Nat.div_one]
  exact h

set_option maxHeartbeats 400000 in
theorem own_isOne (v : Value) (xs : List Nat) (w : World) (h : Holds32 w v xs) :
    Calls Try.prog 34 #[v] w (fun e w' => e = .returned (.bool (decide (xs = [1]))) ∧ Keeps w w') := by
  obtain ⟨h1, ao, len, cap, rfl, h3, h4, h5, h6⟩ := h
  by_cases hl : len = 1
  · subst hl
    obtain ⟨x, rfl⟩ : ∃ x, xs = [x] := by
      cases xs with
      | nil => simp at h3
      | cons x t => exact ⟨x, by cases t with
        | nil => rfl
        | cons y t => simp at h3⟩
    rcases h6 with h6 | ⟨b, off, rfl, h7, h8⟩
    · omega
    have c := h8 0 (by omega)
    rw [show [x].getD 0 0 = x from rfl, Nat.add_zero] at c
    clear h1 h3 h4 h5 h8
    by_cases hx : x = 1
    · subst hx
      go_enter Try.func34, Try.ntmps34
      go_wp2_with fail
      go_ret
      exact ⟨rfl, Keeps.refl _⟩
    · have t1 : ((x : Int) == 1) = false := by simp; omega
      have E : decide ([x] = [1]) = false := decide_eq_false (fun e => hx (by injection e))
      rw [E]
      clear E hx
      go_enter Try.func34, Try.ntmps34
      go_wp2_with fail
      go_ret
      exact ⟨rfl, Keeps.refl _⟩
  · have t1 : ((len : Int) == 1) = false := by simp; omega
    have E : decide (xs = [1]) = false := decide_eq_false (fun e => hl (by rw [← h3, e]; rfl))
    rw [E]
    clear E h1 h3 h4 h5 h6 hl
    go_enter Try.func34, Try.ntmps34
    go_wp2_with fail
    go_ret
    exact ⟨rfl, Keeps.refl _⟩

set_option maxHeartbeats 400000 in
theorem frac_whole (v : Value) (xs : List Nat) (w : World) (hl : xs.length ≤ 1000) (h : Holds32 w v xs) :
    Calls Try.prog 24 #[v] w (GivesR w (fr (tv xs) 1)) := by
  have A := fun W k => nat_add v (.slice none 0 0) xs [] hl (by simp) W (h.keeps k) (Holds32.nil W)
  have O : ∀ W, Calls Try.prog 26 #[.int .u64 1] W (Gives W (lo 1)) := fun W => nat_of 1 (by decide) W
  rw [show tv [] = 0 from rfl, Nat.add_zero] at A
  have A := Lib.hid A
  have O := Lib.hid O
  clear h
  go_enter Try.func24, Try.ntmps24
  go_upto_region 1 with fail
  have zb := Blk.new w #[.slice none 0 0, .slice none 0 0] 24
  have hk := (Keeps.refl w).alloc (.cells #[.slice none 0 0, .slice none 0 0] 24)
  obtain ⟨z, ez⟩ : ∃ z, z = w.heap.size := ⟨_, rfl⟩
  rw [← ez] at zb ⊢
  have ZL := Lib.hid (show w.heap.size ≤ z by omega)
  clear ez
  generalize w.alloc (.cells #[.slice none 0 0, .slice none 0 0] 24) = w1 at zb hk ⊢
  go_wp2_with (first
    | (go_at_call 25; (with_reducible refine (A.out _ hk).mono ?_); rintro e w2 ⟨v1, rfl, hv1, hk1, _⟩; obtain ⟨a1, n1, c1, rfl⟩ := hv1.sl)
    | (go_at_call 26; (with_reducible refine (O.out _).mono ?_); rintro e w3 ⟨v2, rfl, hv2, hk2, _⟩; obtain ⟨a2, n2, c2, rfl⟩ := hv2.sl; have zc := (zb.keeps hk1).keeps hk2; obtain ⟨f0, f1, g0, g1⟩ := zc.two))
  obtain ⟨zd, hd, hK⟩ := laid_F zc (hv1.keeps hk2) hv2 (show Keeps w w3 by (focus ((repeat (first | with_reducible exact Keeps.refl _ | with_reducible assumption | with_reducible refine Keeps.alloc ?_ _ | with_reducible refine Keeps.drew ?_ | with_reducible refine Keeps.drewN ?_ _ | with_reducible refine Keeps.trans ?_ (by with_reducible assumption))); done))) ZL.out
  obtain ⟨d0, d1⟩ := zd.two
  refine bodyPost_ret (v := .agg #[.slice a1 n1 c1, .slice a2 n2 c2]) (by simp [results, Try.results24, go_sem, d0, d1]) rfl ⟨_, rfl, R_fr (by decide) (Nat.gcd_one_right _) hd, hK⟩
end Go.Proofs.Ytachhphneamfhaa
/- Package frac: nought, Right and counted, by their contracts. -/
namespace Go.Proofs.Ytachhphneamfhaa
open Go.RowKit Go.NatMath Go.FracMath

theorem tv_right {xs : List Nat} (h : rt xs = true) : tv xs = nv xs := by simp [tv, h]
theorem nil_right {ys : List Nat} (hy : ∀ y ∈ ys, y < 4294967296) (h : rt ys = true) (h0 : nv ys = 0) : ys = [] := by
  have e := lo_nv hy h
  rw [h0, lo_zero] at e
  exact e.symm
theorem lo_eq_one {n : Nat} : decide (lo n = [1]) = decide (n = 1) := by
  by_cases h : n = 1
  · subst h; rw [lo_one1]; rfl
  · rw [decide_eq_false h, decide_eq_false]
    intro e
    have := nv_lo n
    rw [e, ← lo_one1, nv_lo] at this
    exact h this.symm

set_option maxHeartbeats 400000 in
theorem own_nought (w : World) : Calls Try.prog 35 #[] w (GivesR w 0) := by
  have C := fun W => frac_whole (.slice none 0 0) [] W (by simp) (Holds32.nil W)
  rw [show fr (tv []) 1 = 0 from rfl] at C
  have C := Lib.hid C
  go_enter Try.func35, Try.ntmps35
  go_upto_region 1 with fail
  have zb := Blk.new w #[.slice none 0 0, .slice none 0 0] 24
  have hk := (Keeps.refl w).alloc (.cells #[.slice none 0 0, .slice none 0 0] 24)
  obtain ⟨z, ez⟩ : ∃ z, z = w.heap.size := ⟨_, rfl⟩
  rw [← ez] at zb ⊢
  have ZL := Lib.hid (show w.heap.size ≤ z by omega)
  clear ez
  generalize w.alloc (.cells #[.slice none 0 0, .slice none 0 0] 24) = w1 at zb hk ⊢
  go_wp2_with (first
    | (go_at_call 24; (with_reducible refine (C.out _).mono ?_); rintro e w2 ⟨v1, rfl, hv1, hk1⟩; obtain ⟨a1, n1, c1, a2, n2, c2, rfl⟩ := hv1.slices; have zc := zb.keeps hk1; obtain ⟨f0, f1, g0, g1⟩ := zc.two))
  obtain ⟨h0, _, _, e0, h1, h2⟩ := hv1
  simp only [Value.agg.injEq, Array.mk.injEq, List.cons.injEq, and_true] at e0
  obtain ⟨rfl, rfl⟩ := e0
  obtain ⟨zd, hd, hK⟩ := laid_F zc h1 h2 (show Keeps w w2 by (focus ((repeat (first | with_reducible exact Keeps.refl _ | with_reducible assumption | with_reducible refine Keeps.alloc ?_ _ | with_reducible refine Keeps.drew ?_ | with_reducible refine Keeps.drewN ?_ _ | with_reducible refine Keeps.trans ?_ (by with_reducible assumption))); done))) ZL.out
  obtain ⟨d0, d1⟩ := zd.two
  refine bodyPost_ret (v := .agg #[.slice a1 n1 c1, .slice a2 n2 c2]) (by simp [results, Try.results35, go_sem, d0, d1]) rfl ⟨_, rfl, ⟨h0, hd⟩, hK⟩

set_option maxHeartbeats 1000000 in
theorem fo_right (va vb : Value) (xs ys : List Nat) (w : World) (hx : xs.length ≤ 1000) (hy : ys.length ≤ 1000) (ha : Holds32 w va xs) (hb : Holds32 w vb ys) :
    Calls Try.prog 17 #[.agg #[va, vb]] w (fun e w' => e = .returned (.bool (rf xs ys)) ∧ Keeps w w') := by
  have RA := fun W k => nat_right va xs hx W (ha.keeps k)
  have RB := fun W k => nat_right vb ys hy W (hb.keeps k)
  have G := fun W k => nat_gcd va vb xs ys hx hy W (ha.keeps k) (hb.keeps k)
  obtain ⟨ao, n, c, rfl⟩ := ha.sl
  obtain ⟨bo, m, d, rfl⟩ := hb.sl
  have hm : ys.length = m := by
    obtain ⟨_, _, _, _, e, h, _⟩ := hb
    injection e with _ e _
    rw [e]; exact h
  have xlt := ha.1
  have ylt := hb.1
  have RA := Lib.hid RA
  generalize hR : rf xs ys = R
  have HR := Lib.hid hR
  clear hR ha hb
  go_enter Try.func17, Try.ntmps17
  go_upto_region 1 with fail
  have zb := Blk.new w #[.slice ao n c, .slice bo m d] 24
  have hk := (Keeps.refl w).alloc (.cells #[.slice ao n c, .slice bo m d] 24)
  obtain ⟨z, ez⟩ : ∃ z, z = w.heap.size := ⟨_, rfl⟩
  rw [← ez] at zb ⊢
  clear ez
  generalize w.alloc (.cells #[.slice ao n c, .slice bo m d] 24) = w1 at zb hk ⊢
  obtain ⟨x0, y0, -, -⟩ := zb.two
  have A1 := RA.out w1 hk
  have ZB := Lib.hid zb
  clear zb
  cases h1 : rt xs
  · rw [h1] at A1
    have E := Lib.hid (show R = false by rw [← HR.out, rf, h1]; rfl)
    clear h1 RB G hm xlt ylt
    go_wp2_with (go_at_call 45; (with_reducible refine A1.mono ?_); rintro e w2 ⟨rfl, hk1⟩)
    go_ret
    exact ⟨by rw [E.out]; rfl, by (focus ((repeat (first | with_reducible exact Keeps.refl _ | with_reducible assumption | with_reducible refine Keeps.alloc ?_ _ | with_reducible refine Keeps.drew ?_ | with_reducible refine Keeps.drewN ?_ _ | with_reducible refine Keeps.trans ?_ (by with_reducible assumption))); done))⟩
  · rw [h1] at A1
    cases h2 : rt ys
    · rw [h2] at RB
      have E := Lib.hid (show R = false by rw [← HR.out, rf, h1, h2]; rfl)
      have RB := Lib.hid RB
      clear h1 h2 G hm xlt ylt
      go_wp2_with (first
        | (go_at_call 45; (with_reducible refine A1.mono ?_); rintro e w2 ⟨rfl, hk1⟩; obtain ⟨x2, y2, -, -⟩ := (ZB.out.keeps hk1).two)
        | (go_at_call 45; (with_reducible refine (RB.out _ (by (focus ((repeat (first | with_reducible exact Keeps.refl _ | with_reducible assumption | with_reducible refine Keeps.alloc ?_ _ | with_reducible refine Keeps.drew ?_ | with_reducible refine Keeps.drewN ?_ _ | with_reducible refine Keeps.trans ?_ (by with_reducible assumption))); done)))).mono ?_); rintro e w3 ⟨rfl, hk2⟩))
      go_ret
      exact ⟨by rw [E.out]; rfl, by (focus ((repeat (first | with_reducible exact Keeps.refl _ | with_reducible assumption | with_reducible refine Keeps.alloc ?_ _ | with_reducible refine Keeps.drew ?_ | with_reducible refine Keeps.drewN ?_ _ | with_reducible refine Keeps.trans ?_ (by with_reducible assumption))); done))⟩
    · rw [h2] at RB
      rw [tv_right h1, tv_right h2] at G
      have RB := Lib.hid RB
      by_cases h0 : nv ys = 0
      · have e0 := nil_right ylt h2 h0
        subst e0
        have hm0 : m = 0 := by rw [← hm]; rfl
        subst hm0
        have E := Lib.hid (show R = false by rw [← HR.out, rf, h1, h2]; rfl)
        clear h1 h2 G hm xlt ylt h0
        go_wp2_with (first
          | (go_at_call 45; (with_reducible refine A1.mono ?_); rintro e w2 ⟨rfl, hk1⟩; obtain ⟨x2, y2, -, -⟩ := (ZB.out.keeps hk1).two)
          | (go_at_call 45; (with_reducible refine (RB.out _ (by (focus ((repeat (first | with_reducible exact Keeps.refl _ | with_reducible assumption | with_reducible refine Keeps.alloc ?_ _ | with_reducible refine Keeps.drew ?_ | with_reducible refine Keeps.drewN ?_ _ | with_reducible refine Keeps.trans ?_ (by with_reducible assumption))); done)))).mono ?_); rintro e w3 ⟨rfl, hk2⟩; obtain ⟨x3, y3, -, -⟩ := ((ZB.out.keeps hk1).keeps hk2).two))
        go_ret
        exact ⟨by rw [E.out]; rfl, by (focus ((repeat (first | with_reducible exact Keeps.refl _ | with_reducible assumption | with_reducible refine Keeps.alloc ?_ _ | with_reducible refine Keeps.drew ?_ | with_reducible refine Keeps.drewN ?_ _ | with_reducible refine Keeps.trans ?_ (by with_reducible assumption))); done))⟩
      · have hm0 : ((m : Int) == 0) = false := by
          have : ys ≠ [] := fun e => h0 (by rw [e]; rfl)
          have : ys.length ≠ 0 := fun e => this (List.eq_nil_of_length_eq_zero e)
          simp; omega
        obtain ⟨g, eg⟩ : ∃ g, g = Nat.gcd (nv xs) (nv ys) := ⟨_, rfl⟩
        have E := Lib.hid (show R = decide (g = 1) by
          rw [← HR.out, rf, h1, h2, decide_eq_true (show 0 < nv ys by omega)]
          simp only [Bool.true_and]
          exact decide_eq_decide.2 (by rw [eg]))
        rw [← eg] at G
        clear eg
        have G := Lib.hid G
        have O := Lib.hid (fun v W (h : Holds32 W v (lo g)) => own_isOne v (lo g) W h)
        clear h1 h2 hm xlt ylt h0
        go_wp2_with (first
          | (go_at_call 45; (with_reducible refine A1.mono ?_); rintro e w2 ⟨rfl, hk1⟩; obtain ⟨x2, y2, -, -⟩ := (ZB.out.keeps hk1).two)
          | (go_at_call 45; (with_reducible refine (RB.out _ (by (focus ((repeat (first | with_reducible exact Keeps.refl _ | with_reducible assumption | with_reducible refine Keeps.alloc ?_ _ | with_reducible refine Keeps.drew ?_ | with_reducible refine Keeps.drewN ?_ _ | with_reducible refine Keeps.trans ?_ (by with_reducible assumption))); done)))).mono ?_); rintro e w3 ⟨rfl, hk2⟩; obtain ⟨x3, y3, -, -⟩ := ((ZB.out.keeps hk1).keeps hk2).two)
          | (go_at_call 46; (with_reducible refine (G.out _ (by (focus ((repeat (first | with_reducible exact Keeps.refl _ | with_reducible assumption | with_reducible refine Keeps.alloc ?_ _ | with_reducible refine Keeps.drew ?_ | with_reducible refine Keeps.drewN ?_ _ | with_reducible refine Keeps.trans ?_ (by with_reducible assumption))); done)))).mono ?_); rintro e w4 ⟨v, rfl, hv, hk3, _⟩)
          | (go_at_call 34; (with_reducible refine (O.out _ _ hv).mono ?_); rintro e w5 ⟨rfl, hk4⟩))
        go_ret
        exact ⟨by rw [E.out, ← lo_eq_one]; rfl, by (focus ((repeat (first | with_reducible exact Keeps.refl _ | with_reducible assumption | with_reducible refine Keeps.alloc ?_ _ | with_reducible refine Keeps.drew ?_ | with_reducible refine Keeps.drewN ?_ _ | with_reducible refine Keeps.trans ?_ (by with_reducible assumption))); done))⟩

set_option maxHeartbeats 1000000 in
theorem fo_counted (v : Value) (w : World) (k : Nat) (q : Rat) (hk1 : 1 ≤ k) (hk2 : k ≤ 1000) (h : HoldsT w v k q) :
    Calls Try.prog 40 #[v] w (GivesS w k q) := by
  obtain ⟨xs, ys, ⟨va, vb, rfl, ha, hb⟩, hx, hy, rfl⟩ := h
  have C := fun W k => fo_right va vb xs ys W (by omega) (by omega) (ha.keeps k) (hb.keeps k)
  have N := fun W => own_nought W
  have HS := fun W (kk : Keeps w W) (r : rf xs ys = true) => HoldsS.of (k := k) (show HoldsF W (.agg #[va, vb]) xs ys from ⟨va, vb, rfl, ha.keeps kk, hb.keeps kk⟩) hx hy hk1 r
  obtain ⟨ao, n, c, rfl⟩ := ha.sl
  obtain ⟨bo, m, d, rfl⟩ := hb.sl
  have N := Lib.hid N
  have HS := Lib.hid HS
  have K1 := Lib.hid hk1
  have TF := Lib.hid (show rf xs ys = false → tf xs ys = 0 from fun e => by rw [tf, e]; rfl)
  generalize tf xs ys = q at *
  generalize rf xs ys = r at *
  have C := Lib.hid C
  have PA := Lib.hid (show ∀ W, Keeps w W → Holds32 W (.slice ao n c) xs from fun W k => ha.keeps k)
  have PB := Lib.hid (show ∀ W, Keeps w W → Holds32 W (.slice bo m d) ys from fun W k => hb.keeps k)
  clear ha hb hk1
  go_enter Try.func40, Try.ntmps40
  go_upto_region 1 with fail
  have zb := Blk.new w #[.slice ao n c, .slice bo m d] 24
  have ze := Blk.new (w.alloc (.cells #[.slice ao n c, .slice bo m d] 24)) #[.slice none 0 0, .slice none 0 0] 24
  have zb := zb.keeps ((Keeps.refl _).alloc (.cells #[.slice none 0 0, .slice none 0 0] 24))
  have hk := ((Keeps.refl w).alloc (.cells #[.slice ao n c, .slice bo m d] 24)).alloc (.cells #[.slice none 0 0, .slice none 0 0] 24)
  rw [World.size_alloc] at ze
  obtain ⟨z, ez⟩ : ∃ z, z = w.heap.size := ⟨_, rfl⟩
  rw [← ez] at zb ze ⊢
  have ZL := Lib.hid (show w.heap.size ≤ z + 1 by omega)
  clear ez
  generalize (w.alloc (.cells #[.slice ao n c, .slice bo m d] 24)).alloc (.cells #[.slice none 0 0, .slice none 0 0] 24) = w1 at zb ze hk ⊢
  obtain ⟨x0, y0, -, -⟩ := zb.two
  have C1 := C.out w1 hk
  have ZB := Lib.hid zb
  have ZE := Lib.hid ze
  have HK := Lib.hid hk
  clear zb ze
  cases hr : r
  · subst hr
    go_wp2_with (first
      | (go_at_call 17; (with_reducible refine C1.mono ?_); rintro e w2 ⟨rfl, hk1⟩)
      | (go_at_call 35; (with_reducible refine (N.out _).mono ?_); rintro e w3 ⟨v3, rfl, hv, hk2⟩; obtain ⟨a1, n1, c1, a2, n2, c2, rfl⟩ := hv.slices; have ZE2 := (ZE.out.keeps hk1).keeps hk2; obtain ⟨f0, f1, g0, g1⟩ := ZE2.two))
    obtain ⟨h0, _, _, e0, h1, h2⟩ := hv
    simp only [Value.agg.injEq, Array.mk.injEq, List.cons.injEq, and_true] at e0
    obtain ⟨rfl, rfl⟩ := e0
    obtain ⟨zd, hd, hK⟩ := laid_F ZE2 h1 h2 (show Keeps w w3 by (focus ((repeat (first | with_reducible exact Keeps.refl _ | with_reducible assumption | with_reducible refine Keeps.alloc ?_ _ | with_reducible refine Keeps.drew ?_ | with_reducible refine Keeps.drewN ?_ _ | with_reducible refine Keeps.trans ?_ (by with_reducible assumption))); done))) ZL.out
    obtain ⟨d0, d1⟩ := zd.two
    refine bodyPost_ret (v := .agg #[.slice a1 n1 c1, .slice a2 n2 c2]) (by simp [results, Try.results40, go_sem, d0, d1]) rfl ⟨_, rfl, ?_, hK⟩
    rw [TF.out (by trivial)]
    exact ⟨Sz.zero.up K1.out, h0, hd⟩
  · subst hr
    go_wp2_with (first
      | (go_at_call 17; (with_reducible refine C1.mono ?_); rintro e w2 ⟨rfl, hk1⟩; obtain ⟨x2, y2, -, -⟩ := (ZB.out.keeps hk1).two; have ZE2 := ZE.out.keeps hk1; obtain ⟨f0, f1, g0, g1⟩ := ZE2.two))
    obtain ⟨zd, hd, hK⟩ := laid_F ZE2 (PA.out w2 (by (focus ((repeat (first | with_reducible exact Keeps.refl _ | with_reducible assumption | with_reducible refine Keeps.alloc ?_ _ | with_reducible refine Keeps.drew ?_ | with_reducible refine Keeps.drewN ?_ _ | with_reducible refine Keeps.trans ?_ (by with_reducible assumption))); done)))) (PB.out w2 (by (focus ((repeat (first | with_reducible exact Keeps.refl _ | with_reducible assumption | with_reducible refine Keeps.alloc ?_ _ | with_reducible refine Keeps.drew ?_ | with_reducible refine Keeps.drewN ?_ _ | with_reducible refine Keeps.trans ?_ (by with_reducible assumption))); done)))) (show Keeps w w2 by (focus ((repeat (first | with_reducible exact Keeps.refl _ | with_reducible assumption | with_reducible refine Keeps.alloc ?_ _ | with_reducible refine Keeps.drew ?_ | with_reducible refine Keeps.drewN ?_ _ | with_reducible refine Keeps.trans ?_ (by with_reducible assumption))); done))) ZL.out
    obtain ⟨d0, d1⟩ := zd.two
    refine bodyPost_ret (v := .agg #[.slice ao n c, .slice bo m d]) (by simp [results, Try.results40, go_sem, d0, d1]) rfl ⟨_, rfl, HS.out _ hK (by trivial), hK⟩
end Go.Proofs.Ytachhphneamfhaa
/- Package frac: reducer and what it hands back, over, lowest and Of, by their contracts. -/
namespace Go.Proofs.Ytachhphneamfhaa
open Go.RowKit Go.NatMath Go.FracMath

/-- A block of one cell. -/
def Blk1 (w : World) (b : Nat) (x : Value) : Prop := b < w.heap.size ∧ w.cell? ⟨b, 0, none⟩ = some x
theorem Blk1.keeps {w w' : World} {b : Nat} {x : Value} (h : Blk1 w b x) (k : Keeps w w') : Blk1 w' b x := ⟨Nat.lt_of_lt_of_le h.1 k.size, (k.cell h.1).trans h.2⟩
/-- f divides by g. -/
def Red (w : World) (f : Value) (g : Nat) : Prop := ∃ q vg, f = .func (.func 82) #[] #[.pointer (some ⟨q, 0, none⟩)] ∧ Blk1 w q vg ∧ Holds32 w vg (lo g)
theorem Red.keeps {w w' : World} {f : Value} {g : Nat} (h : Red w f g) (k : Keeps w w') : Red w' f g := by
  obtain ⟨q, vg, e, h1, h2⟩ := h
  exact ⟨q, vg, e, h1.keeps k, h2.keeps k⟩
set_option maxHeartbeats 400000 in
theorem fo_reducer (va vb : Value) (a b : Nat) (w : World) (la : (lo a).length ≤ 1000) (lb : (lo b).length ≤ 1000) (ha : Holds32 w va (lo a)) (hb : Holds32 w vb (lo b)) :
    Calls Try.prog 73 #[va, vb] w (fun e w' => ∃ f, e = .returned f ∧ Red w' f (Nat.gcd a b) ∧ Keeps w w') := by
  have G := nat_gcd va vb _ _ la lb w ha hb
  rw [tv_lo, tv_lo] at G
  generalize Nat.gcd a b = g at *
  have G := Lib.hid G
  clear ha hb
  go_enter Try.func73, Try.ntmps73
  go_upto_region 2 with (first
    | (go_at_call 46; (with_reducible refine G.out.mono ?_); rintro e w2 ⟨v, rfl, hv, hk, _⟩; obtain ⟨a1, n1, c1, rfl⟩ := hv.sl))
  have cc := (MapKept.heap_alloc w2 (.cells #[.slice a1 n1 c1] 22)).1
  have hK := hk.alloc (.cells #[.slice a1 n1 c1] 22)
  have hB : Blk1 (w2.alloc (.cells #[.slice a1 n1 c1] 22)) w2.heap.size (.slice a1 n1 c1) := ⟨by rw [World.size_alloc]; omega, by simp only [World.cell?, cc]; rfl⟩
  have hV := hv.keeps ((Keeps.refl w2).alloc (.cells #[.slice a1 n1 c1] 22))
  clear cc
  generalize w2.alloc (.cells #[.slice a1 n1 c1] 22) = w3 at hK hB hV ⊢
  go_wp2_with fail
  go_ret
  exact ⟨_, rfl, ⟨_, _, rfl, hB, hV⟩, hK⟩

set_option maxHeartbeats 400000 in
theorem fo_reduce (v : Value) (q n g : Nat) (vg : Value) (w : World) (ln : (lo n).length ≤ 1000) (lg : (lo g).length ≤ 1000) (hg : 0 < g) (hn : Holds32 w v (lo n)) (hb : Blk1 w q vg) (hh : Holds32 w vg (lo g)) :
    Calls Try.prog 82 #[v, .pointer (some ⟨q, 0, none⟩)] w (Gives w (lo (n / g))) := by
  have D := nat_divmod v vg _ _ ln lg w hn hh
  rw [tv_lo, tv_lo, if_pos hg, if_pos hg, decide_eq_true hg] at D
  generalize n / g = k at *
  have x0 := hb.2
  have D := Lib.hid D
  clear hn hb hh
  go_enter Try.func82, Try.ntmps82
  go_wp2_with (go_at_call 51; (with_reducible refine D.out.mono ?_); rintro e w1 ⟨v1, v2, rfl, hq, hr, hk1, hf1, hf2⟩)
  go_ret
  exact ⟨v1, rfl, hq, hk1, hf1⟩
theorem fo_reduced {w : World} {f : Value} {g : Nat} (hr : Red w f g) : ∃ q, f = .func (.func 82) #[] #[.pointer (some ⟨q, 0, none⟩)] ∧ ∀ (n : Nat) (v : Value) (W : World), Keeps w W → (lo n).length ≤ 1000 → (lo g).length ≤ 1000 → 0 < g → Holds32 W v (lo n) →
    Calls Try.prog 82 #[v, .pointer (some ⟨q, 0, none⟩)] W (Gives W (lo (n / g))) := by
  obtain ⟨q, vg, rfl, hb, hh⟩ := hr
  exact ⟨q, rfl, fun n v W k ln lg hg hn => fo_reduce v q n g vg W ln lg hg hn (hb.keeps k) (hh.keeps k)⟩

def GivesF (w : World) (xs ys : List Nat) (e : Ending) (w' : World) : Prop := ∃ v, e = .returned v ∧ HoldsF w' v xs ys ∧ Keeps w w'

set_option maxHeartbeats 400000 in
theorem fo_over (vn vd f : Value) (n d g : Nat) (w : World) (ln : (lo n).length ≤ 1000) (ld : (lo d).length ≤ 1000) (lg : (lo g).length ≤ 1000) (hg : 0 < g) (hn : Holds32 w vn (lo n)) (hd : Holds32 w vd (lo d)) (hf : Red w f g) :
    Calls Try.prog 72 #[vn, vd, f] w (GivesF w (lo (n / g)) (lo (d / g))) := by
  obtain ⟨q, rfl, C⟩ := fo_reduced hf
  have C1 := Lib.hid (fun W k => C n vn W k ln lg hg (hn.keeps k))
  have C2 := Lib.hid (fun W k => C d vd W k ld lg hg (hd.keeps k))
  generalize n / g = x at *
  generalize d / g = y at *
  clear hn hd hf C
  go_enter Try.func72, Try.ntmps72
  go_upto_region 1 with fail
  have zb := Blk.new w #[.slice none 0 0, .slice none 0 0] 24
  have hk := (Keeps.refl w).alloc (.cells #[.slice none 0 0, .slice none 0 0] 24)
  obtain ⟨z, ez⟩ : ∃ z, z = w.heap.size := ⟨_, rfl⟩
  rw [← ez] at zb ⊢
  have ZL := Lib.hid (show w.heap.size ≤ z by omega)
  clear ez
  generalize w.alloc (.cells #[.slice none 0 0, .slice none 0 0] 24) = w1 at zb hk ⊢
  have C1 := C1.out w1 hk
  go_wp2_with (first
    | (go_at_call 82; (with_reducible refine C1.mono ?_); rintro e w2 ⟨v1, rfl, hv1, hk1, _⟩; obtain ⟨a1, n1, c1, rfl⟩ := hv1.sl)
    | (go_at_call 82; (with_reducible refine (C2.out _ (by (focus ((repeat (first | with_reducible exact Keeps.refl _ | with_reducible assumption | with_reducible refine Keeps.alloc ?_ _ | with_reducible refine Keeps.drew ?_ | with_reducible refine Keeps.drewN ?_ _ | with_reducible refine Keeps.trans ?_ (by with_reducible assumption))); done)))).mono ?_); rintro e w3 ⟨v2, rfl, hv2, hk2, _⟩; obtain ⟨a2, n2, c2, rfl⟩ := hv2.sl; have zc := (zb.keeps hk1).keeps hk2; obtain ⟨f0, f1, g0, g1⟩ := zc.two))
  obtain ⟨zd, hd, hK⟩ := laid_F zc (hv1.keeps hk2) hv2 (show Keeps w w3 by (focus ((repeat (first | with_reducible exact Keeps.refl _ | with_reducible assumption | with_reducible refine Keeps.alloc ?_ _ | with_reducible refine Keeps.drew ?_ | with_reducible refine Keeps.drewN ?_ _ | with_reducible refine Keeps.trans ?_ (by with_reducible assumption))); done))) ZL.out
  obtain ⟨d0, d1⟩ := zd.two
  refine bodyPost_ret (v := .agg #[.slice a1 n1 c1, .slice a2 n2 c2]) (by simp [results, Try.results72, go_sem, d0, d1]) rfl ⟨_, rfl, hd, hK⟩

theorem fr_over {n d : Nat} {w : World} {v : Value} (hd : 0 < d) (h : HoldsF w v (lo (n / Nat.gcd n d)) (lo (d / Nat.gcd n d))) : HoldsR w v (fr n d) := by
  refine ⟨fr_nonneg _ _, ?_⟩
  rw [fr_up hd, fr_den hd]
  exact h
theorem HoldsR.two {w : World} {v : Value} {q : Rat} (h : HoldsR w v q) : ∃ a n c a' n' c', v = .agg #[.slice a n c, .slice a' n' c'] ∧ 0 ≤ q ∧ Holds32 w (.slice a n c) (lo (FracMath.up q)) ∧ Holds32 w (.slice a' n' c') (lo (dn q)) := by
  obtain ⟨h0, vn, vd, rfl, h1, h2⟩ := h
  obtain ⟨a, n, c, rfl⟩ := h1.sl
  obtain ⟨a', n', c', rfl⟩ := h2.sl
  exact ⟨_, _, _, _, _, _, rfl, h0, h1, h2⟩
theorem HoldsF.two {w : World} {v : Value} {xs ys : List Nat} (h : HoldsF w v xs ys) : ∃ a n c a' n' c', v = .agg #[.slice a n c, .slice a' n' c'] ∧ Holds32 w (.slice a n c) xs ∧ Holds32 w (.slice a' n' c') ys := by
  obtain ⟨vn, vd, rfl, h1, h2⟩ := h
  obtain ⟨a, n, c, rfl⟩ := h1.sl
  obtain ⟨a', n', c', rfl⟩ := h2.sl
  exact ⟨_, _, _, _, _, _, rfl, h1, h2⟩
theorem gcd_len {n d : Nat} (hd : 0 < d) (ld : (lo d).length ≤ 1000) : (lo (Nat.gcd n d)).length ≤ 1000 := Nat.le_trans (lo_len (lo_lt d) (by rw [nv_lo]; exact Nat.le_of_dvd hd (Nat.gcd_dvd_right n d))) ld

set_option maxHeartbeats 400000 in
theorem fo_lowest (vn vd : Value) (n d : Nat) (w : World) (ln : (lo n).length ≤ 1000) (ld : (lo d).length ≤ 1000) (h0 : 0 < d) (hn : Holds32 w vn (lo n)) (hd : Holds32 w vd (lo d)) :
    Calls Try.prog 48 #[vn, vd] w (GivesR w (fr n d)) := by
  have lg := gcd_len (n := n) h0 ld
  have hg : 0 < Nat.gcd n d := Nat.gcd_pos_of_pos_right n h0
  have R := Lib.hid (fun W k => fo_reducer vn vd n d W ln ld (hn.keeps k) (hd.keeps k))
  have O := Lib.hid (fun f W k hf => fo_over vn vd f n d (Nat.gcd n d) W ln ld lg hg (hn.keeps k) (hd.keeps k) hf)
  have F := Lib.hid (fun v W h => fr_over (n := n) (w := W) (v := v) h0 h)
  generalize n / Nat.gcd n d = x at *
  generalize d / Nat.gcd n d = y at *
  generalize fr n d = q at *
  clear hn hd
  go_enter Try.func48, Try.ntmps48
  go_upto_region 1 with fail
  have zb := Blk.new w #[.slice none 0 0, .slice none 0 0] 24
  have hk := (Keeps.refl w).alloc (.cells #[.slice none 0 0, .slice none 0 0] 24)
  obtain ⟨z, ez⟩ : ∃ z, z = w.heap.size := ⟨_, rfl⟩
  rw [← ez] at zb ⊢
  have ZL := Lib.hid (show w.heap.size ≤ z by omega)
  clear ez
  generalize w.alloc (.cells #[.slice none 0 0, .slice none 0 0] 24) = w1 at zb hk ⊢
  go_wp2_with (first
    | (go_at_call 73; (with_reducible refine (R.out _ hk).mono ?_); rintro e w2 ⟨f, rfl, hf, hk1⟩)
    | (go_at_call 72; (with_reducible refine (O.out _ _ (by (focus ((repeat (first | with_reducible exact Keeps.refl _ | with_reducible assumption | with_reducible refine Keeps.alloc ?_ _ | with_reducible refine Keeps.drew ?_ | with_reducible refine Keeps.drewN ?_ _ | with_reducible refine Keeps.trans ?_ (by with_reducible assumption))); done))) hf).mono ?_); rintro e w3 ⟨v1, rfl, hv1, hk2⟩; obtain ⟨a1, n1, c1, a2, n2, c2, rfl, h1, h2⟩ := hv1.two; have zc := (zb.keeps hk1).keeps hk2; obtain ⟨f0, f1, g0, g1⟩ := zc.two))
  obtain ⟨zd, hd, hK⟩ := laid_F zc h1 h2 (show Keeps w w3 by (focus ((repeat (first | with_reducible exact Keeps.refl _ | with_reducible assumption | with_reducible refine Keeps.alloc ?_ _ | with_reducible refine Keeps.drew ?_ | with_reducible refine Keeps.drewN ?_ _ | with_reducible refine Keeps.trans ?_ (by with_reducible assumption))); done))) ZL.out
  obtain ⟨d0, d1⟩ := zd.two
  refine bodyPost_ret (v := .agg #[.slice a1 n1 c1, .slice a2 n2 c2]) (by simp [results, Try.results48, go_sem, d0, d1]) rfl ⟨_, rfl, F.out _ _ hd, hK⟩

theorem lo_len64 {n : Nat} (h : n < 18446744073709551616) : (lo n).length ≤ 1000 := Nat.le_trans (lo_len_pow 2 n (by omega)) (by decide)
set_option maxHeartbeats 400000 in
theorem frac_of (n d : Nat) (w : World) (hn : n < 18446744073709551616) (hd : d < 18446744073709551616) :
    Calls Try.prog 27 #[.int .u64 (n : Int), .int .u64 (d : Int)] w (GivesRB w (if d = 0 then 0 else fr n d) (decide (d ≠ 0))) := by
  have N := Lib.hid (fun W => own_nought W)
  have O1 := Lib.hid (fun W => nat_of n hn W)
  have O2 := Lib.hid (fun W => nat_of d hd W)
  by_cases h0 : d = 0
  · rw [if_pos h0, decide_eq_false (by simp [h0])]
    have t1 : ((d : Int) == 0) = true := by simp [h0]
    clear h0
    go_enter Try.func27, Try.ntmps27
    go_upto_region 1 with fail
    have zb := Blk.new w #[.slice none 0 0, .slice none 0 0] 24
    have hk := (Keeps.refl w).alloc (.cells #[.slice none 0 0, .slice none 0 0] 24)
    obtain ⟨z, ez⟩ : ∃ z, z = w.heap.size := ⟨_, rfl⟩
    rw [← ez] at zb ⊢
    have ZL := Lib.hid (show w.heap.size ≤ z by omega)
    clear ez
    generalize w.alloc (.cells #[.slice none 0 0, .slice none 0 0] 24) = w1 at zb hk ⊢
    go_wp2_with (first
      | (go_at_call 35; (with_reducible refine (N.out _).mono ?_); rintro e w3 ⟨v1, rfl, hv1, hk1⟩; obtain ⟨a1, n1, c1, a2, n2, c2, rfl, h0, h1, h2⟩ := hv1.two; have zc := zb.keeps hk1; obtain ⟨f0, f1, g0, g1⟩ := zc.two))
    obtain ⟨zd, hd, hK⟩ := laid_F zc h1 h2 (show Keeps w w3 by (focus ((repeat (first | with_reducible exact Keeps.refl _ | with_reducible assumption | with_reducible refine Keeps.alloc ?_ _ | with_reducible refine Keeps.drew ?_ | with_reducible refine Keeps.drewN ?_ _ | with_reducible refine Keeps.trans ?_ (by with_reducible assumption))); done))) ZL.out
    obtain ⟨d0, d1⟩ := zd.two
    refine bodyPost_ret (v := .tuple #[.agg #[.slice a1 n1 c1, .slice a2 n2 c2], .bool false]) (by simp [results, Try.results27, go_sem, d0, d1]) rfl ⟨_, rfl, ⟨h0, hd⟩, hK⟩
  · rw [if_neg h0, decide_eq_true h0]
    have t1 : ((d : Int) == 0) = false := by simp; omega
    have L := Lib.hid (fun v v' W h1 h2 => fo_lowest v v' n d W (lo_len64 hn) (lo_len64 hd) (by omega) h1 h2)
    clear h0
    generalize fr n d = q at *
    go_enter Try.func27, Try.ntmps27
    go_upto_region 1 with fail
    have zb := Blk.new w #[.slice none 0 0, .slice none 0 0] 24
    have hk := (Keeps.refl w).alloc (.cells #[.slice none 0 0, .slice none 0 0] 24)
    obtain ⟨z, ez⟩ : ∃ z, z = w.heap.size := ⟨_, rfl⟩
    rw [← ez] at zb ⊢
    have ZL := Lib.hid (show w.heap.size ≤ z by omega)
    clear ez
    generalize w.alloc (.cells #[.slice none 0 0, .slice none 0 0] 24) = w1 at zb hk ⊢
    go_wp2_with (first
      | (go_at_call 26; (with_reducible refine (O1.out _).mono ?_); rintro e w2 ⟨v1, rfl, hv1, hk1, _⟩)
      | (go_at_call 26; (with_reducible refine (O2.out _).mono ?_); rintro e w3 ⟨v2, rfl, hv2, hk2, _⟩)
      | (go_at_call 48; (with_reducible refine (L.out _ _ _ (hv1.keeps hk2) hv2).mono ?_); rintro e w4 ⟨v3, rfl, hv3, hk3⟩; obtain ⟨a1, n1, c1, a2, n2, c2, rfl, h0, h1, h2⟩ := hv3.two; have zc := ((zb.keeps hk1).keeps hk2).keeps hk3; obtain ⟨f0, f1, g0, g1⟩ := zc.two))
    obtain ⟨zd, hd, hK⟩ := laid_F zc h1 h2 (show Keeps w w4 by (focus ((repeat (first | with_reducible exact Keeps.refl _ | with_reducible assumption | with_reducible refine Keeps.alloc ?_ _ | with_reducible refine Keeps.drew ?_ | with_reducible refine Keeps.drewN ?_ _ | with_reducible refine Keeps.trans ?_ (by with_reducible assumption))); done))) ZL.out
    obtain ⟨d0, d1⟩ := zd.two
    refine bodyPost_ret (v := .tuple #[.agg #[.slice a1 n1 c1, .slice a2 n2 c2], .bool true]) (by simp [results, Try.results27, go_sem, d0, d1]) rfl ⟨_, rfl, ⟨h0, hd⟩, hK⟩
end Go.Proofs.Ytachhphneamfhaa
/- Package frac: likened, by its contract. -/
namespace Go.Proofs.Ytachhphneamfhaa
open Go.RowKit Go.NatMath Go.FracMath

theorem Blk.other {w : World} {b b' i : Nat} {cs : Array Value} {T : TypeId} {u : Value} (h : Blk w b cs T) (hn : b ≠ b') : Blk (w.setCell ⟨b', i, none⟩ u) b cs T := (Below.heap_setCell w ⟨b', i, none⟩ u b hn).trans h
theorem Blk.other2 {w : World} {b b' : Nat} {cs : Array Value} {T : TypeId} {u u' : Value} (h : Blk w b cs T) (hn : b ≠ b') : Blk ((w.setCell ⟨b', 0, none⟩ u).setCell ⟨b', 1, none⟩ u') b cs T := (h.other hn).other hn
theorem Blk.both {w : World} {b : Nat} {x y : Value} {T : TypeId} {u u' : Value} (h : Blk w b #[x, y] T) : Blk ((w.setCell ⟨b, 0, none⟩ u).setCell ⟨b, 1, none⟩ u') b #[u, u'] T := (h.set0 u).set1 u'
theorem HoldsS.put2 {w : World} {b : Nat} {T : TypeId} {a a' : Option Addr} {n c n' c' : Nat} {v : Value} {k : Nat} {q : Rat} (h : HoldsS w v k q) (hb : Blk w b #[.slice a n c, .slice a' n' c'] T) (u u' : Value) : HoldsS ((w.setCell ⟨b, 0, none⟩ u).setCell ⟨b, 1, none⟩ u') v k q :=
  (h.put hb (i := 0) rfl u).put (hb.set0 u) (i := 1) rfl u'
theorem put2_keeps {W w : World} (h : Keeps W w) {q : Nat} (hq : W.heap.size ≤ q) (u u' : Value) : Keeps W ((w.setCell ⟨q, 0, none⟩ u).setCell ⟨q, 1, none⟩ u') := put_keeps (put_keeps h hq u) hq u'

theorem HoldsS.parts {w : World} {u u' : Value} {k : Nat} {q : Rat} (h : HoldsS w (.agg #[u, u']) k q) : Holds32 w u (lo (FracMath.up q)) ∧ Holds32 w u' (lo (dn q)) := by
  obtain ⟨_, _, vn, vd, e, h1, h2⟩ := h
  simp only [Value.agg.injEq, Array.mk.injEq, List.cons.injEq, and_true] at e
  obtain ⟨rfl, rfl⟩ := e
  exact ⟨h1, h2⟩
theorem HoldsS.lens {w : World} {u : Value} {k : Nat} {q : Rat} (h : HoldsS w u k q) : (lo (FracMath.up q)).length ≤ k ∧ (lo (dn q)).length ≤ k := ⟨len_of_lt k h.1.2.1, len_of_lt k h.1.2.2⟩
theorem mul_lo {x y : Nat} (v v' : Value) (W : World) (l1 : (lo x).length ≤ 1000) (l2 : (lo y).length ≤ 1000) (h1 : Holds32 W v (lo x)) (h2 : Holds32 W v' (lo y)) : Calls Try.prog 30 #[v, v'] W (Gives W (lo (x * y))) := by
  have e := nat_mul v v' _ _ l1 l2 W h1 h2
  rw [tv_lo, tv_lo] at e
  exact e
def Lik (w : World) (x y z : Nat) (e : Ending) (w' : World) : Prop := ∃ v1 v2 v3, e = .returned (.tuple #[v1, v2, v3]) ∧ Holds32 w' v1 (lo x) ∧ Holds32 w' v2 (lo y) ∧ Holds32 w' v3 (lo z) ∧ Keeps w w'

set_option maxHeartbeats 4000000 in
theorem fo_likened (v v' : Value) (j k : Nat) (a b : Rat) (w : World) (h1 : HoldsT w v j a) (h2 : HoldsT w v' k b) (hj : 1 ≤ j ∧ j ≤ 400) (hk : 1 ≤ k ∧ k ≤ 400) :
    Calls Try.prog 47 #[v, v'] w (Lik w (FracMath.up a * dn b) (FracMath.up b * dn a) (dn a * dn b)) := by
  have CA := Lib.hid (fun W K => fo_counted v W j a hj.1 (by omega) (h1.keeps K))
  have CB := Lib.hid (fun W K => fo_counted v' W k b hk.1 (by omega) (h2.keeps K))
  obtain ⟨xs, ys, ⟨va0, va1, rfl, p1, p2⟩, _⟩ := h1
  obtain ⟨zs, ts, ⟨vb0, vb1, rfl, p3, p4⟩, _⟩ := h2
  obtain ⟨ao, n, c, rfl⟩ := p1.sl
  obtain ⟨ao', n', c', rfl⟩ := p2.sl
  obtain ⟨bo, m, d, rfl⟩ := p3.sl
  obtain ⟨bo', m', d', rfl⟩ := p4.sl
  clear p1 p2 p3 p4
  go_enter Try.func47, Try.ntmps47
  go_upto_region 1 with fail
  have zb := (Blk.new w #[.slice ao n c, .slice ao' n' c'] 24).keeps ((Keeps.refl _).alloc (.cells #[.slice bo m d, .slice bo' m' d'] 24))
  have ze := Blk.new (w.alloc (.cells #[.slice ao n c, .slice ao' n' c'] 24)) #[.slice bo m d, .slice bo' m' d'] 24
  have hk := ((Keeps.refl w).alloc (.cells #[.slice ao n c, .slice ao' n' c'] 24)).alloc (.cells #[.slice bo m d, .slice bo' m' d'] 24)
  rw [World.size_alloc] at ze
  obtain ⟨z, ez⟩ : ∃ z, z = w.heap.size := ⟨_, rfl⟩
  rw [← ez] at zb ze ⊢
  have ZL := Lib.hid (show w.heap.size ≤ z by omega)
  have ZM := Lib.hid (show w.heap.size ≤ z + 1 by omega)
  have ZN := Lib.hid (show z ≠ z + 1 by omega)
  clear ez
  generalize (w.alloc (.cells #[.slice ao n c, .slice ao' n' c'] 24)).alloc (.cells #[.slice bo m d, .slice bo' m' d'] 24) = w1 at zb ze hk ⊢
  obtain ⟨x0, y0, gx0, gy0⟩ := zb.two
  obtain ⟨x1, y1, gx1, gy1⟩ := ze.two
  have ZB := Lib.hid zb
  have ZE := Lib.hid ze
  have HK := Lib.hid hk
  clear zb ze hk
  go_cut [] (fun wx => ∃ u0 u1 t0 t1, Blk wx z #[u0, u1] 24 ∧ Blk wx (z + 1) #[t0, t1] 24 ∧ HoldsS wx (.agg #[u0, u1]) j a ∧ HoldsS wx (.agg #[t0, t1]) k b ∧ Keeps w wx)
  case first =>
    go_region_with (first
      | (go_at_call 40; (with_reducible refine (CA.out _ (HK.out.trans (by (focus ((repeat (first | with_reducible exact Keeps.refl _ | with_reducible assumption | with_reducible refine Keeps.alloc ?_ _ | with_reducible refine Keeps.drew ?_ | with_reducible refine Keeps.drewN ?_ _ | with_reducible refine Keeps.trans ?_ (by with_reducible assumption))); done))))).mono ?_); rintro e wa ⟨v1, rfl, hv1, hk1⟩; obtain ⟨a1, n1, c1, a2, n2, c2, rfl⟩ := hv1.slices; have zc := ZB.out.keeps (show Keeps w1 wa by (focus ((repeat (first | with_reducible exact Keeps.refl _ | with_reducible assumption | with_reducible refine Keeps.alloc ?_ _ | with_reducible refine Keeps.drew ?_ | with_reducible refine Keeps.drewN ?_ _ | with_reducible refine Keeps.trans ?_ (by with_reducible assumption))); done))); have zd := ZE.out.keeps (show Keeps w1 wa by (focus ((repeat (first | with_reducible exact Keeps.refl _ | with_reducible assumption | with_reducible refine Keeps.alloc ?_ _ | with_reducible refine Keeps.drew ?_ | with_reducible refine Keeps.drewN ?_ _ | with_reducible refine Keeps.trans ?_ (by with_reducible assumption))); done))); obtain ⟨x2, y2, gx2, gy2⟩ := zc.two; obtain ⟨x3, y3, gx3, gy3⟩ := zd.two)
      | (go_at_call 40; (with_reducible refine (CB.out _ (HK.out.trans (by (focus ((repeat (first | with_reducible exact Keeps.refl _ | with_reducible assumption | with_reducible refine Keeps.alloc ?_ _ | with_reducible refine Keeps.drew ?_ | with_reducible refine Keeps.drewN ?_ _ | with_reducible refine Keeps.trans ?_ (by with_reducible assumption))); done))))).mono ?_); rintro e wb ⟨v2, rfl, hv2, hk2⟩; obtain ⟨a3, n3, c3, a4, n4, c4, rfl⟩ := hv2.slices; have zc := ZB.out.keeps (show Keeps w1 wb by (focus ((repeat (first | with_reducible exact Keeps.refl _ | with_reducible assumption | with_reducible refine Keeps.alloc ?_ _ | with_reducible refine Keeps.drew ?_ | with_reducible refine Keeps.drewN ?_ _ | with_reducible refine Keeps.trans ?_ (by with_reducible assumption))); done))); have zd := ZE.out.keeps (show Keeps w1 wb by (focus ((repeat (first | with_reducible exact Keeps.refl _ | with_reducible assumption | with_reducible refine Keeps.alloc ?_ _ | with_reducible refine Keeps.drew ?_ | with_reducible refine Keeps.drewN ?_ _ | with_reducible refine Keeps.trans ?_ (by with_reducible assumption))); done))); obtain ⟨x4, y4, gx4, gy4⟩ := zc.two; obtain ⟨x5, y5, gx5, gy5⟩ := zd.two))
    all_goals
      have hv1 := hv1.keeps (show Keeps wa wb by (focus ((repeat (first | with_reducible exact Keeps.refl _ | with_reducible assumption | with_reducible refine Keeps.alloc ?_ _ | with_reducible refine Keeps.drew ?_ | with_reducible refine Keeps.drewN ?_ _ | with_reducible refine Keeps.trans ?_ (by with_reducible assumption))); done)))
      have hkw := HK.out.trans (show Keeps w1 wb by (focus ((repeat (first | with_reducible exact Keeps.refl _ | with_reducible assumption | with_reducible refine Keeps.alloc ?_ _ | with_reducible refine Keeps.drew ?_ | with_reducible refine Keeps.drewN ?_ _ | with_reducible refine Keeps.trans ?_ (by with_reducible assumption))); done)))
      have zf := zd.other2 (u := .slice a1 n1 c1) (u' := .slice a2 n2 c2) (Ne.symm ZN.out)
      have p1 := (hv1.put2 zc (.slice a1 n1 c1) (.slice a2 n2 c2)).put2 zf (.slice a3 n3 c3) (.slice a4 n4 c4)
      have p2 := (hv2.put2 zc (.slice a1 n1 c1) (.slice a2 n2 c2)).put2 zf (.slice a3 n3 c3) (.slice a4 n4 c4)
      have p3 := put2_keeps (put2_keeps hkw ZL.out (.slice a1 n1 c1) (.slice a2 n2 c2)) ZM.out (.slice a3 n3 c3) (.slice a4 n4 c4)
      have p4 := (zc.both (u := .slice a1 n1 c1) (u' := .slice a2 n2 c2)).other2 (u := .slice a3 n3 c3) (u' := .slice a4 n4 c4) ZN.out
      have p5 := zf.both (u := .slice a3 n3 c3) (u' := .slice a4 n4 c4)
      go_wp2_with fail
      go_meet
      exact ⟨_, _, _, _, p4, p5, p1, p2, p3⟩
  case rest =>
    obtain ⟨u0, u1, t0, t1, zb, ze, hu, ht, hk⟩ := hcut
    obtain ⟨Wd, eW⟩ : ∃ W, W = wc := ⟨_, rfl⟩
    subst eW
    clear CA CB ZB ZE HK x0 y0 gx0 gy0 x1 y1 gx1 gy1
    obtain ⟨lu0, lu1⟩ := hu.lens
    obtain ⟨lt0, lt1⟩ := ht.lens
    obtain ⟨q0, q1⟩ := hu.parts
    obtain ⟨r0, r1⟩ := ht.parts
    have M1 := Lib.hid (fun W K => mul_lo u0 t1 W (by omega) (by omega) (q0.keeps K) (r1.keeps K))
    have M2 := Lib.hid (fun W K => mul_lo t0 u1 W (by omega) (by omega) (r0.keeps K) (q1.keeps K))
    have M3 := Lib.hid (fun W K => mul_lo u1 t1 W (by omega) (by omega) (q1.keeps K) (r1.keeps K))
    generalize FracMath.up a * dn b = x at *
    generalize FracMath.up b * dn a = y at *
    generalize dn a * dn b = zz at *
    have SK : ∀ W, Keeps Wd W → ((W.cell? ⟨z, 0, none⟩ = some u0 ∧ W.cell? ⟨z, 1, none⟩ = some u1 ∧ W.cell? ⟨z + 1, 0, none⟩ = some t0 ∧ W.cell? ⟨z + 1, 1, none⟩ = some t1) ∧ Keeps Wd W) := fun W k => ⟨⟨(zb.keeps k).cell 0, (zb.keeps k).cell 1, (ze.keeps k).cell 0, (ze.keeps k).cell 1⟩, k⟩
    have SK := Lib.hid SK
    have HK := Lib.hid hk
    clear zb ze hu ht hk lu0 lu1 lt0 lt1 q0 q1 r0 r1
    obtain ⟨⟨x0, y0, x1, y1⟩, -⟩ := SK.out Wd (Keeps.refl _)
    go_upto_region 2 with fail
    go_region_held3 (fun W => (W.cell? ⟨z, 0, none⟩ = some u0 ∧ W.cell? ⟨z, 1, none⟩ = some u1 ∧ W.cell? ⟨z + 1, 0, none⟩ = some t0 ∧ W.cell? ⟨z + 1, 1, none⟩ = some t1) ∧ Keeps Wd W) (((refine SK.out _ ?_); (focus ((repeat (first | with_reducible exact Keeps.refl _ | with_reducible assumption | with_reducible refine Keeps.alloc ?_ _ | with_reducible refine Keeps.drew ?_ | with_reducible refine Keeps.drewN ?_ _ | with_reducible refine Keeps.trans ?_ (by with_reducible assumption))); done))))
      (first
        | (go_at_call 30; (with_reducible refine (M1.out _ (by (focus ((repeat (first | with_reducible exact Keeps.refl _ | with_reducible assumption | with_reducible refine Keeps.alloc ?_ _ | with_reducible refine Keeps.drew ?_ | with_reducible refine Keeps.drewN ?_ _ | with_reducible refine Keeps.trans ?_ (by with_reducible assumption))); done)))).mono ?_); rintro e w1 ⟨v1, rfl, hv1, hk1, _⟩)
        | (go_at_call 30; (with_reducible refine (M2.out _ (by (focus ((repeat (first | with_reducible exact Keeps.refl _ | with_reducible assumption | with_reducible refine Keeps.alloc ?_ _ | with_reducible refine Keeps.drew ?_ | with_reducible refine Keeps.drewN ?_ _ | with_reducible refine Keeps.trans ?_ (by with_reducible assumption))); done)))).mono ?_); rintro e w2 ⟨v2, rfl, hv2, hk2, _⟩)
        | (go_at_call 30; (with_reducible refine (M3.out _ (by (focus ((repeat (first | with_reducible exact Keeps.refl _ | with_reducible assumption | with_reducible refine Keeps.alloc ?_ _ | with_reducible refine Keeps.drew ?_ | with_reducible refine Keeps.drewN ?_ _ | with_reducible refine Keeps.trans ?_ (by with_reducible assumption))); done)))).mono ?_); rintro e w3 ⟨v3, rfl, hv3, hk3, _⟩))
    all_goals
      go_wp2_with fail
      go_ret3
      exact ⟨v1, v2, v3, rfl, (hv1.keeps hk2).keeps hk3, hv2.keeps hk3, hv3, HK.out.trans (by (focus ((repeat (first | with_reducible exact Keeps.refl _ | with_reducible assumption | with_reducible refine Keeps.alloc ?_ _ | with_reducible refine Keeps.drew ?_ | with_reducible refine Keeps.drewN ?_ _ | with_reducible refine Keeps.trans ?_ (by with_reducible assumption))); done)))⟩
end Go.Proofs.Ytachhphneamfhaa
/- Package frac: Cmp, Add, Sub and Floor, by their contracts. -/
namespace Go.Proofs.Ytachhphneamfhaa
open Go.RowKit Go.NatMath Go.FracMath

theorem T_len {w : World} {v : Value} {k : Nat} {a : Rat} (h : HoldsT w v k a) (hk : 1 ≤ k) : (lo (FracMath.up a)).length ≤ k ∧ (lo (dn a)).length ≤ k := ⟨len_of_lt k (h.sz hk).2.1, len_of_lt k (h.sz hk).2.2⟩
theorem len_mul {x y j k : Nat} (h1 : (lo x).length ≤ j) (h2 : (lo y).length ≤ k) : (lo (x * y)).length ≤ j + k := by
  have a := nv_lt (lo_lt x)
  have b := nv_lt (lo_lt y)
  rw [nv_lo] at a b
  exact len_of_lt _ (lt_mul (Nat.lt_of_lt_of_le a (Nat.pow_le_pow_right (by omega) h1)) (Nat.lt_of_lt_of_le b (Nat.pow_le_pow_right (by omega) h2)))
theorem len_add {x y k : Nat} (h1 : (lo x).length ≤ k) (h2 : (lo y).length ≤ k) : (lo (x + y)).length ≤ k + 1 := by
  have a := nv_lt (lo_lt x)
  have b := nv_lt (lo_lt y)
  rw [nv_lo] at a b
  have a2 := Nat.lt_of_lt_of_le a (Nat.pow_le_pow_right (show 4294967296 > 0 by omega) h1)
  have b2 := Nat.lt_of_lt_of_le b (Nat.pow_le_pow_right (show 4294967296 > 0 by omega) h2)
  refine len_of_lt _ ?_
  rw [Nat.pow_succ]; omega
theorem len_sub {x y k : Nat} (h1 : (lo x).length ≤ k) : (lo (x - y)).length ≤ k := by
  have a := nv_lt (lo_lt x)
  rw [nv_lo] at a
  exact len_of_lt _ (Nat.lt_of_le_of_lt (Nat.sub_le _ _) (Nat.lt_of_lt_of_le a (Nat.pow_le_pow_right (by omega) h1)))
theorem cmp_lik {a b : Rat} (ha : 0 ≤ a) (hb : 0 ≤ b) : cmpN (FracMath.up a * dn b) (FracMath.up b * dn a) = cmpR a b := by
  have e1 := lt_up ha hb
  have e2 := lt_up hb ha
  unfold cmpN cmpR
  by_cases h : a < b
  · rw [if_pos h, if_pos (e1.1 h)]
  · rw [if_neg h, if_neg (fun g => h (e1.2 g))]
    by_cases g : a = b
    · rw [if_pos g, if_neg (fun g2 => by have := e2.2 g2; rw [g] at this; exact absurd this Rat.lt_irrefl)]
    · rw [if_neg g, if_pos (e2.1 (by
        rcases Rat.le_total (a := a) (b := b) with g2 | g2
        · exact absurd (Rat.le_antisymm g2 (Rat.not_lt.1 h)) g
        · exact Rat.not_le.1 (fun g3 => g (Rat.le_antisymm g3 g2))))]
theorem add_lo {x y : Nat} (v v' : Value) (W : World) (l1 : (lo x).length ≤ 1000) (l2 : (lo y).length ≤ 1000) (h1 : Holds32 W v (lo x)) (h2 : Holds32 W v' (lo y)) : Calls Try.prog 25 #[v, v'] W (Gives W (lo (x + y))) := by
  have e := nat_add v v' _ _ l1 l2 W h1 h2
  rw [tv_lo, tv_lo] at e
  exact e
theorem cmp_lo {x y : Nat} (v v' : Value) (W : World) (l1 : (lo x).length ≤ 1000) (l2 : (lo y).length ≤ 1000) (h1 : Holds32 W v (lo x)) (h2 : Holds32 W v' (lo y)) : Calls Try.prog 31 #[v, v'] W (fun e w' => e = .returned (.int .i64 (cmpN x y)) ∧ Keeps W w') := by
  have e := nat_cmp v v' _ _ l1 l2 W h1 h2
  rw [tv_lo, tv_lo] at e
  exact e
theorem sub_lo {x y : Nat} (v v' : Value) (W : World) (l1 : (lo x).length ≤ 1000) (l2 : (lo y).length ≤ 1000) (h1 : Holds32 W v (lo x)) (h2 : Holds32 W v' (lo y)) : Calls Try.prog 50 #[v, v'] W (Gives2 W (if y ≤ x then lo (x - y) else []) (decide (y ≤ x))) := by
  have e := nat_sub v v' _ _ l1 l2 W h1 h2
  rw [tv_lo, tv_lo] at e
  exact e

set_option maxHeartbeats 400000 in
theorem fo_cmp (v v' : Value) (a b : Rat) (w : World) (h1 : HoldsT w v 400 a) (h2 : HoldsT w v' 400 b) :
    Calls Try.prog 22 #[v, v'] w (fun e w' => e = .returned (.int .i64 (cmpR a b)) ∧ Keeps w w') := by
  obtain ⟨la1, la2⟩ := T_len h1 (by decide)
  obtain ⟨lb1, lb2⟩ := T_len h2 (by decide)
  have l1 := len_mul la1 lb2
  have l2 := len_mul lb1 la2
  have l3 := len_mul la2 lb2
  have LK := Lib.hid (fun W K => fo_likened v v' 400 400 a b W (h1.keeps K) (h2.keeps K) (by decide) (by decide))
  rw [← cmp_lik h1.nonneg h2.nonneg]
  have C := Lib.hid (fun v v' W h1 h2 => cmp_lo (x := FracMath.up a * dn b) (y := FracMath.up b * dn a) v v' W (by omega) (by omega) h1 h2)
  generalize FracMath.up a * dn b = x at *
  generalize FracMath.up b * dn a = y at *
  generalize dn a * dn b = zz at *
  generalize cmpN x y = r at *
  obtain ⟨xs, ys, ⟨va0, va1, rfl, p1, p2⟩, _⟩ := h1
  obtain ⟨ao, n, c, rfl⟩ := p1.sl
  obtain ⟨ao', n', c', rfl⟩ := p2.sl
  obtain ⟨zs, ts, ⟨vb0, vb1, rfl, p3, p4⟩, _⟩ := h2
  obtain ⟨bo, m, d, rfl⟩ := p3.sl
  obtain ⟨bo', m', d', rfl⟩ := p4.sl
  clear p1 p2 p3 p4
  clear l1 l2 l3
  go_enter Try.func22, Try.ntmps22
  go_upto_region 1 with fail
  have b0 := (Blk.new w #[.slice ao n c, .slice ao' n' c'] 24).keeps ((Keeps.refl _).alloc (.cells #[.slice bo m d, .slice bo' m' d'] 24))
  have b1 := Blk.new (w.alloc (.cells #[.slice ao n c, .slice ao' n' c'] 24)) #[.slice bo m d, .slice bo' m' d'] 24
  have hk := ((Keeps.refl w).alloc (.cells #[.slice ao n c, .slice ao' n' c'] 24)).alloc (.cells #[.slice bo m d, .slice bo' m' d'] 24)
  simp only [World.size_alloc] at b1
  obtain ⟨z, ez⟩ : ∃ z, z = w.heap.size := ⟨_, rfl⟩
  rw [← ez] at b0 b1 ⊢
  have Z0 := Lib.hid (show w.heap.size ≤ z by omega)
  have Z1 := Lib.hid (show w.heap.size ≤ z + 1 by omega)
  clear ez
  generalize ((w.alloc (.cells #[.slice ao n c, .slice ao' n' c'] 24)).alloc (.cells #[.slice bo m d, .slice bo' m' d'] 24)) = w1 at b0 b1 hk ⊢
  obtain ⟨x0, y0, gx0, gy0⟩ := b0.two
  obtain ⟨x1, y1, gx1, gy1⟩ := b1.two
  clear b0 b1
  go_wp2_with (first
    | (go_at_call 47; (with_reducible refine (LK.out _ hk).mono ?_); rintro e w2 ⟨v1, v2, v3, rfl, hv1, hv2, hv3, hk1⟩)
    | (go_at_call 31; (with_reducible refine (C.out _ _ _ hv1 hv2).mono ?_); rintro e w3 ⟨rfl, hk2⟩))
  go_ret
  exact ⟨rfl, by (focus ((repeat (first | with_reducible exact Keeps.refl _ | with_reducible assumption | with_reducible refine Keeps.alloc ?_ _ | with_reducible refine Keeps.drew ?_ | with_reducible refine Keeps.drewN ?_ _ | with_reducible refine Keeps.trans ?_ (by with_reducible assumption))); done))⟩

set_option maxHeartbeats 400000 in
theorem fo_add (v v' : Value) (a b : Rat) (w : World) (h1 : HoldsT w v 400 a) (h2 : HoldsT w v' 400 b) :
    Calls Try.prog 18 #[v, v'] w (GivesR w (a + b)) := by
  obtain ⟨la1, la2⟩ := T_len h1 (by decide)
  obtain ⟨lb1, lb2⟩ := T_len h2 (by decide)
  have l1 := len_mul la1 lb2
  have l2 := len_mul lb1 la2
  have l3 := len_mul la2 lb2
  have LK := Lib.hid (fun W K => fo_likened v v' 400 400 a b W (h1.keeps K) (h2.keeps K) (by decide) (by decide))
  have l4 := len_add l1 l2
  rw [← add_fr h1.nonneg h2.nonneg]
  have hp := Nat.mul_pos (dn_pos a) (dn_pos b)
  generalize FracMath.up a * dn b = x at *
  generalize FracMath.up b * dn a = y at *
  generalize dn a * dn b = zz at *
  have S := Lib.hid (fun v v' W h1 h2 => add_lo (x := x) (y := y) v v' W (by omega) (by omega) h1 h2)
  have L := Lib.hid (fun v v' W h1 h2 => fo_lowest v v' (x + y) zz W (by omega) (by omega) hp h1 h2)
  generalize fr (x + y) zz = q at *
  generalize x + y = s at *
  obtain ⟨xs, ys, ⟨va0, va1, rfl, p1, p2⟩, _⟩ := h1
  obtain ⟨ao, n, c, rfl⟩ := p1.sl
  obtain ⟨ao', n', c', rfl⟩ := p2.sl
  obtain ⟨zs, ts, ⟨vb0, vb1, rfl, p3, p4⟩, _⟩ := h2
  obtain ⟨bo, m, d, rfl⟩ := p3.sl
  obtain ⟨bo', m', d', rfl⟩ := p4.sl
  clear p1 p2 p3 p4
  clear l1 l2 l3 l4 hp
  go_enter Try.func18, Try.ntmps18
  go_upto_region 1 with fail
  have b0 := ((Blk.new w #[.slice ao n c, .slice ao' n' c'] 24).keeps ((Keeps.refl _).alloc (.cells #[.slice bo m d, .slice bo' m' d'] 24))).keeps ((Keeps.refl _).alloc (.cells #[.slice none 0 0, .slice none 0 0] 24))
  have b1 := (Blk.new (w.alloc (.cells #[.slice ao n c, .slice ao' n' c'] 24)) #[.slice bo m d, .slice bo' m' d'] 24).keeps ((Keeps.refl _).alloc (.cells #[.slice none 0 0, .slice none 0 0] 24))
  have b2 := Blk.new ((w.alloc (.cells #[.slice ao n c, .slice ao' n' c'] 24)).alloc (.cells #[.slice bo m d, .slice bo' m' d'] 24)) #[.slice none 0 0, .slice none 0 0] 24
  have hk := (((Keeps.refl w).alloc (.cells #[.slice ao n c, .slice ao' n' c'] 24)).alloc (.cells #[.slice bo m d, .slice bo' m' d'] 24)).alloc (.cells #[.slice none 0 0, .slice none 0 0] 24)
  simp only [World.size_alloc] at b1 b2
  obtain ⟨z, ez⟩ : ∃ z, z = w.heap.size := ⟨_, rfl⟩
  rw [← ez] at b0 b1 b2 ⊢
  have Z0 := Lib.hid (show w.heap.size ≤ z by omega)
  have Z1 := Lib.hid (show w.heap.size ≤ z + 1 by omega)
  have Z2 := Lib.hid (show w.heap.size ≤ z + 1 + 1 by omega)
  clear ez
  generalize (((w.alloc (.cells #[.slice ao n c, .slice ao' n' c'] 24)).alloc (.cells #[.slice bo m d, .slice bo' m' d'] 24)).alloc (.cells #[.slice none 0 0, .slice none 0 0] 24)) = w1 at b0 b1 b2 hk ⊢
  obtain ⟨x0, y0, gx0, gy0⟩ := b0.two
  obtain ⟨x1, y1, gx1, gy1⟩ := b1.two
  obtain ⟨x2, y2, gx2, gy2⟩ := b2.two
  go_wp2_with (first
    | (go_at_call 47; (with_reducible refine (LK.out _ hk).mono ?_); rintro e w2 ⟨v1, v2, v3, rfl, hv1, hv2, hv3, hk1⟩)
    | (go_at_call 25; (with_reducible refine (S.out _ _ _ hv1 hv2).mono ?_); rintro e w3 ⟨v4, rfl, hv4, hk2, _⟩)
    | (go_at_call 48; (with_reducible refine (L.out _ _ _ hv4 (hv3.keeps hk2)).mono ?_); rintro e w4 ⟨v5, rfl, hv5, hk3⟩; obtain ⟨a1, n1, c1, a2, n2, c2, rfl, h0, h1, h2⟩ := hv5.two; have zc := ((b2.keeps hk1).keeps hk2).keeps hk3; obtain ⟨f0, f1, g0, g1⟩ := zc.two))
  obtain ⟨zd, hd, hK⟩ := laid_F zc h1 h2 (show Keeps w w4 by (focus ((repeat (first | with_reducible exact Keeps.refl _ | with_reducible assumption | with_reducible refine Keeps.alloc ?_ _ | with_reducible refine Keeps.drew ?_ | with_reducible refine Keeps.drewN ?_ _ | with_reducible refine Keeps.trans ?_ (by with_reducible assumption))); done))) Z2.out
  obtain ⟨d0, d1⟩ := zd.two
  refine bodyPost_ret (v := .agg #[.slice a1 n1 c1, .slice a2 n2 c2]) (by simp [results, Try.results18, go_sem, d0, d1]) rfl ⟨_, rfl, ⟨h0, hd⟩, hK⟩

set_option maxHeartbeats 1000000 in
theorem fo_sub (v v' : Value) (a b : Rat) (w : World) (h1 : HoldsT w v 400 a) (h2 : HoldsT w v' 400 b) :
    Calls Try.prog 20 #[v, v'] w (GivesRB w (if b ≤ a then a - b else 0) (decide (b ≤ a))) := by
  obtain ⟨la1, la2⟩ := T_len h1 (by decide)
  obtain ⟨lb1, lb2⟩ := T_len h2 (by decide)
  have l1 := len_mul la1 lb2
  have l2 := len_mul lb1 la2
  have l3 := len_mul la2 lb2
  have LK := Lib.hid (fun W K => fo_likened v v' 400 400 a b W (h1.keeps K) (h2.keeps K) (by decide) (by decide))
  have N := Lib.hid (fun W => own_nought W)
  have hp := Nat.mul_pos (dn_pos a) (dn_pos b)
  have S := Lib.hid (fun v v' W h1 h2 => sub_lo (x := FracMath.up a * dn b) (y := FracMath.up b * dn a) v v' W (by omega) (by omega) h1 h2)
  have hlt := lt_up h1.nonneg h2.nonneg
  have hsf := sub_fr h1.nonneg h2.nonneg
  by_cases h : b ≤ a
  · rw [if_pos h, decide_eq_true h, ← hsf h]
    have hle : FracMath.up b * dn a ≤ FracMath.up a * dn b := Nat.not_lt.1 (fun g => Rat.not_lt.2 h (hlt.2 g))
    have S := S.out
    rw [if_pos hle, decide_eq_true hle] at S
    have S := Lib.hid S
    clear hlt hsf hle h
    generalize FracMath.up a * dn b = x at *
    generalize FracMath.up b * dn a = y at *
    generalize dn a * dn b = zz at *
    have L := Lib.hid (fun v v' W h1 h2 => fo_lowest v v' (x - y) zz W (by have := len_sub (y := y) l1; omega) (by omega) hp h1 h2)
    generalize fr (x - y) zz = q at *
    generalize x - y = s at *
    obtain ⟨xs, ys, ⟨va0, va1, rfl, p1, p2⟩, _⟩ := h1
    obtain ⟨ao, n, c, rfl⟩ := p1.sl
    obtain ⟨ao', n', c', rfl⟩ := p2.sl
    obtain ⟨zs, ts, ⟨vb0, vb1, rfl, p3, p4⟩, _⟩ := h2
    obtain ⟨bo, m, d, rfl⟩ := p3.sl
    obtain ⟨bo', m', d', rfl⟩ := p4.sl
    clear p1 p2 p3 p4
    clear l1 l2 l3 hp
    go_enter Try.func20, Try.ntmps20
    go_upto_region 1 with fail
    have b0 := ((Blk.new w #[.slice ao n c, .slice ao' n' c'] 24).keeps ((Keeps.refl _).alloc (.cells #[.slice bo m d, .slice bo' m' d'] 24))).keeps ((Keeps.refl _).alloc (.cells #[.slice none 0 0, .slice none 0 0] 24))
    have b1 := (Blk.new (w.alloc (.cells #[.slice ao n c, .slice ao' n' c'] 24)) #[.slice bo m d, .slice bo' m' d'] 24).keeps ((Keeps.refl _).alloc (.cells #[.slice none 0 0, .slice none 0 0] 24))
    have b2 := Blk.new ((w.alloc (.cells #[.slice ao n c, .slice ao' n' c'] 24)).alloc (.cells #[.slice bo m d, .slice bo' m' d'] 24)) #[.slice none 0 0, .slice none 0 0] 24
    have hk := (((Keeps.refl w).alloc (.cells #[.slice ao n c, .slice ao' n' c'] 24)).alloc (.cells #[.slice bo m d, .slice bo' m' d'] 24)).alloc (.cells #[.slice none 0 0, .slice none 0 0] 24)
    simp only [World.size_alloc] at b1 b2
    obtain ⟨z, ez⟩ : ∃ z, z = w.heap.size := ⟨_, rfl⟩
    rw [← ez] at b0 b1 b2 ⊢
    have Z0 := Lib.hid (show w.heap.size ≤ z by omega)
    have Z1 := Lib.hid (show w.heap.size ≤ z + 1 by omega)
    have Z2 := Lib.hid (show w.heap.size ≤ z + 1 + 1 by omega)
    clear ez
    generalize (((w.alloc (.cells #[.slice ao n c, .slice ao' n' c'] 24)).alloc (.cells #[.slice bo m d, .slice bo' m' d'] 24)).alloc (.cells #[.slice none 0 0, .slice none 0 0] 24)) = w1 at b0 b1 b2 hk ⊢
    obtain ⟨x0, y0, gx0, gy0⟩ := b0.two
    obtain ⟨x1, y1, gx1, gy1⟩ := b1.two
    obtain ⟨x2, y2, gx2, gy2⟩ := b2.two
    go_wp2_with (first
      | (go_at_call 47; (with_reducible refine (LK.out _ hk).mono ?_); rintro e w2 ⟨v1, v2, v3, rfl, hv1, hv2, hv3, hk1⟩)
      | (go_at_call 50; (with_reducible refine (S.out _ _ _ hv1 hv2).mono ?_); rintro e w3 ⟨v4, rfl, hv4, hk2, _⟩)
      | (go_at_call 48; (with_reducible refine (L.out _ _ _ hv4 (hv3.keeps hk2)).mono ?_); rintro e w4 ⟨v5, rfl, hv5, hk3⟩; obtain ⟨a1, n1, c1, a2, n2, c2, rfl, h0, h1, h2⟩ := hv5.two; have zc := ((b2.keeps hk1).keeps hk2).keeps hk3; obtain ⟨f0, f1, g0, g1⟩ := zc.two))
    obtain ⟨zd, hd, hK⟩ := laid_F zc h1 h2 (show Keeps w w4 by (focus ((repeat (first | with_reducible exact Keeps.refl _ | with_reducible assumption | with_reducible refine Keeps.alloc ?_ _ | with_reducible refine Keeps.drew ?_ | with_reducible refine Keeps.drewN ?_ _ | with_reducible refine Keeps.trans ?_ (by with_reducible assumption))); done))) Z2.out
    obtain ⟨d0, d1⟩ := zd.two
    refine bodyPost_ret (v := .tuple #[.agg #[.slice a1 n1 c1, .slice a2 n2 c2], .bool true]) (by simp [results, Try.results20, go_sem, d0, d1]) rfl ⟨_, rfl, ⟨h0, hd⟩, hK⟩
  · rw [if_neg h, decide_eq_false h]
    have hle : ¬ FracMath.up b * dn a ≤ FracMath.up a * dn b := fun g => h (Rat.not_lt.1 (fun q => Nat.not_lt.2 g (hlt.1 q)))
    have S := S.out
    rw [if_neg hle, decide_eq_false hle] at S
    have S := Lib.hid S
    clear hlt hsf hle h
    generalize FracMath.up a * dn b = x at *
    generalize FracMath.up b * dn a = y at *
    generalize dn a * dn b = zz at *
    obtain ⟨xs, ys, ⟨va0, va1, rfl, p1, p2⟩, _⟩ := h1
    obtain ⟨ao, n, c, rfl⟩ := p1.sl
    obtain ⟨ao', n', c', rfl⟩ := p2.sl
    obtain ⟨zs, ts, ⟨vb0, vb1, rfl, p3, p4⟩, _⟩ := h2
    obtain ⟨bo, m, d, rfl⟩ := p3.sl
    obtain ⟨bo', m', d', rfl⟩ := p4.sl
    clear p1 p2 p3 p4
    clear l1 l2 l3 hp
    go_enter Try.func20, Try.ntmps20
    go_upto_region 1 with fail
    have b0 := ((Blk.new w #[.slice ao n c, .slice ao' n' c'] 24).keeps ((Keeps.refl _).alloc (.cells #[.slice bo m d, .slice bo' m' d'] 24))).keeps ((Keeps.refl _).alloc (.cells #[.slice none 0 0, .slice none 0 0] 24))
    have b1 := (Blk.new (w.alloc (.cells #[.slice ao n c, .slice ao' n' c'] 24)) #[.slice bo m d, .slice bo' m' d'] 24).keeps ((Keeps.refl _).alloc (.cells #[.slice none 0 0, .slice none 0 0] 24))
    have b2 := Blk.new ((w.alloc (.cells #[.slice ao n c, .slice ao' n' c'] 24)).alloc (.cells #[.slice bo m d, .slice bo' m' d'] 24)) #[.slice none 0 0, .slice none 0 0] 24
    have hk := (((Keeps.refl w).alloc (.cells #[.slice ao n c, .slice ao' n' c'] 24)).alloc (.cells #[.slice bo m d, .slice bo' m' d'] 24)).alloc (.cells #[.slice none 0 0, .slice none 0 0] 24)
    simp only [World.size_alloc] at b1 b2
    obtain ⟨z, ez⟩ : ∃ z, z = w.heap.size := ⟨_, rfl⟩
    rw [← ez] at b0 b1 b2 ⊢
    have Z0 := Lib.hid (show w.heap.size ≤ z by omega)
    have Z1 := Lib.hid (show w.heap.size ≤ z + 1 by omega)
    have Z2 := Lib.hid (show w.heap.size ≤ z + 1 + 1 by omega)
    clear ez
    generalize (((w.alloc (.cells #[.slice ao n c, .slice ao' n' c'] 24)).alloc (.cells #[.slice bo m d, .slice bo' m' d'] 24)).alloc (.cells #[.slice none 0 0, .slice none 0 0] 24)) = w1 at b0 b1 b2 hk ⊢
    obtain ⟨x0, y0, gx0, gy0⟩ := b0.two
    obtain ⟨x1, y1, gx1, gy1⟩ := b1.two
    obtain ⟨x2, y2, gx2, gy2⟩ := b2.two
    go_wp2_with (first
      | (go_at_call 47; (with_reducible refine (LK.out _ hk).mono ?_); rintro e w2 ⟨v1, v2, v3, rfl, hv1, hv2, hv3, hk1⟩)
      | (go_at_call 50; (with_reducible refine (S.out _ _ _ hv1 hv2).mono ?_); rintro e w3 ⟨v4, rfl, hv4, hk2, _⟩)
      | (go_at_call 35; (with_reducible refine (N.out _).mono ?_); rintro e w4 ⟨v5, rfl, hv5, hk3⟩; obtain ⟨a1, n1, c1, a2, n2, c2, rfl, h0, h1, h2⟩ := hv5.two; have zc := ((b2.keeps hk1).keeps hk2).keeps hk3; obtain ⟨f0, f1, g0, g1⟩ := zc.two))
    obtain ⟨zd, hd, hK⟩ := laid_F zc h1 h2 (show Keeps w w4 by (focus ((repeat (first | with_reducible exact Keeps.refl _ | with_reducible assumption | with_reducible refine Keeps.alloc ?_ _ | with_reducible refine Keeps.drew ?_ | with_reducible refine Keeps.drewN ?_ _ | with_reducible refine Keeps.trans ?_ (by with_reducible assumption))); done))) Z2.out
    obtain ⟨d0, d1⟩ := zd.two
    refine bodyPost_ret (v := .tuple #[.agg #[.slice a1 n1 c1, .slice a2 n2 c2], .bool false]) (by simp [results, Try.results20, go_sem, d0, d1]) rfl ⟨_, rfl, ⟨h0, hd⟩, hK⟩

theorem divmod_lo {x y : Nat} (v v' : Value) (W : World) (hy : 0 < y) (l1 : (lo x).length ≤ 1000) (l2 : (lo y).length ≤ 1000) (h1 : Holds32 W v (lo x)) (h2 : Holds32 W v' (lo y)) : Calls Try.prog 51 #[v, v'] W (Gives3 W (lo (x / y)) (lo (x % y)) true) := by
  have e := nat_divmod v v' _ _ l1 l2 W h1 h2
  rw [tv_lo, tv_lo, if_pos hy, if_pos hy, decide_eq_true hy] at e
  exact e
set_option maxHeartbeats 400000 in
theorem fo_floor (v : Value) (a : Rat) (w : World) (h1 : HoldsT w v 400 a) :
    Calls Try.prog 23 #[v] w (fun e w' => ∃ r, e = .returned r ∧ Holds32 w' r (lo (fl a)) ∧ Keeps w w') := by
  have CA := Lib.hid (fun W K => fo_counted v W 400 a (by decide) (by decide) (h1.keeps K))
  obtain ⟨la1, la2⟩ := T_len h1 (by decide)
  have D := Lib.hid (fun v v' W h1 h2 => divmod_lo (x := FracMath.up a) (y := dn a) v v' W (dn_pos a) (by omega) (by omega) h1 h2)
  rw [fl]
  obtain ⟨xs, ys, ⟨va0, va1, rfl, p1, p2⟩, _⟩ := h1
  obtain ⟨ao, n, c, rfl⟩ := p1.sl
  obtain ⟨ao', n', c', rfl⟩ := p2.sl
  clear p1 p2
  go_enter Try.func23, Try.ntmps23
  go_upto_region 1 with fail
  have b0 := Blk.new w #[.slice ao n c, .slice ao' n' c'] 24
  have hk := (Keeps.refl w).alloc (.cells #[.slice ao n c, .slice ao' n' c'] 24)
  obtain ⟨z, ez⟩ : ∃ z, z = w.heap.size := ⟨_, rfl⟩
  rw [← ez] at b0 ⊢
  have Z0 := Lib.hid (show w.heap.size ≤ z by omega)
  clear ez
  generalize (w.alloc (.cells #[.slice ao n c, .slice ao' n' c'] 24)) = w1 at b0 hk ⊢
  obtain ⟨x0, y0, gx0, gy0⟩ := b0.two
  go_upto_region 2 with (first
    | (go_at_call 40; (with_reducible refine (CA.out _ hk).mono ?_); rintro e w2 ⟨v1, rfl, hv1, hk1⟩; obtain ⟨a1, n1, c1, a2, n2, c2, rfl⟩ := hv1.slices; have zc := b0.keeps hk1; obtain ⟨f0, f1, g0, g1⟩ := zc.two))
  have zd := zc.both (u := .slice a1 n1 c1) (u' := .slice a2 n2 c2)
  have hv2 := hv1.put2 zc (.slice a1 n1 c1) (.slice a2 n2 c2)
  have hk2 := put2_keeps (show Keeps w w2 by (focus ((repeat (first | with_reducible exact Keeps.refl _ | with_reducible assumption | with_reducible refine Keeps.alloc ?_ _ | with_reducible refine Keeps.drew ?_ | with_reducible refine Keeps.drewN ?_ _ | with_reducible refine Keeps.trans ?_ (by with_reducible assumption))); done))) Z0.out (.slice a1 n1 c1) (.slice a2 n2 c2)
  obtain ⟨q0, q1⟩ := hv2.parts
  clear f0 f1 g0 g1 x0 y0 gx0 gy0 zc b0 hv1 hk1 hv2
  generalize (w2.setCell ⟨z, 0, none⟩ (.slice a1 n1 c1)).setCell ⟨z, 1, none⟩ (.slice a2 n2 c2) = w3 at zd hk2 q0 q1 ⊢
  obtain ⟨f0, f1, g0, g1⟩ := zd.two
  go_wp2_with (first
    | (go_at_call 51; (with_reducible refine (D.out _ _ _ q0 q1).mono ?_); rintro e w4 ⟨v4, v5, rfl, hv4, hv5, hk3, _, _⟩))
  go_ret
  exact ⟨_, rfl, hv4, by (focus ((repeat (first | with_reducible exact Keeps.refl _ | with_reducible assumption | with_reducible refine Keeps.alloc ?_ _ | with_reducible refine Keeps.drew ?_ | with_reducible refine Keeps.drewN ?_ _ | with_reducible refine Keeps.trans ?_ (by with_reducible assumption))); done))⟩
end Go.Proofs.Ytachhphneamfhaa
/- Package frac: product, Mul and Quo, by their contracts. -/
namespace Go.Proofs.Ytachhphneamfhaa
open Go.RowKit Go.NatMath Go.FracMath

theorem prod_low {p q r s : Nat} (hq : 0 < q) (hs : 0 < s) (h1 : Nat.gcd p q = 1) (h2 : Nat.gcd r s = 1) :
    (p / Nat.gcd p s) * (r / Nat.gcd r q) = FracMath.up (fr (p * r) (q * s)) ∧ (q / Nat.gcd r q) * (s / Nat.gcd p s) = dn (fr (p * r) (q * s)) := by
  have hqs := Nat.mul_pos hq hs
  rw [fr_up hqs, fr_den hqs]
  obtain ⟨g, eg⟩ : ∃ g, g = Nat.gcd p s := ⟨_, rfl⟩
  obtain ⟨e, ee⟩ : ∃ e, e = Nat.gcd r q := ⟨_, rfl⟩
  have gp : 0 < g := by rw [eg]; exact Nat.gcd_pos_of_pos_right _ hs
  have ep : 0 < e := by rw [ee]; exact Nat.gcd_pos_of_pos_right _ hq
  obtain ⟨x, hx⟩ : g ∣ p := by rw [eg]; exact Nat.gcd_dvd_left _ _
  obtain ⟨y, hy⟩ : g ∣ s := by rw [eg]; exact Nat.gcd_dvd_right _ _
  obtain ⟨u, hu⟩ : e ∣ r := by rw [ee]; exact Nat.gcd_dvd_left _ _
  obtain ⟨v, hv⟩ : e ∣ q := by rw [ee]; exact Nat.gcd_dvd_right _ _
  have xy : Nat.gcd x y = 1 := by
    have : g * Nat.gcd x y = g := by rw [← Nat.gcd_mul_left, ← hx, ← hy, ← eg]
    exact Nat.eq_of_mul_eq_mul_left gp (by rw [this, Nat.mul_one])
  have uv : Nat.gcd u v = 1 := by
    have : e * Nat.gcd u v = e := by rw [← Nat.gcd_mul_left, ← hu, ← hv, ← ee]
    exact Nat.eq_of_mul_eq_mul_left ep (by rw [this, Nat.mul_one])
  have xv : Nat.gcd x v = 1 := Nat.Coprime.coprime_dvd_left ⟨g, by rw [hx, Nat.mul_comm]⟩ (Nat.Coprime.coprime_dvd_right ⟨e, by rw [hv, Nat.mul_comm]⟩ h1)
  have uy : Nat.gcd u y = 1 := Nat.Coprime.coprime_dvd_left ⟨e, by rw [hu, Nat.mul_comm]⟩ (Nat.Coprime.coprime_dvd_right ⟨g, by rw [hy, Nat.mul_comm]⟩ h2)
  have c1 : Nat.gcd (x * u) v = 1 := Nat.Coprime.mul_left xv uv
  have c2 : Nat.gcd (x * u) y = 1 := Nat.Coprime.mul_left xy uy
  have cc : Nat.gcd (x * u) (v * y) = 1 := Nat.Coprime.mul_right c1 c2
  have eg2 : Nat.gcd (p * r) (q * s) = g * e := by
    rw [show p * r = (g * e) * (x * u) by rw [hx, hu, Nat.mul_mul_mul_comm], show q * s = (g * e) * (v * y) by rw [hv, hy, Nat.mul_comm e v, Nat.mul_comm g e, Nat.mul_mul_mul_comm, Nat.mul_comm (v * g), Nat.mul_comm v g, Nat.mul_comm e y, ← Nat.mul_assoc]; simp only [Nat.mul_comm, Nat.mul_left_comm], Nat.gcd_mul_left, cc, Nat.mul_one]
  rw [eg2, ← eg, ← ee]
  have hge := Nat.mul_pos gp ep
  constructor
  · rw [hx, hu, Nat.mul_div_cancel_left _ gp, Nat.mul_div_cancel_left _ ep, Nat.mul_mul_mul_comm, Nat.mul_div_cancel_left _ hge]
  · rw [hv, hy, Nat.mul_div_cancel_left _ gp, Nat.mul_div_cancel_left _ ep, Nat.mul_mul_mul_comm, Nat.mul_comm e g, Nat.mul_div_cancel_left _ hge]
theorem len_div {x y k : Nat} (h1 : (lo x).length ≤ k) : (lo (x / y)).length ≤ k := by
  have a := nv_lt (lo_lt x)
  rw [nv_lo] at a
  exact len_of_lt _ (Nat.lt_of_le_of_lt (Nat.div_le_self _ _) (Nat.lt_of_lt_of_le a (Nat.pow_le_pow_right (by omega) h1)))
theorem R_as {w : World} {v : Value} {q : Rat} {x y : Nat} (h0 : 0 ≤ q) (hx : x = FracMath.up q) (hy : y = dn q) (h : HoldsF w v (lo x) (lo y)) : HoldsR w v q := ⟨h0, by rw [← hx, ← hy]; exact h⟩

set_option maxHeartbeats 4000000 in
theorem fo_product (va0 va1 vb0 vb1 : Value) (p q r s : Nat) (w : World) (hp : (lo p).length ≤ 400) (hq : (lo q).length ≤ 400) (hr : (lo r).length ≤ 400) (hs : (lo s).length ≤ 400) (q0 : 0 < q) (s0 : 0 < s) (g1 : Nat.gcd p q = 1) (g2 : Nat.gcd r s = 1)
    (p1 : Holds32 w va0 (lo p)) (p2 : Holds32 w va1 (lo q)) (p3 : Holds32 w vb0 (lo r)) (p4 : Holds32 w vb1 (lo s)) :
    Calls Try.prog 49 #[.agg #[va0, va1], .agg #[vb0, vb1]] w (GivesR w (fr (p * r) (q * s))) := by
  have PL := prod_low q0 s0 g1 g2
  have RR := Lib.hid (fun W v h => R_as (w := W) (v := v) (fr_nonneg (p * r) (q * s)) PL.1 PL.2 h)
  have ga : 0 < Nat.gcd p s := Nat.gcd_pos_of_pos_right _ s0
  have gb : 0 < Nat.gcd r q := Nat.gcd_pos_of_pos_right _ q0
  have gal : (lo (Nat.gcd p s)).length ≤ 1000 := gcd_len s0 (by omega)
  have gbl : (lo (Nat.gcd r q)).length ≤ 1000 := gcd_len q0 (by omega)
  have RA := Lib.hid (fun W K => fo_reducer va0 vb1 p s W (by omega) (by omega) (p1.keeps K) (p4.keeps K))
  have RB := Lib.hid (fun W K => fo_reducer vb0 va1 r q W (by omega) (by omega) (p3.keeps K) (p2.keeps K))
  have l1 := len_div (y := Nat.gcd p s) hp
  have l2 := len_div (y := Nat.gcd r q) hr
  have l3 := len_div (y := Nat.gcd r q) hq
  have l4 := len_div (y := Nat.gcd p s) hs
  have MA := Lib.hid (fun v v' W h1 h2 => mul_lo (x := p / Nat.gcd p s) (y := r / Nat.gcd r q) v v' W (by omega) (by omega) h1 h2)
  have MB := Lib.hid (fun v v' W h1 h2 => mul_lo (x := q / Nat.gcd r q) (y := s / Nat.gcd p s) v v' W (by omega) (by omega) h1 h2)
  have PP := Lib.hid (⟨p1, p2, p3, p4⟩ : Holds32 w va0 (lo p) ∧ Holds32 w va1 (lo q) ∧ Holds32 w vb0 (lo r) ∧ Holds32 w vb1 (lo s))
  generalize fr (p * r) (q * s) = qq at *
  obtain ⟨ao, n, c, rfl⟩ := p1.sl
  obtain ⟨ao', n', c', rfl⟩ := p2.sl
  obtain ⟨bo, m, d, rfl⟩ := p3.sl
  obtain ⟨bo', m', d', rfl⟩ := p4.sl
  clear p1 p2 p3 p4 PL l1 l2 l3 l4
  go_enter Try.func49, Try.ntmps49
  go_upto_region 1 with fail
  have b0 := ((Blk.new w #[.slice ao n c, .slice ao' n' c'] 24).keeps ((Keeps.refl _).alloc (.cells #[.slice bo m d, .slice bo' m' d'] 24))).keeps ((Keeps.refl _).alloc (.cells #[.slice none 0 0, .slice none 0 0] 24))
  have b1 := (Blk.new (w.alloc (.cells #[.slice ao n c, .slice ao' n' c'] 24)) #[.slice bo m d, .slice bo' m' d'] 24).keeps ((Keeps.refl _).alloc (.cells #[.slice none 0 0, .slice none 0 0] 24))
  have b2 := Blk.new ((w.alloc (.cells #[.slice ao n c, .slice ao' n' c'] 24)).alloc (.cells #[.slice bo m d, .slice bo' m' d'] 24)) #[.slice none 0 0, .slice none 0 0] 24
  have hk := (((Keeps.refl w).alloc (.cells #[.slice ao n c, .slice ao' n' c'] 24)).alloc (.cells #[.slice bo m d, .slice bo' m' d'] 24)).alloc (.cells #[.slice none 0 0, .slice none 0 0] 24)
  simp only [World.size_alloc] at b1 b2
  obtain ⟨z, ez⟩ : ∃ z, z = w.heap.size := ⟨_, rfl⟩
  rw [← ez] at b0 b1 b2 ⊢
  have Z0 := Lib.hid (show w.heap.size ≤ z by omega)
  have Z1 := Lib.hid (show w.heap.size ≤ z + 1 by omega)
  have Z2 := Lib.hid (show w.heap.size ≤ z + 1 + 1 by omega)
  clear ez
  generalize (((w.alloc (.cells #[.slice ao n c, .slice ao' n' c'] 24)).alloc (.cells #[.slice bo m d, .slice bo' m' d'] 24)).alloc (.cells #[.slice none 0 0, .slice none 0 0] 24)) = w1 at b0 b1 b2 hk ⊢
  obtain ⟨x0, y0, gx0, gy0⟩ := b0.two
  obtain ⟨x1, y1, gx1, gy1⟩ := b1.two
  obtain ⟨x2, y2, gx2, gy2⟩ := b2.two
  have SK : ∀ W, Keeps w1 W → (W.cell? ⟨z, 0, none⟩ = some (.slice ao n c) ∧ W.cell? ⟨z, 1, none⟩ = some (.slice ao' n' c') ∧ W.cell? ⟨z + 1, 0, none⟩ = some (.slice bo m d) ∧ W.cell? ⟨z + 1, 1, none⟩ = some (.slice bo' m' d')) := fun W k => ⟨(b0.keeps k).cell 0, (b0.keeps k).cell 1, (b1.keeps k).cell 0, (b1.keeps k).cell 1⟩
  have SP : ∀ W u u', Keeps w1 W → (((W.setCell ⟨z + 1 + 1, 0, none⟩ u).setCell ⟨z + 1 + 1, 1, none⟩ u').cell? ⟨z, 0, none⟩ = some (.slice ao n c) ∧ ((W.setCell ⟨z + 1 + 1, 0, none⟩ u).setCell ⟨z + 1 + 1, 1, none⟩ u').cell? ⟨z, 1, none⟩ = some (.slice ao' n' c') ∧ ((W.setCell ⟨z + 1 + 1, 0, none⟩ u).setCell ⟨z + 1 + 1, 1, none⟩ u').cell? ⟨z + 1, 0, none⟩ = some (.slice bo m d) ∧ ((W.setCell ⟨z + 1 + 1, 0, none⟩ u).setCell ⟨z + 1 + 1, 1, none⟩ u').cell? ⟨z + 1, 1, none⟩ = some (.slice bo' m' d')) := fun W u u' k => ⟨((b0.keeps k).other2 (by omega)).cell 0, ((b0.keeps k).other2 (by omega)).cell 1, ((b1.keeps k).other2 (by omega)).cell 0, ((b1.keeps k).other2 (by omega)).cell 1⟩
  have SK := Lib.hid SK
  have SP := Lib.hid SP
  have HK := Lib.hid hk
  have ZC := Lib.hid b2
  clear hk b0 b1 b2 gx0 gy0 gx1 gy1 x2 y2 gx2 gy2
  go_cut [5, 6] (fun s5 s6 wx => ∃ k1 k2, s5 = .func (.func 82) #[] #[.pointer (some ⟨k1, 0, none⟩)] ∧ s6 = .func (.func 82) #[] #[.pointer (some ⟨k2, 0, none⟩)] ∧ Red wx (.func (.func 82) #[] #[.pointer (some ⟨k1, 0, none⟩)]) (Nat.gcd p s) ∧ Red wx (.func (.func 82) #[] #[.pointer (some ⟨k2, 0, none⟩)]) (Nat.gcd r q) ∧ Keeps w1 wx)
  case first =>
    go_region_held3 (fun W => W.cell? ⟨z, 0, none⟩ = some (.slice ao n c) ∧ W.cell? ⟨z, 1, none⟩ = some (.slice ao' n' c') ∧ W.cell? ⟨z + 1, 0, none⟩ = some (.slice bo m d) ∧ W.cell? ⟨z + 1, 1, none⟩ = some (.slice bo' m' d')) (((refine SK.out _ ?_); (focus ((repeat (first | with_reducible exact Keeps.refl _ | with_reducible assumption | with_reducible refine Keeps.alloc ?_ _ | with_reducible refine Keeps.drew ?_ | with_reducible refine Keeps.drewN ?_ _ | with_reducible refine Keeps.trans ?_ (by with_reducible assumption))); done))))
      (first
        | (go_at_call 73; (with_reducible refine (RA.out _ (HK.out.trans (by (focus ((repeat (first | with_reducible exact Keeps.refl _ | with_reducible assumption | with_reducible refine Keeps.alloc ?_ _ | with_reducible refine Keeps.drew ?_ | with_reducible refine Keeps.drewN ?_ _ | with_reducible refine Keeps.trans ?_ (by with_reducible assumption))); done))))).mono ?_); rintro e w2 ⟨f1, rfl, hf1, hk1⟩; obtain ⟨k1, _, rfl, _, _⟩ := id hf1)
        | (go_at_call 73; (with_reducible refine (RB.out _ (HK.out.trans (by (focus ((repeat (first | with_reducible exact Keeps.refl _ | with_reducible assumption | with_reducible refine Keeps.alloc ?_ _ | with_reducible refine Keeps.drew ?_ | with_reducible refine Keeps.drewN ?_ _ | with_reducible refine Keeps.trans ?_ (by with_reducible assumption))); done))))).mono ?_); rintro e w3 ⟨f2, rfl, hf2, hk2⟩; obtain ⟨k2, _, rfl, _, _⟩ := id hf2))
    all_goals
      go_wp2_with fail
      go_meet
      exact ⟨_, _, rfl, rfl, hf1.keeps hk2, hf2, by (focus ((repeat (first | with_reducible exact Keeps.refl _ | with_reducible assumption | with_reducible refine Keeps.alloc ?_ _ | with_reducible refine Keeps.drew ?_ | with_reducible refine Keeps.drewN ?_ _ | with_reducible refine Keeps.trans ?_ (by with_reducible assumption))); done))⟩
  case rest =>
    obtain ⟨k1, k2, rfl, rfl, hf1, hf2, hkc⟩ := hcut
    obtain ⟨Wd, eW⟩ : ∃ W, W = wc := ⟨_, rfl⟩
    subst eW
    obtain ⟨k3, e3, D1⟩ := fo_reduced hf1
    obtain ⟨k4, e4, D2⟩ := fo_reduced hf2
    injection e3 with _ _ e3
    injection e4 with _ _ e4
    simp only [Array.mk.injEq, List.cons.injEq, and_true, Value.pointer.injEq, Option.some.injEq, Addr.mk.injEq] at e3 e4
    subst e3 e4
    have HW := Lib.hid (HK.out.trans hkc)
    have D1p := Lib.hid (fun W K => D1 p (.slice ao n c) W K (by omega) gal ga (PP.out.1.keeps (HW.out.trans K)))
    have D1s := Lib.hid (fun W K => D1 s (.slice bo' m' d') W K (by omega) gal ga (PP.out.2.2.2.keeps (HW.out.trans K)))
    have D2r := Lib.hid (fun W K => D2 r (.slice bo m d) W K (by omega) gbl gb (PP.out.2.2.1.keeps (HW.out.trans K)))
    have D2q := Lib.hid (fun W K => D2 q (.slice ao' n' c') W K (by omega) gbl gb (PP.out.2.1.keeps (HW.out.trans K)))
    have HC := Lib.hid hkc
    have SK := Lib.hid (fun W k => SK.out W (HC.out.trans k))
    have SP := Lib.hid (fun W u u' k => SP.out W u u' (HC.out.trans k))
    have ZC := Lib.hid (ZC.out.keeps hkc)
    clear hf1 hf2 hkc D1 D2 x0 y0 x1 y1
    obtain ⟨x0, y0, x1, y1⟩ := SK.out Wd (Keeps.refl _)
    go_upto_region 2 with fail
    go_region_held3 (fun W => W.cell? ⟨z, 0, none⟩ = some (.slice ao n c) ∧ W.cell? ⟨z, 1, none⟩ = some (.slice ao' n' c') ∧ W.cell? ⟨z + 1, 0, none⟩ = some (.slice bo m d) ∧ W.cell? ⟨z + 1, 1, none⟩ = some (.slice bo' m' d')) (first | ((refine SK.out _ ?_); (focus ((repeat (first | with_reducible exact Keeps.refl _ | with_reducible assumption | with_reducible refine Keeps.alloc ?_ _ | with_reducible refine Keeps.drew ?_ | with_reducible refine Keeps.drewN ?_ _ | with_reducible refine Keeps.trans ?_ (by with_reducible assumption))); done))) | ((refine SP.out _ _ _ ?_); (focus ((repeat (first | with_reducible exact Keeps.refl _ | with_reducible assumption | with_reducible refine Keeps.alloc ?_ _ | with_reducible refine Keeps.drew ?_ | with_reducible refine Keeps.drewN ?_ _ | with_reducible refine Keeps.trans ?_ (by with_reducible assumption))); done))))
      (first
        | (go_at_call 82; (with_reducible refine (D1p.out _ (by (focus ((repeat (first | with_reducible exact Keeps.refl _ | with_reducible assumption | with_reducible refine Keeps.alloc ?_ _ | with_reducible refine Keeps.drew ?_ | with_reducible refine Keeps.drewN ?_ _ | with_reducible refine Keeps.trans ?_ (by with_reducible assumption))); done)))).mono ?_); rintro e wa ⟨v1, rfl, hv1, hk1, _⟩)
        | (go_at_call 82; (with_reducible refine (D2r.out _ (by (focus ((repeat (first | with_reducible exact Keeps.refl _ | with_reducible assumption | with_reducible refine Keeps.alloc ?_ _ | with_reducible refine Keeps.drew ?_ | with_reducible refine Keeps.drewN ?_ _ | with_reducible refine Keeps.trans ?_ (by with_reducible assumption))); done)))).mono ?_); rintro e wb ⟨v2, rfl, hv2, hk2, _⟩)
        | (go_at_call 30; (with_reducible refine (MA.out _ _ _ (by (focus (first | with_reducible assumption | with_reducible exact Holds32.nil _ | ((with_reducible refine Holds32.keeps (by with_reducible assumption) ?_); (focus ((repeat (first | with_reducible exact Keeps.refl _ | with_reducible assumption | with_reducible refine Keeps.alloc ?_ _ | with_reducible refine Keeps.drew ?_ | with_reducible refine Keeps.drewN ?_ _ | with_reducible refine Keeps.trans ?_ (by with_reducible assumption))); done))) | ((with_reducible refine lit1_top _ _ _ _ _ ?b (by decide)); (case b => first | rfl | simp [World.size_alloc])) | ((with_reducible refine lit1_below _ _ _ _ _ _ ?b (by decide)); (case b => first | rfl | simp [World.size_alloc])) | ((with_reducible refine lit2_top _ _ _ _ _ _ _ ?b (by decide)); (case b => first | rfl | simp [World.size_alloc]))))) (by (focus (first | with_reducible assumption | with_reducible exact Holds32.nil _ | ((with_reducible refine Holds32.keeps (by with_reducible assumption) ?_); (focus ((repeat (first | with_reducible exact Keeps.refl _ | with_reducible assumption | with_reducible refine Keeps.alloc ?_ _ | with_reducible refine Keeps.drew ?_ | with_reducible refine Keeps.drewN ?_ _ | with_reducible refine Keeps.trans ?_ (by with_reducible assumption))); done))) | ((with_reducible refine lit1_top _ _ _ _ _ ?b (by decide)); (case b => first | rfl | simp [World.size_alloc])) | ((with_reducible refine lit1_below _ _ _ _ _ _ ?b (by decide)); (case b => first | rfl | simp [World.size_alloc])) | ((with_reducible refine lit2_top _ _ _ _ _ _ _ ?b (by decide)); (case b => first | rfl | simp [World.size_alloc])))))).mono ?_); rintro e w5 ⟨v5, rfl, hv5, hk5, _⟩; obtain ⟨a1, n1, c1, rfl⟩ := hv5.sl)
        | (go_at_call 82; (with_reducible refine (D2q.out _ (by (focus ((repeat (first | with_reducible exact Keeps.refl _ | with_reducible assumption | with_reducible refine Keeps.alloc ?_ _ | with_reducible refine Keeps.drew ?_ | with_reducible refine Keeps.drewN ?_ _ | with_reducible refine Keeps.trans ?_ (by with_reducible assumption))); done)))).mono ?_); rintro e wd ⟨v3, rfl, hv3, hk3, _⟩)
        | (go_at_call 82; (with_reducible refine (D1s.out _ (by (focus ((repeat (first | with_reducible exact Keeps.refl _ | with_reducible assumption | with_reducible refine Keeps.alloc ?_ _ | with_reducible refine Keeps.drew ?_ | with_reducible refine Keeps.drewN ?_ _ | with_reducible refine Keeps.trans ?_ (by with_reducible assumption))); done)))).mono ?_); rintro e we ⟨v4, rfl, hv4, hk4, _⟩)
        | (go_at_call 30; (with_reducible refine (MB.out _ _ _ (by (focus (first | with_reducible assumption | with_reducible exact Holds32.nil _ | ((with_reducible refine Holds32.keeps (by with_reducible assumption) ?_); (focus ((repeat (first | with_reducible exact Keeps.refl _ | with_reducible assumption | with_reducible refine Keeps.alloc ?_ _ | with_reducible refine Keeps.drew ?_ | with_reducible refine Keeps.drewN ?_ _ | with_reducible refine Keeps.trans ?_ (by with_reducible assumption))); done))) | ((with_reducible refine lit1_top _ _ _ _ _ ?b (by decide)); (case b => first | rfl | simp [World.size_alloc])) | ((with_reducible refine lit1_below _ _ _ _ _ _ ?b (by decide)); (case b => first | rfl | simp [World.size_alloc])) | ((with_reducible refine lit2_top _ _ _ _ _ _ _ ?b (by decide)); (case b => first | rfl | simp [World.size_alloc]))))) (by (focus (first | with_reducible assumption | with_reducible exact Holds32.nil _ | ((with_reducible refine Holds32.keeps (by with_reducible assumption) ?_); (focus ((repeat (first | with_reducible exact Keeps.refl _ | with_reducible assumption | with_reducible refine Keeps.alloc ?_ _ | with_reducible refine Keeps.drew ?_ | with_reducible refine Keeps.drewN ?_ _ | with_reducible refine Keeps.trans ?_ (by with_reducible assumption))); done))) | ((with_reducible refine lit1_top _ _ _ _ _ ?b (by decide)); (case b => first | rfl | simp [World.size_alloc])) | ((with_reducible refine lit1_below _ _ _ _ _ _ ?b (by decide)); (case b => first | rfl | simp [World.size_alloc])) | ((with_reducible refine lit2_top _ _ _ _ _ _ _ ?b (by decide)); (case b => first | rfl | simp [World.size_alloc])))))).mono ?_); rintro e w6 ⟨v6, rfl, hv6, hk6, _⟩; obtain ⟨a2, n2, c2, rfl⟩ := hv6.sl; have hv5 := hv5.keeps (show Keeps w5 w6 by (focus ((repeat (first | with_reducible exact Keeps.refl _ | with_reducible assumption | with_reducible refine Keeps.alloc ?_ _ | with_reducible refine Keeps.drew ?_ | with_reducible refine Keeps.drewN ?_ _ | with_reducible refine Keeps.trans ?_ (by with_reducible assumption))); done))); have zc := ZC.out.keeps (show Keeps Wd w6 by (focus ((repeat (first | with_reducible exact Keeps.refl _ | with_reducible assumption | with_reducible refine Keeps.alloc ?_ _ | with_reducible refine Keeps.drew ?_ | with_reducible refine Keeps.drewN ?_ _ | with_reducible refine Keeps.trans ?_ (by with_reducible assumption))); done))); obtain ⟨f0, f1, g0, g1⟩ := zc.two))
    all_goals
      go_wp2_with fail
      obtain ⟨zd, hd, hK⟩ := laid_F zc hv5 hv6 (HW.out.trans (show Keeps Wd w6 by (focus ((repeat (first | with_reducible exact Keeps.refl _ | with_reducible assumption | with_reducible refine Keeps.alloc ?_ _ | with_reducible refine Keeps.drew ?_ | with_reducible refine Keeps.drewN ?_ _ | with_reducible refine Keeps.trans ?_ (by with_reducible assumption))); done)))) Z2.out
      obtain ⟨d0, d1⟩ := zd.two
      refine bodyPost_ret (v := .agg #[.slice a1 n1 c1, .slice a2 n2 c2]) (by simp [results, Try.results49, go_sem, d0, d1]) rfl ⟨_, rfl, RR.out _ _ hd, hK⟩

end Go.Proofs.Ytachhphneamfhaa
/- Package frac: Mul and Quo, by their contracts. -/
namespace Go.Proofs.Ytachhphneamfhaa
open Go.RowKit Go.NatMath Go.FracMath

theorem S_parts {w : World} {v : Value} {k : Nat} {q : Rat} (h : HoldsS w v k q) : ∃ u u', v = .agg #[u, u'] ∧ Holds32 w u (lo (FracMath.up q)) ∧ Holds32 w u' (lo (dn q)) := by
  obtain ⟨_, _, vn, vd, e, h1, h2⟩ := h
  exact ⟨vn, vd, e, h1, h2⟩
theorem fo_prodS {a b : Rat} (v v' : Value) (W : World) (h1 : HoldsS W v 400 a) (h2 : HoldsS W v' 400 b) : Calls Try.prog 49 #[v, v'] W (GivesR W (a * b)) := by
  obtain ⟨l1, l2⟩ := h1.lens
  obtain ⟨l3, l4⟩ := h2.lens
  have a0 := h1.1.1
  have b0 := h2.1.1
  obtain ⟨u, u', rfl, p1, p2⟩ := S_parts h1
  obtain ⟨t, t', rfl, p3, p4⟩ := S_parts h2
  have e := fo_product u u' t t' _ _ _ _ W l1 l2 l3 l4 (dn_pos a) (dn_pos b) (coprime a0) (coprime b0) p1 p2 p3 p4
  rw [mul_fr a0 b0] at e
  exact e
theorem up_pos {b : Rat} (hb : 0 ≤ b) (h : b ≠ 0) : 0 < FracMath.up b := by
  rcases Nat.eq_zero_or_pos (FracMath.up b) with g | g
  · exact absurd ((up_zero hb).1 g) h
  · exact g
theorem fo_prodQ {a b : Rat} (v t t' : Value) (W : World) (hb : b ≠ 0) (h1 : HoldsS W v 400 a) (h2 : HoldsS W (.agg #[t, t']) 400 b) : Calls Try.prog 49 #[v, .agg #[t', t]] W (GivesR W (a / b)) := by
  obtain ⟨l1, l2⟩ := h1.lens
  obtain ⟨l3, l4⟩ := h2.lens
  have a0 := h1.1.1
  have b0 := h2.1.1
  obtain ⟨u, u', rfl, p1, p2⟩ := S_parts h1
  obtain ⟨p3, p4⟩ := h2.parts
  have e := fo_product u u' t' t _ _ _ _ W l1 l2 l4 l3 (dn_pos a) (up_pos b0 hb) (coprime a0) (by rw [Nat.gcd_comm]; exact coprime b0) p1 p2 p4 p3
  rw [quo_fr a0 (by grind)] at e
  exact e

set_option maxHeartbeats 4000000 in
theorem fo_mul (v v' : Value) (a b : Rat) (w : World) (h1 : HoldsT w v 400 a) (h2 : HoldsT w v' 400 b) :
    Calls Try.prog 19 #[v, v'] w (GivesR w (a * b)) := by
  have CA := Lib.hid (fun W K => fo_counted v W 400 a (by decide) (by decide) (h1.keeps K))
  have CB := Lib.hid (fun W K => fo_counted v' W 400 b (by decide) (by decide) (h2.keeps K))
  have PR := Lib.hid (fun v v' W h1 h2 => fo_prodS (a := a) (b := b) v v' W h1 h2)
  obtain ⟨xs, ys, ⟨va0, va1, rfl, p1, p2⟩, _⟩ := h1
  obtain ⟨ao, n, c, rfl⟩ := p1.sl
  obtain ⟨ao', n', c', rfl⟩ := p2.sl
  obtain ⟨zs, ts, ⟨vb0, vb1, rfl, p3, p4⟩, _⟩ := h2
  obtain ⟨bo, m, d, rfl⟩ := p3.sl
  obtain ⟨bo', m', d', rfl⟩ := p4.sl
  clear p1 p2 p3 p4
  go_enter Try.func19, Try.ntmps19
  go_upto_region 1 with fail
  have b0 := ((Blk.new w #[.slice ao n c, .slice ao' n' c'] 24).keeps ((Keeps.refl _).alloc (.cells #[.slice bo m d, .slice bo' m' d'] 24))).keeps ((Keeps.refl _).alloc (.cells #[.slice none 0 0, .slice none 0 0] 24))
  have b1 := (Blk.new (w.alloc (.cells #[.slice ao n c, .slice ao' n' c'] 24)) #[.slice bo m d, .slice bo' m' d'] 24).keeps ((Keeps.refl _).alloc (.cells #[.slice none 0 0, .slice none 0 0] 24))
  have b2 := Blk.new ((w.alloc (.cells #[.slice ao n c, .slice ao' n' c'] 24)).alloc (.cells #[.slice bo m d, .slice bo' m' d'] 24)) #[.slice none 0 0, .slice none 0 0] 24
  have hk := (((Keeps.refl w).alloc (.cells #[.slice ao n c, .slice ao' n' c'] 24)).alloc (.cells #[.slice bo m d, .slice bo' m' d'] 24)).alloc (.cells #[.slice none 0 0, .slice none 0 0] 24)
  simp only [World.size_alloc] at b1 b2
  obtain ⟨z, ez⟩ : ∃ z, z = w.heap.size := ⟨_, rfl⟩
  rw [← ez] at b0 b1 b2 ⊢
  have Z0 := Lib.hid (show w.heap.size ≤ z by omega)
  have Z1 := Lib.hid (show w.heap.size ≤ z + 1 by omega)
  have Z2 := Lib.hid (show w.heap.size ≤ z + 1 + 1 by omega)
  clear ez
  generalize (((w.alloc (.cells #[.slice ao n c, .slice ao' n' c'] 24)).alloc (.cells #[.slice bo m d, .slice bo' m' d'] 24)).alloc (.cells #[.slice none 0 0, .slice none 0 0] 24)) = w1 at b0 b1 b2 hk ⊢
  obtain ⟨x0, y0, gx0, gy0⟩ := b0.two
  obtain ⟨x1, y1, gx1, gy1⟩ := b1.two
  obtain ⟨x2, y2, gx2, gy2⟩ := b2.two
  have SK : ∀ W, Keeps w1 W → (W.cell? ⟨z, 0, none⟩ = some (.slice ao n c) ∧ W.cell? ⟨z, 1, none⟩ = some (.slice ao' n' c') ∧ W.cell? ⟨z + 1, 0, none⟩ = some (.slice bo m d) ∧ W.cell? ⟨z + 1, 1, none⟩ = some (.slice bo' m' d')) := fun W k => ⟨(b0.keeps k).cell 0, (b0.keeps k).cell 1, (b1.keeps k).cell 0, (b1.keeps k).cell 1⟩
  have SP : ∀ W u u', Keeps w1 W → (((W.setCell ⟨z + 1 + 1, 0, none⟩ u).setCell ⟨z + 1 + 1, 1, none⟩ u').cell? ⟨z, 0, none⟩ = some (.slice ao n c) ∧ ((W.setCell ⟨z + 1 + 1, 0, none⟩ u).setCell ⟨z + 1 + 1, 1, none⟩ u').cell? ⟨z, 1, none⟩ = some (.slice ao' n' c') ∧ ((W.setCell ⟨z + 1 + 1, 0, none⟩ u).setCell ⟨z + 1 + 1, 1, none⟩ u').cell? ⟨z + 1, 0, none⟩ = some (.slice bo m d) ∧ ((W.setCell ⟨z + 1 + 1, 0, none⟩ u).setCell ⟨z + 1 + 1, 1, none⟩ u').cell? ⟨z + 1, 1, none⟩ = some (.slice bo' m' d')) := fun W u u' k => ⟨((b0.keeps k).other2 (by omega)).cell 0, ((b0.keeps k).other2 (by omega)).cell 1, ((b1.keeps k).other2 (by omega)).cell 0, ((b1.keeps k).other2 (by omega)).cell 1⟩
  have SK := Lib.hid SK
  have SP := Lib.hid SP
  have HK := Lib.hid hk
  have ZC := Lib.hid b2
  clear hk b0 b1 b2 gx0 gy0 gx1 gy1 x2 y2 gx2 gy2
  go_region_held3 (fun W => W.cell? ⟨z, 0, none⟩ = some (.slice ao n c) ∧ W.cell? ⟨z, 1, none⟩ = some (.slice ao' n' c') ∧ W.cell? ⟨z + 1, 0, none⟩ = some (.slice bo m d) ∧ W.cell? ⟨z + 1, 1, none⟩ = some (.slice bo' m' d')) (first | ((refine SK.out _ ?_); (focus ((repeat (first | with_reducible exact Keeps.refl _ | with_reducible assumption | with_reducible refine Keeps.alloc ?_ _ | with_reducible refine Keeps.drew ?_ | with_reducible refine Keeps.drewN ?_ _ | with_reducible refine Keeps.trans ?_ (by with_reducible assumption))); done))) | ((refine SP.out _ _ _ ?_); (focus ((repeat (first | with_reducible exact Keeps.refl _ | with_reducible assumption | with_reducible refine Keeps.alloc ?_ _ | with_reducible refine Keeps.drew ?_ | with_reducible refine Keeps.drewN ?_ _ | with_reducible refine Keeps.trans ?_ (by with_reducible assumption))); done))))
    (first
      | (go_at_call 40; (with_reducible refine (CA.out _ (HK.out.trans (by (focus ((repeat (first | with_reducible exact Keeps.refl _ | with_reducible assumption | with_reducible refine Keeps.alloc ?_ _ | with_reducible refine Keeps.drew ?_ | with_reducible refine Keeps.drewN ?_ _ | with_reducible refine Keeps.trans ?_ (by with_reducible assumption))); done))))).mono ?_); rintro e w2 ⟨v1, rfl, hv1, hk1⟩)
      | (go_at_call 40; (with_reducible refine (CB.out _ (HK.out.trans (by (focus ((repeat (first | with_reducible exact Keeps.refl _ | with_reducible assumption | with_reducible refine Keeps.alloc ?_ _ | with_reducible refine Keeps.drew ?_ | with_reducible refine Keeps.drewN ?_ _ | with_reducible refine Keeps.trans ?_ (by with_reducible assumption))); done))))).mono ?_); rintro e w3 ⟨v2, rfl, hv2, hk2⟩; have hv1 := hv1.keeps (show Keeps w2 w3 by (focus ((repeat (first | with_reducible exact Keeps.refl _ | with_reducible assumption | with_reducible refine Keeps.alloc ?_ _ | with_reducible refine Keeps.drew ?_ | with_reducible refine Keeps.drewN ?_ _ | with_reducible refine Keeps.trans ?_ (by with_reducible assumption))); done))))
      | (go_at_call 49; (with_reducible refine (PR.out _ _ _ (by (focus (first | with_reducible assumption | ((with_reducible refine HoldsS.keeps (by with_reducible assumption) ?_); (focus ((repeat (first | with_reducible exact Keeps.refl _ | with_reducible assumption | with_reducible refine Keeps.alloc ?_ _ | with_reducible refine Keeps.drew ?_ | with_reducible refine Keeps.drewN ?_ _ | with_reducible refine Keeps.trans ?_ (by with_reducible assumption))); done)))))) (by (focus (first | with_reducible assumption | ((with_reducible refine HoldsS.keeps (by with_reducible assumption) ?_); (focus ((repeat (first | with_reducible exact Keeps.refl _ | with_reducible assumption | with_reducible refine Keeps.alloc ?_ _ | with_reducible refine Keeps.drew ?_ | with_reducible refine Keeps.drewN ?_ _ | with_reducible refine Keeps.trans ?_ (by with_reducible assumption))); done))))))).mono ?_); rintro e w4 ⟨v3, rfl, hv3, hk3⟩; obtain ⟨a1, n1, c1, a2, n2, c2, rfl, h0, h3, h4⟩ := hv3.two; have zc := ZC.out.keeps (show Keeps w1 w4 by (focus ((repeat (first | with_reducible exact Keeps.refl _ | with_reducible assumption | with_reducible refine Keeps.alloc ?_ _ | with_reducible refine Keeps.drew ?_ | with_reducible refine Keeps.drewN ?_ _ | with_reducible refine Keeps.trans ?_ (by with_reducible assumption))); done))); obtain ⟨f0, f1, g0, g1⟩ := zc.two))
  all_goals
    go_wp2_with fail
    obtain ⟨zd, hd, hK⟩ := laid_F zc h3 h4 (HK.out.trans (show Keeps w1 w4 by (focus ((repeat (first | with_reducible exact Keeps.refl _ | with_reducible assumption | with_reducible refine Keeps.alloc ?_ _ | with_reducible refine Keeps.drew ?_ | with_reducible refine Keeps.drewN ?_ _ | with_reducible refine Keeps.trans ?_ (by with_reducible assumption))); done)))) Z2.out
    obtain ⟨d0, d1⟩ := zd.two
    refine bodyPost_ret (v := .agg #[.slice a1 n1 c1, .slice a2 n2 c2]) (by simp [results, Try.results19, go_sem, d0, d1]) rfl ⟨_, rfl, ⟨h0, hd⟩, hK⟩


theorem zero_len {b : Rat} (hb : 0 ≤ b) : ((lo (FracMath.up b)).length = 0) ↔ b = 0 := by
  rw [← up_zero hb]
  constructor
  · intro h
    have := nv_lo (FracMath.up b)
    rw [List.eq_nil_of_length_eq_zero h] at this
    exact this.symm
  · intro h; rw [h, lo_zero]; rfl
set_option maxHeartbeats 4000000 in
theorem fo_quo (v v' : Value) (a b : Rat) (w : World) (h1 : HoldsT w v 400 a) (h2 : HoldsT w v' 400 b) :
    Calls Try.prog 21 #[v, v'] w (GivesRB w (if b = 0 then 0 else a / b) (decide (b ≠ 0))) := by
  have CA := Lib.hid (fun W K => fo_counted v W 400 a (by decide) (by decide) (h1.keeps K))
  have CB := Lib.hid (fun W K => fo_counted v' W 400 b (by decide) (by decide) (h2.keeps K))
  have N := Lib.hid (fun W => own_nought W)
  have B0 := Lib.hid h2.nonneg
  obtain ⟨xs, ys, ⟨va0, va1, rfl, p1, p2⟩, _⟩ := h1
  obtain ⟨ao, n, c, rfl⟩ := p1.sl
  obtain ⟨ao', n', c', rfl⟩ := p2.sl
  obtain ⟨zs, ts, ⟨vb0, vb1, rfl, p3, p4⟩, _⟩ := h2
  obtain ⟨bo, m, d, rfl⟩ := p3.sl
  obtain ⟨bo', m', d', rfl⟩ := p4.sl
  clear p1 p2 p3 p4
  generalize hq : (if b = 0 then (0 : Rat) else a / b) = qq
  generalize hd : decide (b ≠ 0) = dd
  have HQ := Lib.hid hq
  have HD := Lib.hid hd
  clear hq hd
  go_enter Try.func21, Try.ntmps21
  go_upto_region 1 with fail
  have b0 := ((Blk.new w #[.slice ao n c, .slice ao' n' c'] 24).keeps ((Keeps.refl _).alloc (.cells #[.slice bo m d, .slice bo' m' d'] 24))).keeps ((Keeps.refl _).alloc (.cells #[.slice none 0 0, .slice none 0 0] 24))
  have b1 := (Blk.new (w.alloc (.cells #[.slice ao n c, .slice ao' n' c'] 24)) #[.slice bo m d, .slice bo' m' d'] 24).keeps ((Keeps.refl _).alloc (.cells #[.slice none 0 0, .slice none 0 0] 24))
  have b2 := Blk.new ((w.alloc (.cells #[.slice ao n c, .slice ao' n' c'] 24)).alloc (.cells #[.slice bo m d, .slice bo' m' d'] 24)) #[.slice none 0 0, .slice none 0 0] 24
  have hk := (((Keeps.refl w).alloc (.cells #[.slice ao n c, .slice ao' n' c'] 24)).alloc (.cells #[.slice bo m d, .slice bo' m' d'] 24)).alloc (.cells #[.slice none 0 0, .slice none 0 0] 24)
  simp only [World.size_alloc] at b1 b2
  obtain ⟨z, ez⟩ : ∃ z, z = w.heap.size := ⟨_, rfl⟩
  rw [← ez] at b0 b1 b2 ⊢
  have Z0 := Lib.hid (show w.heap.size ≤ z by omega)
  have Z1 := Lib.hid (show w.heap.size ≤ z + 1 by omega)
  have Z2 := Lib.hid (show w.heap.size ≤ z + 1 + 1 by omega)
  clear ez
  generalize (((w.alloc (.cells #[.slice ao n c, .slice ao' n' c'] 24)).alloc (.cells #[.slice bo m d, .slice bo' m' d'] 24)).alloc (.cells #[.slice none 0 0, .slice none 0 0] 24)) = w1 at b0 b1 b2 hk ⊢
  obtain ⟨x0, y0, gx0, gy0⟩ := b0.two
  obtain ⟨x1, y1, gx1, gy1⟩ := b1.two
  obtain ⟨x2, y2, gx2, gy2⟩ := b2.two
  go_upto_region 2 with (first
    | (go_at_call 40; (with_reducible refine (CB.out _ hk).mono ?_); rintro e w2 ⟨v1, rfl, hv1, hk1⟩; obtain ⟨e1, m1, o1, e2, m2, o2, rfl⟩ := hv1.slices; have zc := b1.keeps hk1; obtain ⟨f0, f1, g0, g1⟩ := zc.two))
  have b1 := zc.both (u := .slice e1 m1 o1) (u' := .slice e2 m2 o2)
  have b0 := (b0.keeps hk1).other2 (b' := z + 1) (u := .slice e1 m1 o1) (u' := .slice e2 m2 o2) (by omega)
  have b2 := (b2.keeps hk1).other2 (b' := z + 1) (u := .slice e1 m1 o1) (u' := .slice e2 m2 o2) (by omega)
  have hv2 := hv1.put2 zc (.slice e1 m1 o1) (.slice e2 m2 o2)
  have hk2 := put2_keeps (show Keeps w w2 by (focus ((repeat (first | with_reducible exact Keeps.refl _ | with_reducible assumption | with_reducible refine Keeps.alloc ?_ _ | with_reducible refine Keeps.drew ?_ | with_reducible refine Keeps.drewN ?_ _ | with_reducible refine Keeps.trans ?_ (by with_reducible assumption))); done))) Z1.out (.slice e1 m1 o1) (.slice e2 m2 o2)
  clear f0 f1 g0 g1 x0 y0 gx0 gy0 x1 y1 gx1 gy1 x2 y2 gx2 gy2 zc hv1 hk1 hk
  generalize (w2.setCell ⟨z + 1, 0, none⟩ (.slice e1 m1 o1)).setCell ⟨z + 1, 1, none⟩ (.slice e2 m2 o2) = w3 at b0 b1 b2 hk2 hv2 ⊢
  obtain ⟨x0, y0, gx0, gy0⟩ := b0.two
  obtain ⟨x1, y1, gx1, gy1⟩ := b1.two
  obtain ⟨x2, y2, gx2, gy2⟩ := b2.two
  have hm1 : (lo (FracMath.up b)).length = m1 := by
    obtain ⟨_, _, _, _, e, h, _⟩ := hv2.parts.1
    injection e with _ e _
    rw [e]; exact h
  have hzl := zero_len B0.out
  rw [hm1] at hzl
  have HV2 := Lib.hid hv2
  by_cases h0 : m1 = 0
  · have hb := hzl.1 h0
    have E1 := HQ.out
    have E2 := HD.out
    rw [if_pos hb] at E1
    rw [decide_eq_false (by simp [hb])] at E2
    subst E1 E2
    subst h0
    clear hzl hm1 hv2 hb
    go_wp2_with (first
      | (go_at_call 35; (with_reducible refine (N.out _).mono ?_); rintro e w4 ⟨v1, rfl, hv1, hk3⟩; obtain ⟨a1, n1, c1, a2, n2, c2, rfl, h0, h1, h2⟩ := hv1.two; have zc := b2.keeps hk3; obtain ⟨f0, f1, g0, g1⟩ := zc.two))
    obtain ⟨zd, hd, hK⟩ := laid_F zc h1 h2 (show Keeps w w4 by (focus ((repeat (first | with_reducible exact Keeps.refl _ | with_reducible assumption | with_reducible refine Keeps.alloc ?_ _ | with_reducible refine Keeps.drew ?_ | with_reducible refine Keeps.drewN ?_ _ | with_reducible refine Keeps.trans ?_ (by with_reducible assumption))); done))) Z2.out
    obtain ⟨d0, d1⟩ := zd.two
    refine bodyPost_ret (v := .tuple #[.agg #[.slice a1 n1 c1, .slice a2 n2 c2], .bool false]) (by simp [results, Try.results21, go_sem, d0, d1]) rfl ⟨_, rfl, ⟨h0, hd⟩, hK⟩
  · have hb : b ≠ 0 := fun e => h0 (hzl.2 e)
    have t1 : ((m1 : Int) == 0) = false := by simp; omega
    have PR := Lib.hid (fun v W h1 h2 => fo_prodQ (a := a) (b := b) v (.slice e1 m1 o1) (.slice e2 m2 o2) W hb h1 h2)
    have E1 := HQ.out
    have E2 := HD.out
    rw [if_neg hb] at E1
    rw [decide_eq_true hb] at E2
    subst E1 E2
    clear hzl hm1 hv2 hb h0
    go_upto_region 4 with fail
    have SK : ∀ W, Keeps w3 W → (W.cell? ⟨z, 0, none⟩ = some (.slice ao n c) ∧ W.cell? ⟨z, 1, none⟩ = some (.slice ao' n' c') ∧ W.cell? ⟨z + 1, 0, none⟩ = some (.slice e1 m1 o1) ∧ W.cell? ⟨z + 1, 1, none⟩ = some (.slice e2 m2 o2)) := fun W k => ⟨(b0.keeps k).cell 0, (b0.keeps k).cell 1, (b1.keeps k).cell 0, (b1.keeps k).cell 1⟩
    have SP : ∀ W u u', Keeps w3 W → (((W.setCell ⟨z + 1 + 1, 0, none⟩ u).setCell ⟨z + 1 + 1, 1, none⟩ u').cell? ⟨z, 0, none⟩ = some (.slice ao n c) ∧ ((W.setCell ⟨z + 1 + 1, 0, none⟩ u).setCell ⟨z + 1 + 1, 1, none⟩ u').cell? ⟨z, 1, none⟩ = some (.slice ao' n' c') ∧ ((W.setCell ⟨z + 1 + 1, 0, none⟩ u).setCell ⟨z + 1 + 1, 1, none⟩ u').cell? ⟨z + 1, 0, none⟩ = some (.slice e1 m1 o1) ∧ ((W.setCell ⟨z + 1 + 1, 0, none⟩ u).setCell ⟨z + 1 + 1, 1, none⟩ u').cell? ⟨z + 1, 1, none⟩ = some (.slice e2 m2 o2)) := fun W u u' k => ⟨((b0.keeps k).other2 (by omega)).cell 0, ((b0.keeps k).other2 (by omega)).cell 1, ((b1.keeps k).other2 (by omega)).cell 0, ((b1.keeps k).other2 (by omega)).cell 1⟩
    have SK := Lib.hid SK
    have SP := Lib.hid SP
    have HK := Lib.hid hk2
    have ZC := Lib.hid b2
    clear hk2 b0 b1 b2 gx0 gy0 gx1 gy1 x2 y2 gx2 gy2
    go_region_held3 (fun W => W.cell? ⟨z, 0, none⟩ = some (.slice ao n c) ∧ W.cell? ⟨z, 1, none⟩ = some (.slice ao' n' c') ∧ W.cell? ⟨z + 1, 0, none⟩ = some (.slice e1 m1 o1) ∧ W.cell? ⟨z + 1, 1, none⟩ = some (.slice e2 m2 o2)) (first | ((refine SK.out _ ?_); (focus ((repeat (first | with_reducible exact Keeps.refl _ | with_reducible assumption | with_reducible refine Keeps.alloc ?_ _ | with_reducible refine Keeps.drew ?_ | with_reducible refine Keeps.drewN ?_ _ | with_reducible refine Keeps.trans ?_ (by with_reducible assumption))); done))) | ((refine SP.out _ _ _ ?_); (focus ((repeat (first | with_reducible exact Keeps.refl _ | with_reducible assumption | with_reducible refine Keeps.alloc ?_ _ | with_reducible refine Keeps.drew ?_ | with_reducible refine Keeps.drewN ?_ _ | with_reducible refine Keeps.trans ?_ (by with_reducible assumption))); done))))
      (first
        | (go_at_call 40; (with_reducible refine (CA.out _ (HK.out.trans (by (focus ((repeat (first | with_reducible exact Keeps.refl _ | with_reducible assumption | with_reducible refine Keeps.alloc ?_ _ | with_reducible refine Keeps.drew ?_ | with_reducible refine Keeps.drewN ?_ _ | with_reducible refine Keeps.trans ?_ (by with_reducible assumption))); done))))).mono ?_); rintro e w4 ⟨v1, rfl, hv1, hk1⟩; have hv2 := HV2.out.keeps (show Keeps w3 w4 by (focus ((repeat (first | with_reducible exact Keeps.refl _ | with_reducible assumption | with_reducible refine Keeps.alloc ?_ _ | with_reducible refine Keeps.drew ?_ | with_reducible refine Keeps.drewN ?_ _ | with_reducible refine Keeps.trans ?_ (by with_reducible assumption))); done))))
        | (go_at_call 49; (with_reducible refine (PR.out _ _ (by (focus (first | with_reducible assumption | ((with_reducible refine HoldsS.keeps (by with_reducible assumption) ?_); (focus ((repeat (first | with_reducible exact Keeps.refl _ | with_reducible assumption | with_reducible refine Keeps.alloc ?_ _ | with_reducible refine Keeps.drew ?_ | with_reducible refine Keeps.drewN ?_ _ | with_reducible refine Keeps.trans ?_ (by with_reducible assumption))); done)))))) (by (focus (first | with_reducible assumption | ((with_reducible refine HoldsS.keeps (by with_reducible assumption) ?_); (focus ((repeat (first | with_reducible exact Keeps.refl _ | with_reducible assumption | with_reducible refine Keeps.alloc ?_ _ | with_reducible refine Keeps.drew ?_ | with_reducible refine Keeps.drewN ?_ _ | with_reducible refine Keeps.trans ?_ (by with_reducible assumption))); done))))))).mono ?_); rintro e w5 ⟨v3, rfl, hv3, hk3⟩; obtain ⟨a1, n1, c1, a2, n2, c2, rfl, h0, h3, h4⟩ := hv3.two; have zc := ZC.out.keeps (show Keeps w3 w5 by (focus ((repeat (first | with_reducible exact Keeps.refl _ | with_reducible assumption | with_reducible refine Keeps.alloc ?_ _ | with_reducible refine Keeps.drew ?_ | with_reducible refine Keeps.drewN ?_ _ | with_reducible refine Keeps.trans ?_ (by with_reducible assumption))); done))); obtain ⟨f0, f1, g0, g1⟩ := zc.two))
    all_goals
      go_wp2_with fail
      obtain ⟨zd, hd, hK⟩ := laid_F zc h3 h4 (HK.out.trans (show Keeps w3 w5 by (focus ((repeat (first | with_reducible exact Keeps.refl _ | with_reducible assumption | with_reducible refine Keeps.alloc ?_ _ | with_reducible refine Keeps.drew ?_ | with_reducible refine Keeps.drewN ?_ _ | with_reducible refine Keeps.trans ?_ (by with_reducible assumption))); done)))) Z2.out
      obtain ⟨d0, d1⟩ := zd.two
      refine bodyPost_ret (v := .tuple #[.agg #[.slice a1 n1 c1, .slice a2 n2 c2], .bool true]) (by simp [results, Try.results21, go_sem, d0, d1]) rfl ⟨_, rfl, ⟨h0, hd⟩, hK⟩
end Go.Proofs.Ytachhphneamfhaa
