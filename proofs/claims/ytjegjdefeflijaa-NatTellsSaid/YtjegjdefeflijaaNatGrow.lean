/- The contracts of package nat's decimal and grow. -/
import Derived.Test.YtjegjdefeflijaaNatArith
import Derived.Test.YtjegjdefeflijaaNatTextMath
import Derived.Test.YtjegjdefeflijaaNatOftenMath
import Derived.Test.YtjegjdefeflijaaNatGcd
import Derived.Laws.RangeAny
import Derived.Laws.BytesArg
set_option linter.unusedVariables false
set_option linter.unusedSimpArgs false
namespace Go.Proofs.Ytjegjdefeflijaa
open Go.RowKit Go.NatMath Go.NumDigits

theorem keeps_iter {w wr : World} (h : Keeps w wr) (s : ByteArray) (k : Nat) : Keeps w (wr.iter s k) := h.alloc _

set_option maxHeartbeats 1000000 in
theorem decimal_walk (s : ByteArray) (w : World) (hs : s.size ≤ 1000) (hp : 0 < s.size) (x : Nat) (fx : ∀ h : 0 < s.size, (((s[0]'h).toNat : Nat) : Int) = (x : Int)) (h : ((x : Int) == 48) = false ∨ ((x : Int) == 48) = true ∧ ¬ (1 : Int) < (s.size : Int)) :
    Calls Try.prog 46 #[.string s] w (fun e w' => e = .returned (.bool (digs (lets s))) ∧ Keeps w w') := by
  have h0 : s.size ≠ 0 := by omega
  have he : s.toList.isEmpty = false := by
    rw [ByteArray.toList_eq]
    have : s.data.toList.length = s.size := rfl
    cases hl : s.data.toList with
    | nil => rw [hl] at this; exact absurd this.symm h0
    | cons c l => rfl
  have hne : ¬ s.toList = [] := by intro e; rw [e] at he; exact absurd he (by decide)
  generalize hD : digs (lets s) = D
  have HD := Lib.hid hD
  clear h0 hD
  rcases h with e1 | ⟨e1, e2⟩
  all_goals
    go_enter Try.func46, Try.ntmps46
    go_wp2
    go_loopw [2] (fun s2 wr => ∃ k : Nat, s2 = .bool false ∧ k ≤ s.size ∧ wr = w.iter s k ∧ Hid (digs ((lets s).take k) = true)) (fun _ wr => s.size - wr.iterPos w.heap.size)
    case atStart => exact ⟨0, rfl, Nat.zero_le _, rfl, Lib.hid rfl⟩
    case round =>
      obtain ⟨k, rfl, hk, rfl, hd⟩ := hrel
      by_cases hlt : k < s.size
      · have hsn := lets_snoc s k hlt
        by_cases ha : s[k].toNat < 128
        · obtain ⟨y, ey⟩ : ∃ y : Nat, y = s[k].toNat := ⟨_, rfl⟩
          have hn := fun ty => run_next_ascii (P := Try.prog) w s k ty hlt ha
          simp only [← ey] at hn hsn ha
          have HN := Lib.hid hsn
          clear hsn ey
          by_cases c1 : (y : Int) < 48
          · have E := Lib.hid (show D = false from by rw [← HD.out]; exact digs_cut (k := k + 1) (by rw [HN.out, digs_snoc]; simp; omega))
            go_wp2
            go_ret
            exact ⟨by rw [E.out]; rfl, keeps_iter (Keeps.refl _) _ _⟩
          · by_cases c2 : (57 : Int) < (y : Int)
            · have E := Lib.hid (show D = false from by rw [← HD.out]; exact digs_cut (k := k + 1) (by rw [HN.out, digs_snoc]; simp; omega))
              go_wp2
              go_ret
              exact ⟨by rw [E.out]; rfl, keeps_iter (Keeps.refl _) _ _⟩
            · have E := Lib.hid (show digs ((lets s).take (k + 1)) = true from by rw [HN.out, digs_snoc, hd.out]; simp; omega)
              go_wp2
              go_roundw
              case rel => exact ⟨k + 1, rfl, hlt, rfl, E⟩
              case measure => simp; omega
        · obtain ⟨r, er⟩ : ∃ r : Nat, r = (Utf8.decode s k).1 := ⟨_, rfl⟩
          obtain ⟨p, ep⟩ : ∃ p : Nat, p = k + (Utf8.decode s k).2 := ⟨_, rfl⟩
          have hn := fun ty => run_next_any (P := Try.prog) w s k ty hlt
          have E := Lib.hid (show D = false from by rw [← HD.out]; exact digs_cut (k := k + 1) (by rw [hsn, digs_snoc]; simp; omega))
          have r1 := (decode_high s k hlt (by omega)).1
          have r2 := decode_le s k
          rw [← er] at r1 r2
          simp only [← er, ← ep] at hn
          clear er ep hsn ha
          have r3 : (57 : Int) < (r : Int) := by omega
          have r4 : ¬ (r : Int) < 48 := by omega
          go_wp2
          go_ret
          exact ⟨by rw [E.out]; rfl, keeps_iter (Keeps.refl _) _ _⟩
      · have hn := fun ty => run_next_end (P := Try.prog) w s k ty hlt
        obtain rfl : k = s.size := by omega
        rw [lets_all] at hd
        have E := Lib.hid (show D = true from by rw [← HD.out]; exact hd.out)
        clear hd
        go_wp2
        go_ret
        exact ⟨by rw [E.out]; rfl, keeps_iter (Keeps.refl _) _ _⟩

theorem own_decimal (s : ByteArray) (hs : s.size ≤ 1000) (w : World) : Calls Try.prog 46 #[.string s] w (fun e w' => e = .returned (.bool (natB (lets s))) ∧ Keeps w w') := by
  by_cases h0 : s.size = 0
  · have e0 : s = { data := #[] } := by
      apply ByteArray.ext
      exact Array.eq_empty_of_size_eq_zero h0
    subst e0
    go_enter Try.func46, Try.ntmps46
    go_wp2_with fail
    go_ret
    exact ⟨rfl, Keeps.refl _⟩
  · have hp : 0 < s.size := by omega
    obtain ⟨t, ht, htl⟩ := lets_head s hp
    obtain ⟨x, ex⟩ : ∃ x : Nat, x = (s[0]'hp).toNat := ⟨_, rfl⟩
    have fx : ∀ h : 0 < s.size, (((s[0]'h).toNat : Nat) : Int) = (x : Int) := fun h => by rw [ex]
    rw [← ex] at ht
    by_cases cx : x = 48
    · by_cases c1 : 1 < s.size
      · have hB : natB (lets s) = false := by
          have : t.isEmpty = false := by
            cases t with
            | nil => simp at htl; omega
            | cons _ _ => rfl
          rw [ht, cx]; simp [natB, this]
        have he : s.toList.isEmpty = false := by
          rw [ByteArray.toList_eq]
          have : s.data.toList.length = s.size := rfl
          cases hl : s.data.toList with
          | nil => rw [hl] at this; exact absurd this.symm h0
          | cons c l => rfl
        have hne : ¬ s.toList = [] := by intro e; rw [e] at he; exact absurd he (by decide)
        have e1 : ((x : Int) == 48) = true := by simp [cx]
        have c3 : (1 : Int) < (s.size : Int) := by omega
        rw [hB]
        clear hB ht htl ex cx c1 h0
        go_enter Try.func46, Try.ntmps46
        go_wp2_with fail
        go_ret
        exact ⟨rfl, Keeps.refl _⟩
      · have hB : natB (lets s) = digs (lets s) := by
          have : t.isEmpty = true := by
            cases t with
            | nil => rfl
            | cons _ _ => simp at htl; omega
          rw [ht]; simp [natB, this]
        rw [hB]
        exact decimal_walk s w hs hp x fx (Or.inr ⟨by simp [cx], by omega⟩)
    · have hB : natB (lets s) = digs (lets s) := by
        rw [ht]
        have : ((x : Int) != 48) = true := by simp; omega
        simp only [natB]
        rw [this]; simp
      rw [hB]
      exact decimal_walk s w hs hp x fx (Or.inl (by simp; omega))

/-- A row of the call's own that may grow: v holds these digits. -/
def Own32 (w : World) (B : Nat) (v : Value) (xs : List Nat) : Prop := w.ownsRow B 41 1 v xs.length (vals xs) ∧ ∀ x ∈ xs, x < 4294967296
theorem Own32.holds {w : World} {B : Nat} {v : Value} {xs : List Nat} (h : Own32 w B v xs) : Holds32 w v xs := holds_of_own h.1 h.2
theorem Own32.lt {w : World} {B : Nat} {v : Value} {xs : List Nat} (h : Own32 w B v xs) (i : Nat) : xs.getD i 0 < 4294967296 := h.holds.lt i
theorem vals_getD (xs : List Nat) (i : Nat) (hi : i < xs.length) : (vals xs)[i]? = some (.int .u32 ((xs.getD i 0 : Nat) : Int)) := by
  simp [vals, List.getD, hi]
/-- What a row with a digit is. -/
theorem Own32.parts {w : World} {B : Nat} {v : Value} {xs : List Nat} (h : Own32 w B v xs) (hp : 0 < xs.length) : ∃ g cap, v = .slice (some ⟨g, 0, none⟩) xs.length cap ∧ B ≤ g := by
  obtain ⟨⟨h1, h2⟩, _⟩ := h
  rcases h2 with ⟨_, h2⟩ | ⟨g, cap, cur, h3, h4, _⟩
  · omega
  · exact ⟨g, cap, h3, h4⟩
theorem Own32.cell {w : World} {B g n cap : Nat} {xs : List Nat} (h : Own32 w B (.slice (some ⟨g, 0, none⟩) n cap) xs) (i : Nat) (hi : i < xs.length) :
    w.cell? ⟨g, i, none⟩ = some (.int .u32 ((xs.getD i 0 : Nat) : Int)) ∧ w.frozen? ⟨g, i, none⟩ = false := by
  obtain ⟨⟨h1, h2⟩, _⟩ := h
  rcases h2 with ⟨h2, _⟩ | ⟨g', cap', cur, h3, h4, h5, h6, h7, h8, h9⟩
  · cases h2
  · cases h3
    have e : cur[i]? = some (.int .u32 ((xs.getD i 0 : Nat) : Int)) := by
      rw [← vals_getD xs i hi, ← h9, List.getElem?_take]
      simp [hi]
    exact ⟨by simp only [World.cell?, h5]; exact e, by simp [World.frozen?, h5]⟩
theorem Own32.set {w : World} {B g n cap : Nat} {xs : List Nat} (h : Own32 w B (.slice (some ⟨g, 0, none⟩) n cap) xs) (i d : Nat) (hi : i < xs.length) (hd : d < 4294967296) :
    Own32 (w.setCell ⟨g, i, none⟩ (.int .u32 (d : Int))) B (.slice (some ⟨g, 0, none⟩) n cap) (xs.set i d) := by
  obtain ⟨⟨h1, h2⟩, hx⟩ := h
  rcases h2 with ⟨h2, _⟩ | ⟨g', cap', cur, h3, h4, h5, h6, h7, h8, h9⟩
  · cases h2
  · cases h3
    refine ⟨⟨by simp [vals], Or.inr ⟨g, cap, cur.setIfInBounds i (.int .u32 (d : Int)), by simp, h4, ?_, by simpa using h6, h7, by simpa using h8, ?_⟩⟩, fun x hm => ?_⟩
    · simp [World.setCell, Array.getElem?_modify, h5]
    · rw [List.length_set, Array.toList_setIfInBounds, List.take_set, h9]
      simp [vals, List.map_set]
    · rcases List.mem_or_eq_of_mem_set hm with q | q
      · exact hx x q
      · omega

theorem grow_next {xs m : List Nat} {k c t M d c2 : Nat} (hk : k < m.length) (hg : m.getD k 0 = xs.getD k 0) (h : nv (m.take k) + 4294967296 ^ k * c = t * nv (xs.take k) + M) (e : c + xs.getD k 0 * t = d + 4294967296 * c2) :
    nv ((m.set k d).take (k + 1)) + 4294967296 ^ (k + 1) * c2 = t * nv (xs.take (k + 1)) + M := by
  rw [nv_take_succ, nv_take_succ, List.take_set_of_le (Nat.le_refl _), show (m.set k d).getD k 0 = d from by simp [List.getD, hk], Nat.pow_succ, Nat.mul_assoc, Nat.mul_add]
  have e2 : 4294967296 ^ k * c + 4294967296 ^ k * (xs.getD k 0 * t) = 4294967296 ^ k * d + 4294967296 ^ k * (4294967296 * c2) := by rw [← Nat.mul_add, ← Nat.mul_add, e]
  have e3 : t * (4294967296 ^ k * xs.getD k 0) = 4294967296 ^ k * (xs.getD k 0 * t) := by rw [Nat.mul_left_comm, Nat.mul_comm t]
  rw [e3]
  omega
theorem grow_right {xs m : List Nat} {t M : Nat} (hm : ∀ x ∈ m, x < 4294967296) (hr : rt xs = true) (hl : m.length = xs.length) (ht : 0 < t) (h : nv m = t * nv xs + M) : lo (nv m) = m := by
  refine lo_nv hm ?_
  by_cases h0 : m.length = 0
  · rw [List.eq_nil_of_length_eq_zero h0]; rfl
  · obtain ⟨l, hl2⟩ : ∃ l, xs.length = l + 1 := ⟨xs.length - 1, by omega⟩
    have a := nv_ge hr hl2
    have b : 1 * nv xs ≤ t * nv xs := Nat.mul_le_mul_right _ ht
    cases hc : rt m
    · have hlm : m.length = l + 1 := by omega
      rw [rt, hlm, Bool.or_eq_false_iff, decide_eq_false_iff_not, decide_eq_false_iff_not, Nat.add_sub_cancel] at hc
      obtain ⟨_, t2⟩ := top_one hm hlm
      rw [show m.getD l 0 = 0 from by omega, Nat.zero_add, Nat.one_mul] at t2
      omega
    · rfl
theorem grow_more {m : List Nat} {c : Nat} (hm : ∀ x ∈ m, x < 4294967296) (hc : 0 < c) (hc2 : c < 4294967296) : lo (nv m + 4294967296 ^ m.length * c) = m ++ [c] := by
  have e : nv (m ++ [c]) = nv m + 4294967296 ^ m.length * c := by rw [nv_append]; simp [nv]
  rw [← e]
  refine lo_nv (fun x hx => ?_) ?_
  · rcases List.mem_append.1 hx with g | g
    · exact hm x g
    · rw [List.mem_singleton] at g; omega
  · simp [rt, List.getD]; omega

def GrowIn (W : World) (xs : List Nat) (t M : Nat) (s0 s7 s14 : Value) (wr : World) : Prop :=
  ∃ (k c : Nat) (m : List Nat), s14 = .int .i64 (k : Int) ∧ s7 = .int .u64 (c : Int) ∧ k ≤ xs.length ∧ c < 4294967296 ∧ m.length = xs.length ∧ Own32 wr W.heap.size s0 m ∧ Keeps W wr ∧ (∀ i, k ≤ i → m.getD i 0 = xs.getD i 0) ∧ nv (m.take k) + 4294967296 ^ k * c = t * nv (xs.take k) + M
def GrewIn (W : World) (N : Nat) (e : Ending) (w' : World) : Prop := ∃ v', e = .returned v' ∧ Own32 w' W.heap.size v' (lo N) ∧ Keeps W w'

set_option maxHeartbeats 2000000 in
set_option maxRecDepth 100000 in
theorem own_grow (W : World) (v : Value) (xs : List Nat) (t M : Nat) (w : World) (lx : xs.length ≤ 1000) (ht : 0 < t) (ht2 : t < 4294967296) (hM : M < 4294967296) (hr : rt xs = true) (h : Own32 w W.heap.size v xs) (hk : Keeps W w) :
    Calls Try.prog 47 #[v, .int .u32 t, .int .u32 M] w (GrewIn W (t * nv xs + M)) := by
  obtain ⟨i0, hi, hz0, hz1, hz2⟩ := info_parts info32
  have hH := h.holds
  obtain ⟨_, ao, len, cap, rfl, e1, e2, e3, _⟩ := hH
  subst e1
  have HO := Lib.hid h
  have HK := Lib.hid hk
  have HRT := Lib.hid hr
  clear h hk hr e3
  go_enter Try.func47, Try.ntmps47
  go_wp2_with fail
  go_loopw [7, 14] (fun s7 s14 wr => GrowIn W xs t M (.slice ao xs.length cap) s7 s14 wr) (fun _ s14 _ => xs.length - (intOf s14).toNat)
  case atStart => exact ⟨0, M, xs, rfl, rfl, Nat.zero_le _, hM, rfl, HO.out, HK.out, fun _ _ => rfl, by simp [nv]⟩
  case round =>
    clear HO HK hM
    obtain ⟨k, c, m, rfl, rfl, hk, hc, hml, hO, hK, hg, hI⟩ := hrel
    by_cases g1 : (k : Int) < (xs.length : Int)
    · have hP := hO.parts (by omega)
      rw [hml] at hP
      obtain ⟨g, cap', e, hgB⟩ := hP
      cases e
      obtain ⟨cx, fx⟩ := hO.cell k (by omega)
      have hx := hO.lt k
      rw [hg k (Nat.le_refl _)] at cx hx
      have hN := fun d c2 e => grow_next (d := d) (c2 := c2) (show k < m.length by omega) (hg k (Nat.le_refl _)) hI e
      obtain ⟨x, ex⟩ : ∃ x, x = xs.getD k 0 := ⟨_, rfl⟩
      rw [← ex] at cx hx hN
      have hp : x * t ≤ 4294967295 * 4294967295 := Nat.mul_le_mul (by omega) (by omega)
      have v1 : IntKind.u64.wrap ((x : Int) * (t : Int)) = ((x * t : Nat) : Int) := by rw [IntKind.wrap_u64, Int.natCast_mul]; rw [← Int.natCast_mul]; omega
      obtain ⟨p, ep⟩ : ∃ p, p = x * t := ⟨_, rfl⟩
      rw [← ep] at v1 hN hp
      obtain ⟨d, ed⟩ : ∃ d, d = (c + p) % 4294967296 := ⟨_, rfl⟩
      obtain ⟨c2, ec2⟩ : ∃ c2, c2 = (c + p) / 4294967296 := ⟨_, rfl⟩
      have f1 : ((c : Int) + (p : Int)) % 4294967296 = (d : Int) := by omega
      have f2 : ((c : Int) + (p : Int)) / 4294967296 = (c2 : Int) := by omega
      have hd : d < 4294967296 := by omega
      have hc2 : c2 < 4294967296 := by omega
      have HN := Lib.hid (hN d c2 (by omega))
      have HO := Lib.hid (hO.set k d (by omega) hd)
      have HK := Lib.hid (keeps_set (G := g) (i := k) (v := .int .u32 (d : Int)) hK hgB)
      have HML := Lib.hid (show (m.set k d).length = xs.length by rw [List.length_set]; exact hml)
      have HG := Lib.hid (show ∀ i, k + 1 ≤ i → (m.set k d).getD i 0 = xs.getD i 0 from fun i hi => by
        rw [← hg i (by omega)]
        have hne : k ≠ i := by omega
        simp [List.getD, List.getElem?_set_ne hne])
      clear hN hO hK hml hg hI ex ep ed ec2
      go_wp2_with fail
      go_roundw
      case rel => exact ⟨k + 1, c2, _, by go_num, rfl, by omega, hc2, HML.out, HO.out, HK.out, HG.out, HN.out⟩
      case measure => simp [intOf]; omega
    · obtain rfl : k = xs.length := by omega
      rw [List.take_of_length_le (Nat.le_of_eq hml), List.take_length] at hI
      by_cases hc0 : (0 : Int) < (c : Int)
      · have hgm := grow_more hO.2 (show 0 < c by omega) hc
        rw [hml, hI] at hgm
        have hO1 : wr.ownsRow W.heap.size 41 1 (.slice ao xs.length cap) xs.length (vals m) := by have q := hO.1; rw [hml] at q; exact q
        have HM := Lib.hid hml
        have HX := Lib.hid hO.2
        have HO := Lib.hid hO1
        have HK := Lib.hid hK
        have HGM := Lib.hid hgm
        have f0 : (c : Int) % 4294967296 = (c : Int) := by omega
        clear hO hO1 hK hg hI hgm hml
        go_wp2_with (at_builtin; refine wpList_append_own _ rfl (.tmp 36) (.tmp 39) 22 rfl W.heap.size 41 i0 (.int .u32 0) 1 4 Try.underlying22 hi hz0 hz1 hz2 rfl (by decide) _ xs.length _ rfl (HO.out.alloc _) ⟨_, 0, none⟩ 1 1 [.int .u32 (c : Int)] rfl ?c1 ?c2 ?c3 ?c4 ?c5 ?c6 ?_)
        case c3 => first | rfl | (intro u hu; rw [List.mem_singleton] at hu; subst hu; rfl)
        case c4 => unfold maxLen; omega
        case c5 => omega
        case c6 => have := HK.out.size; first | omega | (rw [World.size_alloc]; omega)
        intro v' w1 ho hgr _
        have HO2 := Lib.hid ho
        have HK2 := Lib.hid (keeps_grown HK.out HO.out hgr)
        clear ho hgr
        go_wp2_with fail
        go_ret
        refine ⟨v', rfl, ?_, HK2.out⟩
        rw [HGM.out]
        refine ⟨?_, fun x hx => ?_⟩
        · have o := HO2.out
          rw [show vals m ++ [Value.int .u32 (c : Int)] = vals (m ++ [c]) from by simp [vals]] at o
          rw [List.length_append, HM.out]; exact o
        · rcases List.mem_append.1 hx with g | g
          · exact HX.out x g
          · rw [List.mem_singleton] at g; omega
      · obtain rfl : c = 0 := by omega
        rw [Nat.mul_zero, Nat.add_zero] at hI
        have hgr := grow_right hO.2 HRT.out hml ht hI
        rw [hI] at hgr
        have HO := Lib.hid hO
        have HK := Lib.hid hK
        have HGR := Lib.hid hgr
        clear hO hK hg hI hgr hml
        go_wp2_with fail
        go_ret
        exact ⟨_, rfl, by rw [HGR.out]; exact HO.out, HK.out⟩
end Go.Proofs.Ytjegjdefeflijaa
