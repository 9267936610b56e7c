/- A part of a row of the call's own, reckoned with in place: the contract of package nat's addTimes. -/
import Derived.Test.YtjegjdefeflijaaNatDiv
import Derived.Test.YtjegjdefeflijaaNatKnuth
set_option linter.unusedVariables false
namespace Go.Proofs.Ytjegjdefeflijaa
open Go.RowKit Go.NatMath

/-- From w to w' block G alone was written, and no memory made. -/
def Only (G : Nat) (w w' : World) : Prop :=
  w'.heap.size = w.heap.size ∧ (∀ W, Keeps W w → W.heap.size ≤ G → Keeps W w') ∧ (∀ H, H ≠ G → w'.heap[H]? = w.heap[H]?)
theorem Only.refl (G : Nat) (w : World) : Only G w w := ⟨rfl, fun _ h _ => h, fun _ _ => rfl⟩
theorem Only.trans {G : Nat} {a b c : World} (h : Only G a b) (k : Only G b c) : Only G a c :=
  ⟨k.1.trans h.1, fun W x y => k.2.1 W (h.2.1 W x y) y, fun H x => (k.2.2 H x).trans (h.2.2 H x)⟩
theorem Only.set {G : Nat} {a b : World} (h : Only G a b) (i : Nat) (v : Value) : Only G a (b.setCell ⟨G, i, none⟩ v) :=
  ⟨by rw [← h.1]; simp [World.setCell], fun W x y => keeps_set (h.2.1 W x y) y, fun H x => (Below.heap_setCell _ _ _ _ x).trans (h.2.2 H x)⟩
theorem Only.drewN {G : Nat} {a b : World} (h : Only G a b) (n : Nat) : Only G a (b.drewN n) := ⟨h.1, fun W x y => (h.2.1 W x y).drewN n, h.2.2⟩
theorem Only.holds {G : Nat} {w w' : World} (k : Only G w w') {v : Value} {xs : List Nat} (h : Holds32 w v xs) (ha : xs.length = 0 ∨ Apart G v) : Holds32 w' v xs := by
  obtain ⟨h1, ao, len, cap, rfl, h3, h4, h5, h6⟩ := h
  refine ⟨h1, ao, len, cap, rfl, h3, h4, h5, ?_⟩
  rcases h6 with h6 | ⟨b, off, h7, h8, h9⟩
  · exact Or.inl h6
  · subst h7
    rcases ha with ha | ha
    · exact Or.inl (by omega)
    have hne := ha b off len cap rfl
    refine Or.inr ⟨b, off, rfl, by rw [k.1]; exact h8, fun j hj => ?_⟩
    rw [← h9 j hj]
    simp only [World.cell?, k.2.2 b hne]
theorem Only.row {G : Nat} {w w' : World} (k : Only G w w') {H : Nat} {os : List Nat} (h : Row32 w H os) (hn : H ≠ G) : Row32 w' H os := ⟨h.1, (k.2.2 H hn).trans h.2⟩
theorem Only.keeps {G : Nat} {W w w' : World} (k : Only G w w') (h : Keeps W w) (hG : W.heap.size ≤ G) : Keeps W w' := k.2.1 W h hG

theorem getD_mid (pre mid post : List Nat) (i : Nat) (hi : i < mid.length) : (pre ++ mid ++ post).getD (pre.length + i) 0 = mid.getD i 0 := by
  simp only [List.getD_eq_getElem?_getD]
  rw [List.append_assoc, List.getElem?_append_right (by omega), Nat.add_sub_cancel_left, List.getElem?_append_left hi]
theorem set_mid (pre mid post : List Nat) (i d : Nat) (hi : i < mid.length) : (pre ++ mid ++ post).set (pre.length + i) d = pre ++ mid.set i d ++ post := by
  rw [List.append_assoc, List.set_append_right _ _ (by omega), Nat.add_sub_cancel_left, List.set_append_left _ _ hi, List.append_assoc]
theorem Row32.mid {w : World} {G off : Nat} {pre mid post : List Nat} (h : Row32 w G (pre ++ mid ++ post)) (ho : pre.length = off) (i : Nat) (hi : i < mid.length) : w.cell? ⟨G, off + i, none⟩ = some (.int .u32 ((mid.getD i 0 : Nat) : Int)) := by
  rw [← ho, h.cell _ (by simp; omega), getD_mid _ _ _ _ hi]
theorem Row32.midset {w : World} {G off : Nat} {pre mid post : List Nat} (h : Row32 w G (pre ++ mid ++ post)) (ho : pre.length = off) (i d : Nat) (hi : i < mid.length) (hd : d < 4294967296) : Row32 (w.setCell ⟨G, off + i, none⟩ (.int .u32 (d : Int))) G (pre ++ mid.set i d ++ post) := by
  rw [← ho, ← set_mid _ _ _ _ _ hi]; exact h.set _ _ hd
theorem Row32.midlt {w : World} {G : Nat} {pre mid post : List Nat} (h : Row32 w G (pre ++ mid ++ post)) : ∀ x ∈ mid, x < 4294967296 := fun x hx => h.1 x (by simp [hx])
theorem Row32.midgetD {w : World} {G : Nat} {pre mid post : List Nat} (h : Row32 w G (pre ++ mid ++ post)) (i : Nat) : mid.getD i 0 < 4294967296 := by
  by_cases hi : i < mid.length
  · have := h.midlt (mid[i]) (List.getElem_mem hi); simpa [List.getD, hi] using this
  · simp [List.getD, hi]

/-- What addTimes and takeTimes leave: the part's new digits, and whether one is carried. -/
def InPlace (w : World) (G : Nat) (pre post : List Nat) (n : Nat) (P : List Nat → Nat → Prop) (e : Ending) (w' : World) : Prop :=
  ∃ (m : List Nat) (c : Nat), e = .returned (.bool (decide (0 < c))) ∧ m.length = n ∧ Row32 w' G (pre ++ m ++ post) ∧ Only G w w' ∧ P m c

def AddAtIn (w : World) (G : Nat) (pre mid post ys : List Nat) (t : Nat) (s7 s13 : Value) (wr : World) : Prop :=
  ∃ (k c : Nat) (m : List Nat), s13 = .int .i64 (k : Int) ∧ s7 = .int .u64 (c : Int) ∧ k ≤ ys.length ∧ c < 4294967296 ∧ m.length = mid.length ∧ Row32 wr G (pre ++ m ++ post) ∧ Only G w wr ∧ nv m + 4294967296 ^ k * c = nv mid + t * nv (ys.take k)
def CarryAtIn (w : World) (G : Nat) (pre mid post ys : List Nat) (t : Nat) (s7 s10 : Value) (wr : World) : Prop :=
  ∃ (k c : Nat) (m : List Nat), s10 = .int .i64 (k : Int) ∧ s7 = .int .u64 (c : Int) ∧ k ≤ mid.length ∧ c < 4294967296 ∧ m.length = mid.length ∧ Row32 wr G (pre ++ m ++ post) ∧ Only G w wr ∧ nv m + 4294967296 ^ k * c = nv mid + t * nv ys

set_option maxHeartbeats 1000000 in
theorem nat_addTimes (G off cap t : Nat) (vb : Value) (pre mid post ys : List Nat) (w : World) (ho : pre.length = off) (hm : pre.length + mid.length ≤ 1000000) (h : Row32 w G (pre ++ mid ++ post)) (hb : Holds32 w vb ys) (ha : ys.length = 0 ∨ Apart G vb) (hl : ys.length ≤ mid.length) (ht : t < 4294967296) :
    Calls Try.prog 42 #[.slice (some ⟨G, off, none⟩) mid.length cap, vb, .int .u32 t] w (InPlace w G pre post mid.length (fun m c => nv m + 4294967296 ^ mid.length * c = nv mid + t * nv ys)) := by
  have hb9 := Lib.hid hb
  obtain ⟨_, bo, len, cap2, rfl, h2, h3, h4, h5⟩ := hb
  subst h2
  have hm1 : mid.length ≤ 1000000 := by omega
  have H := Lib.hid h
  have HA := Lib.hid ha
  have HO := Lib.hid ho
  clear h ha h5 h4 hm ho
  go_enter Try.func42, Try.ntmps42
  go_wp2_with fail
  go_loopw [7, 13] (fun s7 s13 wr => AddAtIn w G pre mid post ys t s7 s13 wr) (fun _ s13 _ => ys.length - (intOf s13).toNat)
  case atStart => exact ⟨0, 0, mid, rfl, rfl, Nat.zero_le _, by omega, rfl, H.out, Only.refl _ _, by simp [nv]⟩
  case round =>
    obtain ⟨k, c, m, rfl, rfl, hk, hc, hml, hR, hO, hI⟩ := hrel
    by_cases g1 : (k : Int) < (ys.length : Int)
    · have hkm : k < m.length := by omega
      have hB := hO.holds hb9.out HA.out
      obtain ⟨_, ao', len', cap', e1, e2, e3, e4, e5⟩ := hB
      cases e1
      rcases e5 with e5 | ⟨b, boff, rfl, h6, h7⟩
      · omega
      · have cy := h7 k (by omega)
        have hy := hb9.out.lt k
        have cx := hR.mid HO.out k hkm
        have hx := hR.midgetD k
        have fx := hR.free (off + k)
        have hN := fun d c2 e => add_next (c2 := c2) (d := d) hkm hI e
        obtain ⟨x, ex⟩ : ∃ x, x = m.getD k 0 := ⟨_, rfl⟩
        obtain ⟨y, ey⟩ : ∃ y, y = ys.getD k 0 := ⟨_, rfl⟩
        rw [← ex] at cx hx
        rw [← ey] at cy hy
        rw [← ex, ← ey] at hN
        have hp : y * t ≤ 4294967295 * 4294967295 := Nat.mul_le_mul (by omega) (by omega)
        have v1 : IntKind.u64.wrap ((y : Int) * (t : Int)) = ((y * t : Nat) : Int) := by rw [IntKind.wrap_u64, Int.natCast_mul]; rw [← Int.natCast_mul]; omega
        obtain ⟨p, ep⟩ : ∃ p, p = y * t := ⟨_, rfl⟩
        rw [← ep] at v1 hN hp
        obtain ⟨d, ed⟩ : ∃ d, d = (c + p + x) % 4294967296 := ⟨_, rfl⟩
        obtain ⟨c2, ec2⟩ : ∃ c2, c2 = (c + p + x) / 4294967296 := ⟨_, rfl⟩
        have f1 : ((c : Int) + ((p : Int) + (x : Int))) % 4294967296 = (d : Int) := by omega
        have f2 : ((c : Int) + ((p : Int) + (x : Int))) / 4294967296 = (c2 : Int) := by omega
        have hd : d < 4294967296 := by omega
        have hc2 : c2 < 4294967296 := by omega
        have HN := Lib.hid (hN d c2 (by omega))
        have HR := Lib.hid hR
        have HOO := Lib.hid hO
        have HML := Lib.hid hml
        have HKM := Lib.hid hkm
        clear hN hR hO hI hml hkm ex ey ep ed ec2 h7 e4
        go_wp2_with fail
        go_roundw
        case rel => exact ⟨k + 1, c2, m.set k d, by go_num, rfl, by omega, hc2, by rw [List.length_set]; exact HML.out, HR.out.midset HO.out k d HKM.out hd, HOO.out.set _ _, HN.out⟩
        case measure => simp [intOf]; omega
    · obtain rfl : k = ys.length := by omega
      rw [List.take_of_length_le (Nat.le_refl _)] at hI
      have HR := Lib.hid hR
      have HOO := Lib.hid hO
      have HML := Lib.hid hml
      have HI := Lib.hid hI
      clear hR hO hml hI
      go_wp2_with fail
      go_loopw [7, 10] (fun s7 s10 wr => CarryAtIn w G pre mid post ys t s7 s10 wr) (fun _ s10 _ => mid.length - (intOf s10).toNat)
      case atStart => exact ⟨ys.length, c, m, rfl, rfl, hl, hc, HML.out, HR.out, HOO.out, HI.out⟩
      case round =>
        clear HR HOO HML HI hc
        obtain ⟨k, c, m, rfl, rfl, hk, hc, hml, hR, hO, hI⟩ := hrel
        by_cases g2 : (k : Int) < (mid.length : Int)
        · by_cases g3 : (0 : Int) < (c : Int)
          · have hkm : k < m.length := by omega
            have cx := hR.mid HO.out k hkm
            have hx := hR.midgetD k
            have fx := hR.free (off + k)
            have hN := fun d c2 e => carry_next (c2 := c2) (d := d) hkm hI e
            obtain ⟨x, ex⟩ : ∃ x, x = m.getD k 0 := ⟨_, rfl⟩
            rw [← ex] at cx hx
            rw [← ex] at hN
            obtain ⟨d, ed⟩ : ∃ d, d = (c + x) % 4294967296 := ⟨_, rfl⟩
            obtain ⟨c2, ec2⟩ : ∃ c2, c2 = (c + x) / 4294967296 := ⟨_, rfl⟩
            have f1 : ((c : Int) + (x : Int)) % 4294967296 = (d : Int) := by omega
            have f2 : ((c : Int) + (x : Int)) / 4294967296 = (c2 : Int) := by omega
            have hd : d < 4294967296 := by omega
            have hc2 : c2 < 4294967296 := by omega
            have HN := Lib.hid (hN d c2 (by omega))
            have HR := Lib.hid hR
            have HOO := Lib.hid hO
            have HML := Lib.hid hml
            have HKM := Lib.hid hkm
            clear hN hR hO hI hml hkm ex ed ec2
            go_wp2_with fail
            go_roundw
            case rel => exact ⟨k + 1, c2, m.set k d, by go_num, rfl, by omega, hc2, by rw [List.length_set]; exact HML.out, HR.out.midset HO.out k d HKM.out hd, HOO.out.set _ _, HN.out⟩
            case measure => simp [intOf]; omega
          · obtain rfl : c = 0 := by omega
            have HR := Lib.hid hR
            have HOO := Lib.hid hO
            have HML := Lib.hid hml
            have HI := Lib.hid (show nv m + 4294967296 ^ mid.length * 0 = nv mid + t * nv ys by rw [Nat.mul_zero] at hI ⊢; exact hI)
            clear hR hO hml hI
            go_wp2_with fail
            go_ret
            exact ⟨m, 0, rfl, HML.out, HR.out, HOO.out, HI.out⟩
        · obtain rfl : k = mid.length := by omega
          have HR := Lib.hid hR
          have HOO := Lib.hid hO
          have HML := Lib.hid hml
          have HI := Lib.hid hI
          clear hR hO hml hI
          go_wp2_with fail
          go_ret
          exact ⟨m, c, by congr 2, HML.out, HR.out, HOO.out, HI.out⟩
end Go.Proofs.Ytjegjdefeflijaa
