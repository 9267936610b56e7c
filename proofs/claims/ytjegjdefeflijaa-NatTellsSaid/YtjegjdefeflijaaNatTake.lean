/- The contracts of package nat's takeTimes and divide: a part of a row, reckoned with in place. -/
import Derived.Test.YtjegjdefeflijaaNatPart
set_option linter.unusedVariables false
set_option linter.unusedSimpArgs false
namespace Go.Proofs.Ytjegjdefeflijaa
open Go.RowKit Go.NatMath

def TakeAtIn (w : World) (G : Nat) (pre mid post ys : List Nat) (t : Nat) (s7 s15 : Value) (wr : World) : Prop :=
  ∃ (k c : Nat) (m : List Nat), s15 = .int .i64 (k : Int) ∧ s7 = .int .u64 (c : Int) ∧ k ≤ ys.length ∧ c < 4294967296 ∧ m.length = mid.length ∧ Row32 wr G (pre ++ m ++ post) ∧ Only G w wr ∧ nv m + t * nv (ys.take k) = nv mid + 4294967296 ^ k * c
def OweAtIn (w : World) (G : Nat) (pre mid post ys : List Nat) (t : Nat) (s7 s11 : Value) (wr : World) : Prop :=
  ∃ (k c : Nat) (m : List Nat), s11 = .int .i64 (k : Int) ∧ s7 = .int .u64 (c : Int) ∧ k ≤ mid.length ∧ c < 4294967296 ∧ m.length = mid.length ∧ Row32 wr G (pre ++ m ++ post) ∧ Only G w wr ∧ nv m + t * nv ys = nv mid + 4294967296 ^ k * c

set_option maxHeartbeats 2000000 in
set_option maxRecDepth 100000 in
theorem nat_takeTimes (G off cap t : Nat) (vb : Value) (pre mid post ys : List Nat) (w : World) (ho : pre.length = off) (hm : pre.length + mid.length ≤ 1000000) (h : Row32 w G (pre ++ mid ++ post)) (hb : Holds32 w vb ys) (ha : ys.length = 0 ∨ Apart G vb) (hl : ys.length ≤ mid.length) (ht : t < 4294967296) :
    Calls Try.prog 36 #[.slice (some ⟨G, off, none⟩) mid.length cap, vb, .int .u32 t] w (InPlace w G pre post mid.length (fun m c => nv m + t * nv ys = nv mid + 4294967296 ^ mid.length * c)) := by
  have hb9 := Lib.hid hb
  obtain ⟨_, bo, len, cap2, rfl, h2, h3, h4, h5⟩ := hb
  subst h2
  have hm1 : mid.length ≤ 1000000 := by omega
  have H := Lib.hid h
  have HA := Lib.hid ha
  have HO := Lib.hid ho
  clear h ha h5 h4 hm ho
  go_enter Try.func36, Try.ntmps36
  go_wp2_with fail
  go_loopw [7, 15] (fun s7 s15 wr => TakeAtIn w G pre mid post ys t s7 s15 wr) (fun _ s15 _ => ys.length - (intOf s15).toNat)
  case atStart => exact ⟨0, 0, mid, rfl, rfl, Nat.zero_le _, by omega, rfl, H.out, Only.refl _ _, by simp [nv]⟩
  case round =>
    obtain ⟨k, c, m, rfl, rfl, hk, hc, hml, hR, hO, hI⟩ := hrel
    by_cases g1 : (k : Int) < (ys.length : Int)
    · have hkm : k < m.length := by omega
      have hB := hO.holds hb9.out HA.out
      obtain ⟨_, ao', len', cap', e1, e2, e3, e4, e5⟩ := hB
      cases e1
      rcases e5 with e5 | ⟨b, boff, rfl, h6, h7⟩
      · omega
      · have cy := h7 k (by omega)
        have hy := hb9.out.lt k
        have cx := hR.mid HO.out k hkm
        have hx := hR.midgetD k
        have fx := hR.free (off + k)
        have hN := fun d c2 e => take_next (c2 := c2) (d := d) hkm hI e
        obtain ⟨x, ex⟩ : ∃ x, x = m.getD k 0 := ⟨_, rfl⟩
        obtain ⟨y, ey⟩ : ∃ y, y = ys.getD k 0 := ⟨_, rfl⟩
        rw [← ex] at cx hx
        rw [← ey] at cy hy
        rw [← ex, ← ey] at hN
        have hp : y * t ≤ 4294967295 * 4294967295 := Nat.mul_le_mul (by omega) (by omega)
        have v1 : IntKind.u64.wrap ((y : Int) * (t : Int)) = ((y * t : Nat) : Int) := by rw [IntKind.wrap_u64, Int.natCast_mul]; rw [← Int.natCast_mul]; omega
        obtain ⟨p, ep⟩ : ∃ p, p = y * t := ⟨_, rfl⟩
        rw [← ep] at v1 hN hp
        obtain ⟨l, el⟩ : ∃ l, l = (c + p) % 4294967296 := ⟨_, rfl⟩
        obtain ⟨q, eq⟩ : ∃ q, q = (c + p) / 4294967296 := ⟨_, rfl⟩
        have f1 : ((c : Int) + (p : Int)) % 4294967296 = (l : Int) := by omega
        have f2 : ((c : Int) + (p : Int)) / 4294967296 = (q : Int) := by omega
        have hl1 : l < 4294967296 := by omega
        have HR := Lib.hid hR
        have HOO := Lib.hid hO
        have HML := Lib.hid hml
        have HKM := Lib.hid hkm
        by_cases g2 : (x : Int) < (l : Int)
        · have hq : q + 1 < 4294967296 := by omega
          have HN := Lib.hid (hN (x + 4294967296 - l) (q + 1) (by omega))
          have f3 : IntKind.u32.wrap ((x : Int) - (l : Int)) = ((x + 4294967296 - l : Nat) : Int) := by rw [IntKind.wrap_u32]; omega
          have hd : x + 4294967296 - l < 4294967296 := by omega
          generalize x + 4294967296 - l = d at *
          clear hN hR hO hI hml hkm ex ey ep el eq h7 e4
          go_wp2_with fail
          go_roundw
          case rel => exact ⟨k + 1, q + 1, m.set k d, by go_num, by go_num, by omega, hq, by rw [List.length_set]; exact HML.out, HR.out.midset HO.out k d HKM.out hd, HOO.out.set _ _, HN.out⟩
          case measure => simp [intOf]; omega
        · have hq : q < 4294967296 := by omega
          have HN := Lib.hid (hN (x - l) q (by omega))
          have f3 : (x : Int) - (l : Int) = ((x - l : Nat) : Int) := by omega
          have hd : x - l < 4294967296 := by omega
          generalize x - l = d at *
          clear hN hR hO hI hml hkm ex ey ep el eq h7 e4
          go_wp2_with fail
          go_roundw
          case rel => exact ⟨k + 1, q, m.set k d, by go_num, rfl, by omega, hq, by rw [List.length_set]; exact HML.out, HR.out.midset HO.out k d HKM.out hd, HOO.out.set _ _, HN.out⟩
          case measure => simp [intOf]; omega
    · obtain rfl : k = ys.length := by omega
      rw [List.take_of_length_le (Nat.le_refl _)] at hI
      have HR := Lib.hid hR
      have HOO := Lib.hid hO
      have HML := Lib.hid hml
      have HI := Lib.hid hI
      clear hR hO hml hI
      go_wp2_with fail
      go_loopw [7, 11] (fun s7 s11 wr => OweAtIn w G pre mid post ys t s7 s11 wr) (fun _ s11 _ => mid.length - (intOf s11).toNat)
      case atStart => exact ⟨ys.length, c, m, rfl, rfl, hl, hc, HML.out, HR.out, HOO.out, HI.out⟩
      case round =>
        clear HR HOO HML HI hc
        obtain ⟨k, c, m, rfl, rfl, hk, hc, hml, hR, hO, hI⟩ := hrel
        by_cases g2 : (k : Int) < (mid.length : Int)
        · by_cases g3 : (0 : Int) < (c : Int)
          · have hkm : k < m.length := by omega
            have cx := hR.mid HO.out k hkm
            have hx := hR.midgetD k
            have fx := hR.free (off + k)
            have hN := fun d c2 e => owe_next (c2 := c2) (d := d) hkm hI e
            obtain ⟨x, ex⟩ : ∃ x, x = m.getD k 0 := ⟨_, rfl⟩
            rw [← ex] at cx hx
            rw [← ex] at hN
            have f0 : (c : Int) % 4294967296 = (c : Int) := by omega
            have HR := Lib.hid hR
            have HOO := Lib.hid hO
            have HML := Lib.hid hml
            have HKM := Lib.hid hkm
            by_cases g4 : (x : Int) < (c : Int)
            · have HN := Lib.hid (hN (x + 4294967296 - c) 1 (by omega))
              have f3 : IntKind.u32.wrap ((x : Int) - (c : Int)) = ((x + 4294967296 - c : Nat) : Int) := by rw [IntKind.wrap_u32]; omega
              have hd : x + 4294967296 - c < 4294967296 := by omega
              generalize x + 4294967296 - c = d at *
              clear hN hR hO hI hml hkm ex
              go_wp2_with fail
              go_roundw
              case rel => exact ⟨k + 1, 1, m.set k d, by go_num, rfl, by omega, by omega, by rw [List.length_set]; exact HML.out, HR.out.midset HO.out k d HKM.out hd, HOO.out.set _ _, HN.out⟩
              case measure => simp [intOf]; omega
            · have HN := Lib.hid (hN (x - c) 0 (by omega))
              have f3 : (x : Int) - (c : Int) = ((x - c : Nat) : Int) := by omega
              have hd : x - c < 4294967296 := by omega
              generalize x - c = d at *
              clear hN hR hO hI hml hkm ex
              go_wp2_with fail
              go_roundw
              case rel => exact ⟨k + 1, 0, m.set k d, by go_num, rfl, by omega, by omega, by rw [List.length_set]; exact HML.out, HR.out.midset HO.out k d HKM.out hd, HOO.out.set _ _, HN.out⟩
              case measure => simp [intOf]; omega
          · obtain rfl : c = 0 := by omega
            have HR := Lib.hid hR
            have HOO := Lib.hid hO
            have HML := Lib.hid hml
            have HI := Lib.hid (show nv m + t * nv ys = nv mid + 4294967296 ^ mid.length * 0 by rw [Nat.mul_zero] at hI ⊢; exact hI)
            clear hR hO hml hI
            go_wp2_with fail
            go_ret
            exact ⟨m, 0, rfl, HML.out, HR.out, HOO.out, HI.out⟩
        · obtain rfl : k = mid.length := by omega
          have HR := Lib.hid hR
          have HOO := Lib.hid hO
          have HML := Lib.hid hml
          have HI := Lib.hid hI
          clear hR hO hml hI
          go_wp2_with fail
          go_ret
          exact ⟨m, c, by congr 2, HML.out, HR.out, HOO.out, HI.out⟩

/-- What divide leaves: the part's quotient, and what is left, which is told. -/
def DividesIn (w : World) (G : Nat) (pre mid post : List Nat) (b : Nat) (e : Ending) (w' : World) : Prop :=
  ∃ (m : List Nat) (r : Nat), e = .returned (.int .u32 (r : Int)) ∧ m.length = mid.length ∧ Row32 w' G (pre ++ m ++ post) ∧ Only G w w' ∧ nv mid = b * nv m + r ∧ r < b
def DivideAtIn (w : World) (G : Nat) (pre mid post : List Nat) (b : Nat) (s5 s6 : Value) (wr : World) : Prop :=
  ∃ (k r : Nat) (m : List Nat), s6 = .int .i64 ((k : Int) - 1) ∧ s5 = .int .u64 (r : Int) ∧ k ≤ mid.length ∧ r < b ∧ m.length = mid.length ∧ Row32 wr G (pre ++ m ++ post) ∧ Only G w wr ∧ nv mid + b * nv (m.take k) = b * nv m + 4294967296 ^ k * r + nv (m.take k)

theorem u64_or_low (r x : Nat) (hr : r < 4294967296) (hx : x < 4294967296) : bits .or .u64 ((r : Int) * 4294967296) (x : Int) = (r : Int) * 4294967296 + (x : Int) := by
  have h1 : (BitVec.ofInt 64 ((r : Int) * 4294967296)).toNat = r * 4294967296 := by
    rw [show (r : Int) * 4294967296 = ((r * 4294967296 : Nat) : Int) from by omega, BitVec.ofInt_natCast, BitVec.toNat_ofNat]; exact Nat.mod_eq_of_lt (by omega)
  have h2 : (BitVec.ofInt 64 (x : Int)).toNat = x := by
    rw [BitVec.ofInt_natCast, BitVec.toNat_ofNat]; exact Nat.mod_eq_of_lt (by omega)
  have h3 : r * 4294967296 ||| x = r * 4294967296 + x := by
    rw [Nat.mul_comm, show 4294967296 = 2 ^ 32 from rfl, Nat.two_pow_add_eq_or_of_lt (by omega)]
  show IntKind.u64.wrap ((BitVec.ofInt 64 ((r : Int) * 4294967296) ||| BitVec.ofInt 64 (x : Int)).toNat : Int) = _
  rw [BitVec.toNat_or, h1, h2, h3, IntKind.wrap_u64]
  omega

set_option maxHeartbeats 1000000 in
theorem nat_divide (G off cap b : Nat) (pre mid post : List Nat) (w : World) (ho : pre.length = off) (hm : pre.length + mid.length ≤ 1000000) (h : Row32 w G (pre ++ mid ++ post)) (hb : 0 < b) (hb2 : b < 4294967296) :
    Calls Try.prog 44 #[.slice (some ⟨G, off, none⟩) mid.length cap, .int .u32 b] w (DividesIn w G pre mid post b) := by
  have hm1 : mid.length ≤ 1000000 := by omega
  have H := Lib.hid h
  have HO := Lib.hid ho
  clear h hm ho
  go_enter Try.func44, Try.ntmps44
  go_wp2_with fail
  go_loopw [5, 6] (fun s5 s6 wr => DivideAtIn w G pre mid post b s5 s6 wr) (fun _ s6 _ => (intOf s6 + 1).toNat)
  case atStart => exact ⟨mid.length, 0, mid, rfl, rfl, Nat.le_refl _, hb, rfl, H.out, Only.refl _ _, by rw [List.take_of_length_le (Nat.le_refl _)]; omega⟩
  case round =>
    obtain ⟨k, r, m, rfl, rfl, hk, hr, hml, hR, hO, hI⟩ := hrel
    by_cases g1 : (1 : Int) ≤ (k : Int)
    · obtain ⟨j, rfl⟩ : ∃ j, k = j + 1 := ⟨k - 1, by omega⟩
      have hkm : j < m.length := by omega
      have cx := hR.mid HO.out j hkm
      have hx := hR.midgetD j
      have fx := hR.free (off + j)
      have hN := fun q r2 e => div_next (q := q) (r2 := r2) hkm hI e
      obtain ⟨x, ex⟩ : ∃ x, x = m.getD j 0 := ⟨_, rfl⟩
      rw [← ex] at cx hx
      rw [← ex] at hN
      have e0 : ((j + 1 : Nat) : Int) - 1 = (j : Int) := by omega
      have f0 := u64_or_low r x (by omega) hx
      obtain ⟨n, en⟩ : ∃ n, n = r * 4294967296 + x := ⟨_, rfl⟩
      rw [show (r : Int) * 4294967296 + (x : Int) = (n : Int) from by omega] at f0
      have hn : n < 18446744073709551616 := by omega
      have hq : n / b < 4294967296 := by
        rw [Nat.div_lt_iff_lt_mul hb]
        have : (r + 1) * 4294967296 ≤ b * 4294967296 := Nat.mul_le_mul_right _ hr
        omega
      have hr2 : n % b < b := Nat.mod_lt _ hb
      have hdm := Nat.div_add_mod n b
      have f1 : (n : Int) / (b : Int) = ((n / b : Nat) : Int) := by simp
      have f2 : (n : Int) % (b : Int) = ((n % b : Nat) : Int) := by simp
      have HN := Lib.hid (hN (n / b) (n % b) (by omega))
      generalize n / b = q at *
      generalize n % b = r2 at *
      have HR := Lib.hid hR
      have HOO := Lib.hid hO
      have HML := Lib.hid hml
      have HKM := Lib.hid hkm
      have bz : ((b : Int) == 0) = false := by simp; omega
      clear hN hR hO hI hml hkm ex en hdm
      go_wp2_with fail
      go_roundw
      case rel => exact ⟨j, r2, m.set j q, rfl, (by first | rfl | rw [f2]), by omega, hr2, by rw [List.length_set]; exact HML.out, HR.out.midset HO.out j q HKM.out hq, HOO.out.set _ _, HN.out⟩
      case measure => simp [intOf]
    · obtain rfl : k = 0 := by omega
      have HR := Lib.hid hR
      have HOO := Lib.hid hO
      have HML := Lib.hid hml
      have HI := Lib.hid (show nv mid = b * nv m + r by simpa [nv] using hI)
      have hr4 : (r : Int) < 4294967296 := by omega
      clear hR hO hml hI
      go_wp2_with fail
      go_ret
      exact ⟨m, r, rfl, HML.out, HR.out, HOO.out, HI.out, hr⟩
end Go.Proofs.Ytjegjdefeflijaa
