/- The contract of package nat's Parse. -/
import Derived.Test.YtjegjdefeflijaaNatGrow
import Derived.Test.YtjegjdefeflijaaNatParse
set_option linter.unusedVariables false
set_option linter.unusedSimpArgs false
namespace Go.Proofs.Ytjegjdefeflijaa
open Go.RowKit Go.NatMath Go.NumDigits

theorem val_append (l k : List Int) : val (l ++ k) = val l * 10 ^ k.length + val k := by
  induction k using snoc_ind with
  | h0 => simp [val]
  | h1 k c ih => rw [← List.append_assoc, val_snoc, ih, val_snoc, List.length_append, List.length_singleton, Nat.pow_succ, Nat.mul_add, ← Nat.mul_assoc, Nat.mul_comm 10 (val l), Nat.mul_assoc, Nat.mul_comm 10 (10 ^ k.length), ← Nat.add_assoc]
theorem lets_extract (s : ByteArray) (i j : Nat) (h : j ≤ s.size) : lets (s.extract i j) = ((lets s).take j).drop i := by
  rw [lets, ByteArray.data_extract, Array.toList_extract]
  simp only [List.extract, lets, List.map_take, List.map_drop]
  rw [List.drop_take]
theorem digs_take {l : List Int} (h : digs l = true) (k : Nat) : digs (l.take k) = true := by
  rw [← List.take_append_drop k l, digs_append, Bool.and_eq_true] at h; exact h.1
theorem digs_drop {l : List Int} (h : digs l = true) (k : Nat) : digs (l.drop k) = true := by
  rw [← List.take_append_drop k l, digs_append, Bool.and_eq_true] at h; exact h.2
theorem digs_at {s : ByteArray} {k : Nat} (h : digs (lets s) = true) (hk : k < s.size) : 48 ≤ s[k].toNat ∧ s[k].toNat ≤ 57 := by
  have := digs_take h (k + 1)
  rw [lets_snoc s k hk, digs_snoc, Bool.and_eq_true, Bool.and_eq_true, decide_eq_true_eq, decide_eq_true_eq] at this
  omega
theorem lo_val_len (l : List Int) (h : digs l = true) (hl : l.length ≤ 1000) : (lo (val l)).length ≤ 1000 := Nat.le_trans (lo_ten_pow l.length _ (val_lt l h)) hl

/-- How it stands between two groups: u is left of s. -/
def ParseIn (w : World) (s : ByteArray) (u : ByteArray) (s4 : Value) (wr : World) : Prop :=
  ∃ p : Nat, p ≤ s.size ∧ lets u = (lets s).drop p ∧ (p = 0 ∨ u.size % 9 = 0) ∧ Own32 wr w.heap.size s4 (lo (val ((lets s).take p))) ∧ Keeps w wr

theorem parse_next {l : List Int} {p q : Nat} (hd : digs l = true) (hq : q ≤ 9) (hp : p = 0 ∨ q = 9) (hl : p + q ≤ l.length) : 1000000000 * val (l.take p) + val ((l.drop p).take q) = val (l.take (p + q)) := by
  rw [List.take_add, val_append, List.length_take, List.length_drop, Nat.min_eq_left (by omega)]
  rcases hp with rfl | rfl
  · simp [val]
  · rw [Nat.mul_comm]
theorem own_empty (w w1 : World) (h : w.heap.size ≤ w1.heap.size) : Own32 (w1.alloc (.cells #[] 41)) w.heap.size (.slice (some ⟨w1.heap.size, 0, none⟩) 0 0) [] := by
  refine ⟨⟨rfl, Or.inr ⟨w1.heap.size, 0, #[], rfl, h, (MapKept.heap_alloc w1 _).1, Nat.le_refl _, Nat.zero_le _, rfl, rfl⟩⟩, fun x hx => by cases hx⟩
def strLen : Value → Nat | .string u => u.size | _ => 0
theorem Own32.grown {w w' : World} {B : Nat} {v : Value} {xs : List Nat} (h : Own32 w B v xs) (k : Keeps w w') : Own32 w' B v xs := by
  obtain ⟨⟨h1, h2⟩, hx⟩ := h
  refine ⟨⟨h1, ?_⟩, hx⟩
  rcases h2 with h2 | ⟨g, cap, cur, h3, h4, h5, h6⟩
  · exact Or.inl h2
  · exact Or.inr ⟨g, cap, cur, h3, h4, (Below.block k g (lt_of_block h5)).trans h5, h6⟩

set_option maxHeartbeats 2000000 in
set_option maxRecDepth 100000 in
theorem nat_parse (s : ByteArray) (hs : s.size ≤ 1000) (w : World) :
    Calls Try.prog 17 #[.string s] w (Gives2 w (if natB (lets s) then lo (val (lets s)) else []) (natB (lets s))) := by
  have D := own_decimal s hs w
  cases hb : natB (lets s)
  · rw [hb] at D
    rw [if_neg (by decide)]
    clear hb
    go_enter Try.func17, Try.ntmps17
    go_wp2_with (go_at_call 46; (with_reducible refine (D).mono ?_); rintro e w1 ⟨rfl, hk⟩)
    go_ret2
    exact ⟨_, rfl, Holds32.nil _, hk, fresh_nil _⟩
  · rw [hb] at D
    rw [if_pos rfl]
    have hdg : digs (lets s) = true := by
      cases h : digs (lets s)
      · rw [natB_digs h] at hb; cases hb
      · rfl
    have HDG := Lib.hid hdg
    have HSL := Lib.hid (lets_length s)
    clear hb hdg
    go_enter Try.func17, Try.ntmps17
    go_upto_block 0 with (go_at_call 46; (with_reducible refine (D).mono ?_); rintro e w1 ⟨rfl, hk⟩)
    have hO := own_empty w w1 hk.size
    have hK := hk.alloc (.cells #[] 41)
    generalize w1.alloc (.cells #[] 41) = w2 at hO hK ⊢
    have HO := Lib.hid hO
    have HK := Lib.hid hK
    clear D hO hK hk
    go_wp2_with fail
    go_loopw [0, 4] (fun s0 s4 wr => ∃ u : ByteArray, s0 = .string u ∧ ParseIn w s u s4 wr) (fun s0 _ _ => strLen s0)
    case atStart => exact ⟨s, rfl, 0, Nat.zero_le _, by rw [List.drop_zero], Or.inl rfl, by rw [List.take_zero, show val [] = 0 from rfl, lo_zero]; exact HO.out, HK.out⟩
    case round =>
      clear HO HK
      obtain ⟨u, rfl, p, hp, hu, hp9, hO, hK⟩ := hrel
      have hul : u.size + p = s.size := by have a := lets_length u; rw [hu, List.length_drop, HSL.out] at a; omega
      by_cases h0 : u.size = 0
      · have e0 : u = { data := #[] } := by
          apply ByteArray.ext
          exact Array.eq_empty_of_size_eq_zero h0
        subst e0
        have e1 : p = s.size := by omega
        rw [e1, lets_all] at hO
        have HH := Lib.hid hO.holds
        have HF := Lib.hid (show Fresh w u4 from fun b off l c e => by
          obtain ⟨⟨_, q⟩, _⟩ := hO
          rcases q with ⟨q, _⟩ | ⟨g, cap, cur, q, q2, _⟩
          · rw [e] at q; cases q
          · rw [e] at q; cases q; exact q2)
        have HK := Lib.hid hK
        clear hu hul hp9 hO hK h0 e1 hp
        go_wp2_with fail
        go_ret2
        exact ⟨_, rfl, HH.out, HK.out, HF.out⟩
      · have he : u.toList.isEmpty = false := by
          rw [ByteArray.toList_eq]
          have : u.data.toList.length = u.size := rfl
          cases hl : u.data.toList with
          | nil => rw [hl] at this; exact absurd this.symm h0
          | cons c l => rfl
        have hne : ¬ u.toList = [] := by intro e; rw [e] at he; exact absurd he (by decide)
        obtain ⟨n, en⟩ : ∃ n, u.size = n + 1 := ⟨u.size - 1, by omega⟩
        obtain ⟨q, eq⟩ : ∃ q, q = n % 9 + 1 := ⟨_, rfl⟩
        have f1 : ((n : Int) + 1 - 1) % 9 + 1 = (q : Int) := by omega
        have q1 : q ≤ u.size := by omega
        have q2 : (q : Int) ≤ (u.size : Int) := by omega
        have q3 : 1 ≤ q := by omega
        have q4 : q ≤ 9 := by omega
        have ub : (u.size : Int) ≤ 1000 := by omega
        have f2 : ((u.size : Int) - 1) % 9 + 1 = (q : Int) := by omega
        have HU := Lib.hid hu
        have HUL := Lib.hid hul
        have HP9 := Lib.hid hp9
        have HO := Lib.hid hO
        have HK := Lib.hid hK
        have EN := Lib.hid en
        have EQ := Lib.hid eq
        clear hu hul hp9 hO hK en eq h0 f1
        go_upto_block 2 with fail
        have ha : lets (u.extract 0 q) = ((lets s).drop p).take q := by rw [lets_extract u 0 q q1, List.drop_zero, HU.out]
        have hal : (u.extract 0 q).size = q := by rw [ByteArray.size_extract]; omega
        have hu2 : lets (u.extract q u.size) = (lets s).drop (p + q) := by rw [lets_extract u q u.size (Nat.le_refl _), lets_all, HU.out, List.drop_drop]
        have hu2l : (u.extract q u.size).size = u.size - q := by rw [ByteArray.size_extract]; omega
        have had : digs (lets (u.extract 0 q)) = true := by rw [ha]; exact digs_take (digs_drop HDG.out p) q
        obtain ⟨a, ea⟩ : ∃ a, a = u.extract 0 q := ⟨_, rfl⟩
        rw [← ea] at ha hal had ⊢
        have HA := Lib.hid ha
        have HAL := Lib.hid hal
        have HU2 := Lib.hid hu2
        have HU2L := Lib.hid hu2l
        have HAD := Lib.hid had
        clear ha hal hu2 hu2l had ea f2
        go_wp2_with fail
        go_loopw [6] (fun s6 wr2 => ∃ k v : Nat, k ≤ a.size ∧ wr2 = wr.iter a k ∧ s6 = .int .u32 (v : Int) ∧ Hid (v = val ((lets a).take k))) (fun _ wr2 => a.size - wr2.iterPos wr.heap.size)
        case atStart => exact ⟨0, 0, Nat.zero_le _, rfl, rfl, Lib.hid rfl⟩
        case round =>
          obtain ⟨k, v, hk, rfl, rfl, hv⟩ := hrel
          by_cases hlt : k < a.size
          · have hsn := lets_snoc a k hlt
            obtain ⟨y1, y2⟩ := digs_at HAD.out hlt
            have hvl := val_lt _ (digs_take HAD.out k)
            rw [← hv.out] at hvl
            have hv8 : v < 100000000 := by
              have b : 10 ^ ((lets a).take k).length ≤ 10 ^ 8 := Nat.pow_le_pow_right (by decide) (Nat.le_trans (List.length_take_le _ _) (by have := HAL.out; omega))
              omega
            have hn := fun ty => run_next_ascii (P := Try.prog) wr a k ty hlt (by omega)
            obtain ⟨y, ey⟩ : ∃ y : Nat, y = a[k].toNat := ⟨_, rfl⟩
            simp only [← ey] at hn hsn y1 y2
            have HV := Lib.hid (show 10 * v + (y - 48) = val ((lets a).take (k + 1)) by rw [hsn, val_snoc, ← hv.out]; omega)
            clear hsn ey hvl
            go_wp2
            go_roundw
            case rel => exact ⟨k + 1, 10 * v + (y - 48), hlt, rfl, by congr 1; omega, HV⟩
            case measure => simp; omega
          · have hn := fun ty => run_next_end (P := Try.prog) wr a k ty hlt
            obtain rfl : k = a.size := by omega
            have hv2 := hv.out
            rw [lets_all] at hv2
            have hvl := val_lt _ HAD.out
            rw [← hv2] at hvl
            have hv9 : v < 4294967296 := by
              have b : 10 ^ (lets a).length ≤ 10 ^ 9 := Nat.pow_le_pow_right (by decide) (by rw [lets_length]; have := HAL.out; omega)
              omega
            have hul := HUL.out
            have hen := EN.out
            have heq := EQ.out
            have hpn := parse_next (p := p) (q := q) HDG.out q4 (by rcases HP9.out with h | h; exact Or.inl h; right; omega) (by rw [HSL.out]; omega)
            rw [← HA.out, ← hv2] at hpn
            have G := own_grow w u4 (lo (val ((lets s).take p))) 1000000000 v (wr.iter a a.size) (lo_val_len _ (digs_take HDG.out p) (by rw [List.length_take, HSL.out]; omega)) (by decide) (by decide) hv9 (rt_lo _) (HO.out.grown (keeps_iter (Keeps.refl _) _ _)) (keeps_iter HK.out _ _)
            rw [nv_lo, hpn, show ((1000000000 : Nat) : Int) = 1000000000 from rfl] at G
            have HPQ := Lib.hid (show p + q ≤ s.size by omega)
            have H9 := Lib.hid (show (u.size - q) % 9 = 0 by omega)
            have HLT := Lib.hid (show u.size - q < u.size by omega)
            clear hv hv2 hvl hul hen heq hpn
            go_wp2_with (go_at_call 47; (with_reducible refine (G).mono ?_); rintro e w3 ⟨v3, rfl, ho3, hk3⟩)
            go_roundw
            case rel => exact ⟨_, rfl, p + q, HPQ.out, HU2.out, Or.inr (by rw [HU2L.out]; exact H9.out), ho3, hk3⟩
            case measure => show (u.extract q u.size).size < u.size; rw [HU2L.out]; exact HLT.out
end Go.Proofs.Ytjegjdefeflijaa
