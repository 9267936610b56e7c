/- The contract of the document's own Low: digits without noughts on top, in new memory. -/
import Derived.Test.YtjegjdefeflijaaNatCmp
import Derived.OneCell
set_option linter.unusedVariables false
set_option linter.unusedSimpArgs false
namespace Go.Proofs.Ytjegjdefeflijaa
open Go.RowKit Go.NatMath

theorem info32 : (Try.prog.info? 41).map (fun i => (i.zero, i.size, i.bytes)) = some (some (.int .u32 0), 1, 4) := by kernel_rfl

/-- A row that the call made holds these digits. -/
theorem holds_of_own {w : World} {B n : Nat} {v : Value} {xs : List Nat} (h : w.ownsRow B 41 1 v n (xs.map fun x : Nat => Value.int .u32 (x : Int))) (hx : ∀ x ∈ xs, x < 4294967296) : Holds32 w v xs := by
  obtain ⟨h1, h2⟩ := h
  have hn : xs.length = n := by simpa using h1
  refine ⟨hx, ?_⟩
  rcases h2 with ⟨rfl, rfl⟩ | ⟨g, cap, cur, rfl, hb, hg, hc, hm, hs, ht⟩
  · exact ⟨none, 0, 0, rfl, hn, Nat.le_refl _, ⟨Nat.zero_le _, fun _ => rfl⟩, Or.inl rfl⟩
  · refine ⟨_, n, cap, rfl, hn, hc, ⟨hm, fun e => by cases e⟩, Or.inr ⟨g, 0, rfl, lt_of_block hg, fun i hi => ?_⟩⟩
    have e : cur.toList[i]? = some (.int .u32 ((xs.getD i 0 : Nat) : Int)) := by
      have e1 : (cur.toList.take (n * 1))[i]? = cur.toList[i]? := by rw [List.getElem?_take]; simp [hi]
      rw [← e1, ht, List.getElem?_map, List.getElem?_eq_getElem (by omega)]
      simp [List.getD, show i < xs.length from by omega]
    simp only [World.cell?, hg, Nat.zero_add]
    simpa using e

/-- Below k all is as it is; from k on all is 0. -/
def Noughts (xs : List Nat) (k : Nat) : Prop := ∀ i, k ≤ i → xs.getD i 0 = 0
theorem noughts_nv {xs : List Nat} {k : Nat} (h : Noughts xs k) : nv xs = nv (xs.take k) := by
  have e : nv (xs.drop k) = 0 := by
    rw [nv_eq_zero]
    intro x hx
    obtain ⟨i, hi, rfl⟩ := List.getElem_of_mem hx
    have := h (k + i) (by omega)
    rw [List.length_drop] at hi
    simpa [List.getD, show k + i < xs.length from by omega] using this
  conv => lhs; rw [← List.take_append_drop k xs]
  rw [nv_append, e]; omega
theorem noughts_lo {xs : List Nat} {k : Nat} (hx : ∀ x ∈ xs, x < 4294967296) (hk : k ≤ xs.length) (h : Noughts xs k) (h0 : k = 0 ∨ xs.getD (k - 1) 0 ≠ 0) : lo (nv xs) = xs.take k := by
  rw [noughts_nv h]
  refine lo_nv (fun x hm => hx x (List.mem_of_mem_take hm)) ?_
  rcases h0 with h0 | h0
  · subst h0; rfl
  · have e : (xs.take k).length = k := by rw [List.length_take]; omega
    by_cases hk0 : k = 0
    · subst hk0; rfl
    · unfold rt
      rw [e]
      have : (xs.take k).getD (k - 1) 0 = xs.getD (k - 1) 0 := by simp [List.getD, show k - 1 < k from by omega]
      rw [this, Bool.or_eq_true, decide_eq_true_eq, decide_eq_true_eq]; omega

/-- What v leads to was not there in w. -/
def Fresh (w : World) (v : Value) : Prop := ∀ b off l c, v = .slice (some ⟨b, off, none⟩) l c → w.heap.size ≤ b
theorem Fresh.later {w wr : World} {v : Value} (h : Fresh wr v) (k : Keeps w wr) : Fresh w v := fun b off l c e => Nat.le_trans k.size (h b off l c e)
theorem fresh_own {w w' : World} {e : TypeId} {v : Value} {n : Nat} {xs : List Value} (h : w'.ownsRow w.heap.size e 1 v n xs) : Fresh w v := by
  intro b off l c ev
  subst ev
  exact (h.lt b rfl).1

/-- The cells of a row's first k digits. -/
theorem cells_in {w : World} {b off k : Nat} {xs : List Nat} (h : ∀ i, i < xs.length → w.cell? ⟨b, off + i, none⟩ = some (.int .u32 ((xs.getD i 0 : Nat) : Int))) (hk : k ≤ xs.length) :
    ∀ (j : Nat) (u : Value), ((xs.take k).map fun x : Nat => Value.int .u32 (x : Int))[j]? = some u → w.cell? ((⟨b, off, none⟩ : Addr).add j) = some u := by
  intro j u hj
  rw [List.getElem?_map] at hj
  cases e : (xs.take k)[j]? with
  | none => rw [e] at hj; cases hj
  | some x =>
    rw [e] at hj
    have hj2 : j < k := by
      have := (List.getElem?_eq_some_iff.1 e).1
      rw [List.length_take] at this; omega
    have hx : xs.getD j 0 = x := by
      rw [List.getElem?_take] at e
      simp only [hj2, if_true] at e
      simp [List.getD, e]
    have hu : u = .int .u32 (x : Int) := by simpa using hj.symm
    rw [hu, ← hx, ← h j (by omega)]
    congr 1
    simp [Addr.add]
theorem add_cell {w : World} {o : Obj} {b off j : Nat} {u : Value} (h : w.cell? ((⟨b, off, none⟩ : Addr).add j) = some u) (hb : b < w.heap.size) : (w.alloc o).cell? ((⟨b, off, none⟩ : Addr).add j) = some u := by
  have e : (⟨b, off, none⟩ : Addr).add j = ⟨b, off + j, none⟩ := by simp [Addr.add]
  rw [e] at h ⊢
  rw [World.cell?_alloc_past _ _ _ hb]; exact h

/-- A call gives a slice of these digits; all that was there is there as it was. -/
def Gives (w : World) (xs : List Nat) (e : Ending) (w' : World) : Prop := ∃ v, e = .returned v ∧ Holds32 w' v xs ∧ Keeps w w' ∧ Fresh w v

set_option maxHeartbeats 1000000 in
theorem ref_low (v : Value) (xs : List Nat) (hl : xs.length ≤ 1048576) (w : World) (h : Holds32 w v xs) :
    Calls Try.prog 40 #[v] w (Gives w (lo (nv xs))) := by
  obtain ⟨i0, hi, hz0, hz1, hz2⟩ := info_parts info32
  obtain ⟨hx, ao, len, cap, rfl, h2, h3, h4, h5⟩ := h
  subst h2
  rcases h5 with h5 | ⟨b, off, rfl, h6, h7⟩
  · obtain rfl : xs = [] := List.eq_nil_of_length_eq_zero h5
    rw [show nv [] = 0 from rfl, lo_zero]
    rcases ao with _ | ad
    · obtain rfl : cap = 0 := h4.2 rfl
      clear hx h3 h4 h5 hl
      go_enter Try.func40, Try.ntmps40
      go_wp2_with fail
      go_loop [3] (fun s3 => s3 = .int .i64 0) (fun _ => 0)
      case atStart => rfl
      case round =>
        obtain rfl := hrel
        go_wp2_with fail
        go_ret
        exact ⟨_, rfl, ⟨by simp, _, 0, 0, rfl, rfl, Nat.le_refl _, ⟨Nat.zero_le _, fun e => by cases e⟩, Or.inl rfl⟩, (Keeps.refl w).alloc _, fun b off l c e => by cases e; exact Nat.le_refl _⟩
    · clear hx h3 h4 h5 hl
      go_enter Try.func40, Try.ntmps40
      go_wp2_with fail
      go_loop [3] (fun s3 => s3 = .int .i64 0) (fun _ => 0)
      case atStart => rfl
      case round =>
        obtain rfl := hrel
        go_wp2_with fail
        go_ret
        exact ⟨_, rfl, ⟨by simp, _, 0, 0, rfl, rfl, Nat.le_refl _, ⟨Nat.zero_le _, fun e => by cases e⟩, Or.inl rfl⟩, (Keeps.refl w).alloc _, fun b off l c e => by cases e; exact Nat.le_refl _⟩
  · go_enter Try.func40, Try.ntmps40
    go_upto_block 0 with fail
    go_cut [3] (fun s3 wx => ∃ k : Nat, s3 = .int .i64 (k : Int) ∧ k ≤ xs.length ∧ Hid (lo (nv xs) = xs.take k) ∧ w = wx)
    case first =>
      go_wp2_with fail
      go_loop [3] (fun s3 => ∃ k : Nat, s3 = .int .i64 (k : Int) ∧ k ≤ xs.length ∧ Hid (Noughts xs k)) (fun s3 => (intOf s3).toNat)
      case atStart => exact ⟨xs.length, rfl, Nat.le_refl _, Lib.hid (fun i hi => by have : ¬ i < xs.length := (by omega); simp [List.getD, this])⟩
      case round =>
        obtain ⟨k, rfl, hk, hN⟩ := hrel
        by_cases k0 : (0 : Int) < (k : Int)
        · obtain ⟨j, rfl⟩ : ∃ j, k = j + 1 := ⟨k - 1, by omega⟩
          have c := h7 j (by omega)
          obtain ⟨x, ex⟩ : ∃ x, x = xs.getD j 0 := ⟨_, rfl⟩
          rw [← ex] at c
          have EX := Lib.hid ex
          have HX := Lib.hid hx
          clear ex h7 hx
          by_cases hx0 : x = 0
          · have t1 : ((x : Int) == 0) = true := by simp [hx0]
            have X0 := Lib.hid hx0
            clear hx0
            go_wp2_with fail
            go_round
            case rel => exact ⟨j, by go_num, by omega, Lib.hid (fun i hi => by
              rcases Nat.lt_or_ge j i with g | g
              · exact hN.out i (by omega)
              · have : i = j := by omega
                rw [this, ← EX.out, X0.out])⟩
            case measure => simp [intOf]
          · have t1 : ((x : Int) == 0) = false := by simp; omega
            have E := Lib.hid (noughts_lo HX.out hk hN.out (Or.inr (by rw [Nat.add_sub_cancel, ← EX.out]; exact hx0)))
            clear hx0
            go_wp2_with fail
            go_meet
            exact ⟨j + 1, by go_num, hk, E, rfl⟩
        · have hk0 : k = 0 := by omega
          have E := Lib.hid (noughts_lo hx hk hN.out (Or.inl hk0))
          clear hk0
          go_wp2_with fail
          go_meet
          exact ⟨k, rfl, hk, E, rfl⟩
    case rest =>
      obtain ⟨k, rfl, hk, hE, rfl⟩ := hcut
      have hown := World.ownsRow_made (base := w.heap.size) (e := 41) (size := 1) w #[] 0 (Nat.le_refl _) (Nat.zero_le _) rfl
      have k3 : (k : Int) ≤ (xs.length : Int) := by omega
      have HC := Lib.hid (cells_in h7 hk)
      have HX := Lib.hid hx
      clear h7 hx
      go_wp2_with (at_builtin; refine wpList_append_own _ rfl (.tmp 18) (.tmp 21) 22 rfl w.heap.size 41 i0 (.int .u32 0) 1 4 Try.underlying22 hi hz0 hz1 hz2 rfl (by decide) _ 0 [] rfl hown ⟨b, off, none⟩ k cap ((xs.take k).map fun x : Nat => Value.int .u32 (x : Int)) rfl ?c1 ?c2 ?c3 ?c4 ?c5 ?c6 ?_)
      case c1 => rw [List.length_map, List.length_take]; omega
      case c2 => exact fun j u hj => add_cell (HC.out j u hj) h6
      case c3 => intro u hu; obtain ⟨x, _, rfl⟩ := List.mem_map.1 hu; rfl
      case c4 => unfold maxLen; omega
      case c5 => omega
      case c6 => simp
      intro v' w1 hown' hgrow _
      have HO := Lib.hid hown'
      have HG := Lib.hid hgrow
      clear hown' hgrow hown
      go_wp2_with fail
      go_ret
      have hown' := HO.out
      have hgrow := HG.out
      rw [← List.map_take] at hown'
      refine ⟨v', rfl, ?_, Below.grown ((Keeps.refl w).alloc _) hgrow (by simp) (fun g e => by cases e; exact Nat.le_refl _), fresh_own hown'⟩
      rw [hE.out]
      exact holds_of_own hown' (fun x hm => HX.out x (List.mem_of_mem_take hm))
end Go.Proofs.Ytjegjdefeflijaa
