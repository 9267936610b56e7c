/- The contracts of package nat's takeOften and DivMod. -/
import Derived.Test.YtjegjdefeflijaaNatOften
set_option linter.unusedVariables false
set_option linter.unusedSimpArgs false
namespace Go.Proofs.Ytjegjdefeflijaa
open Go.RowKit Go.NatMath

/-- From w to w' block G was written, and memory made; all else that was there is as it was. -/
def Wrote (G : Nat) (w w' : World) : Prop :=
  w.heap.size ≤ w'.heap.size ∧ (∀ W, Keeps W w → W.heap.size ≤ G → Keeps W w') ∧ (∀ H, H < w.heap.size → H ≠ G → w'.heap[H]? = w.heap[H]?)
theorem Wrote.refl (G : Nat) (w : World) : Wrote G w w := ⟨Nat.le_refl _, fun _ h _ => h, fun _ _ _ => rfl⟩
theorem Wrote.only {G : Nat} {a b c : World} (h : Wrote G a b) (k : Only G b c) : Wrote G a c :=
  ⟨by rw [k.1]; exact h.1, fun W x y => k.2.1 W (h.2.1 W x y) y, fun H x y => (k.2.2 H y).trans (h.2.2 H x y)⟩
theorem Wrote.alloc {G : Nat} {a b : World} (h : Wrote G a b) (o : Obj) : Wrote G a (b.alloc o) :=
  ⟨by rw [World.size_alloc]; have := h.1; omega, fun W x y => (h.2.1 W x y).alloc o, fun H x y => (Below.heap_alloc _ _ _ (Nat.lt_of_lt_of_le x h.1)).trans (h.2.2 H x y)⟩
theorem Wrote.setNew {G : Nat} {a b : World} (h : Wrote G a b) (Q i : Nat) (v : Value) (hQ : a.heap.size ≤ Q) : Wrote G a (b.setCell ⟨Q, i, none⟩ v) :=
  ⟨by have := h.1; simpa [World.setCell] using this, fun W x y => keeps_set (h.2.1 W x y) (Nat.le_trans x.size hQ), fun H x y => (Below.heap_setCell _ _ _ _ (by show H ≠ Q; omega)).trans (h.2.2 H x y)⟩
theorem Wrote.holds {G : Nat} {w w' : World} (k : Wrote G w w') {v : Value} {xs : List Nat} (h : Holds32 w v xs) (ha : xs.length = 0 ∨ Apart G v) : Holds32 w' v xs := by
  obtain ⟨h1, ao, len, cap, rfl, h3, h4, h5, h6⟩ := h
  refine ⟨h1, ao, len, cap, rfl, h3, h4, h5, ?_⟩
  rcases h6 with h6 | ⟨b, off, h7, h8, h9⟩
  · exact Or.inl h6
  · subst h7
    rcases ha with ha | ha
    · exact Or.inl (by omega)
    have hne := ha b off len cap rfl
    refine Or.inr ⟨b, off, rfl, Nat.lt_of_lt_of_le h8 k.1, fun j hj => ?_⟩
    rw [← h9 j hj]
    simp only [World.cell?, k.2.2 b h8 hne]

/-- What takeOften leaves: the quotient's digits in a new row, and what is left in the old one. -/
def OftenIn (w : World) (G N D n L : Nat) (e : Ending) (w' : World) : Prop :=
  ∃ (Q : Nat) (qs os : List Nat), e = .returned (.slice (some ⟨Q, 0, none⟩) n n) ∧ w.heap.size ≤ Q ∧ Row32 w' Q qs ∧ qs.length = n ∧ Row32 w' G os ∧ os.length = L ∧ nv qs = N / D ∧ nv os = N % D ∧ Wrote G w w'

/-- The four boxes of takeOften's variables. -/
def Boxes (wr : World) (z G L cap s t b off dcap : Nat) : Prop :=
  wr.heap[z]? = some (.cells #[.slice (some ⟨G, 0, none⟩) L cap] 22 (0, 0)) ∧ wr.heap[z + 1]? = some (.cells #[.slice (some ⟨b, off, none⟩) (s + 1) dcap] 22 (0, 0)) ∧
    wr.heap[z + 1 + 1]? = some (.cells #[.int .i64 ((s : Int) + 1)] 3 (0, 0)) ∧ wr.heap[z + 1 + 1 + 1]? = some (.cells #[.int .u64 (t : Int)] 23 (0, 0))
theorem boxes_made (w : World) (o0 o1 o2 o3 o4 : Obj) : ((((((w.alloc o0).alloc o1).alloc o2).alloc o3).alloc o4).heap[w.heap.size]? = some o0) ∧ ((((((w.alloc o0).alloc o1).alloc o2).alloc o3).alloc o4).heap[w.heap.size + 1]? = some o1) ∧
    ((((((w.alloc o0).alloc o1).alloc o2).alloc o3).alloc o4).heap[w.heap.size + 1 + 1]? = some o2) ∧ ((((((w.alloc o0).alloc o1).alloc o2).alloc o3).alloc o4).heap[w.heap.size + 1 + 1 + 1]? = some o3) := by
  have s1 : (w.alloc o0).heap.size = w.heap.size + 1 := World.size_alloc _ _
  have s2 : ((w.alloc o0).alloc o1).heap.size = w.heap.size + 1 + 1 := by rw [World.size_alloc, s1]
  have s3 : (((w.alloc o0).alloc o1).alloc o2).heap.size = w.heap.size + 1 + 1 + 1 := by rw [World.size_alloc, s2]
  have s4 : ((((w.alloc o0).alloc o1).alloc o2).alloc o3).heap.size = w.heap.size + 1 + 1 + 1 + 1 := by rw [World.size_alloc, s3]
  have n0 := (MapKept.heap_alloc w o0).1
  have n1 := (MapKept.heap_alloc (w.alloc o0) o1).1
  have n2 := (MapKept.heap_alloc ((w.alloc o0).alloc o1) o2).1
  have n3 := (MapKept.heap_alloc (((w.alloc o0).alloc o1).alloc o2) o3).1
  rw [s1] at n1
  rw [s2] at n2
  rw [s3] at n3
  refine ⟨?_, ?_, ?_, ?_⟩
  · rw [Below.heap_alloc _ _ _ (by omega), Below.heap_alloc _ _ _ (by omega), Below.heap_alloc _ _ _ (by omega), Below.heap_alloc _ _ _ (by omega)]; exact n0
  · rw [Below.heap_alloc _ _ _ (by omega), Below.heap_alloc _ _ _ (by omega), Below.heap_alloc _ _ _ (by omega)]; exact n1
  · rw [Below.heap_alloc _ _ _ (by omega), Below.heap_alloc _ _ _ (by omega)]; exact n2
  · rw [Below.heap_alloc _ _ _ (by omega)]; exact n3
theorem Boxes.only {wr w' : World} {z G L cap s t b off dcap : Nat} (h : Boxes wr z G L cap s t b off dcap) (k : Only G wr w') (hG : G < z) : Boxes w' z G L cap s t b off dcap :=
  ⟨(k.2.2 _ (by omega)).trans h.1, (k.2.2 _ (by omega)).trans h.2.1, (k.2.2 _ (by omega)).trans h.2.2.1, (k.2.2 _ (by omega)).trans h.2.2.2⟩
theorem Boxes.set {wr : World} {z G L cap s t b off dcap : Nat} (h : Boxes wr z G L cap s t b off dcap) (i : Nat) (v : Value) : Boxes (wr.setCell ⟨z + 1 + 1 + 1 + 1, i, none⟩ v) z G L cap s t b off dcap :=
  ⟨(Below.heap_setCell _ _ _ _ (by show z ≠ z + 1 + 1 + 1 + 1; omega)).trans h.1, (Below.heap_setCell _ _ _ _ (by show z + 1 ≠ z + 1 + 1 + 1 + 1; omega)).trans h.2.1,
    (Below.heap_setCell _ _ _ _ (by show z + 1 + 1 ≠ z + 1 + 1 + 1 + 1; omega)).trans h.2.2.1, (Below.heap_setCell _ _ _ _ (by show z + 1 + 1 + 1 ≠ z + 1 + 1 + 1 + 1; omega)).trans h.2.2.2⟩
theorem cell_of {w : World} {b : Nat} {v : Value} {T : TypeId} (h : w.heap[b]? = some (.cells #[v] T (0, 0))) : w.cell? ⟨b, 0, none⟩ = some v := by
  simp only [World.cell?, h]; rfl
theorem Row32.other {w : World} {G Q i : Nat} {os : List Nat} {v : Value} (h : Row32 w G os) (hn : G ≠ Q) : Row32 (w.setCell ⟨Q, i, none⟩ v) G os := ⟨h.1, (Below.heap_setCell _ _ _ _ hn).trans h.2⟩

def LongIn (w : World) (G D N n L cap s t b off dcap : Nat) (s28 : Value) (wr : World) : Prop :=
  ∃ (k : Nat) (os qs : List Nat), s28 = .int .i64 (k : Int) ∧ k ≤ n ∧ Row32 wr G os ∧ os.length = L ∧ Row32 wr (w.heap.size + 1 + 1 + 1 + 1) qs ∧ qs.length = n ∧ LongAt os qs D N (n - k) ∧ Wrote G w wr ∧ Boxes wr w.heap.size G L cap s t b off dcap

set_option maxHeartbeats 2000000 in
set_option maxRecDepth 100000 in
theorem own_takeOften (G L cap s N : Nat) (dp : Option Addr) (dcap : Nat) (os ds : List Nat) (w : World) (hL : os.length = L) (hLc : L ≤ cap) (hLm : L ≤ 100000) (hrow : Row32 w G os) (hd : Holds32 w (.slice dp (s + 1) dcap) ds) (hap : Apart G (.slice dp (s + 1) dcap)) (hds : ds.length = s + 1)
    (h31 : 2147483648 ≤ ds.getD s 0) (hsL : s + 1 ≤ L) (hN : nv os = N) (h0 : nv (os.drop (L - (s + 1))) < nv ds) :
    Calls Try.prog 43 #[.slice (some ⟨G, 0, none⟩) L cap, .slice dp (s + 1) dcap] w (OftenIn w G N (nv ds) (L - (s + 1)) L) := by
  obtain ⟨hd1, dp', len', cap', e1, e2, e3, e4, e5⟩ := hd
  cases e1
  rcases e5 with e5 | ⟨b, off, rfl, h6, h7⟩
  · omega
  have hd : Holds32 w (.slice (some ⟨b, off, none⟩) (s + 1) dcap) ds := ⟨hd1, _, _, _, rfl, e2, e3, e4, Or.inr ⟨b, off, rfl, h6, h7⟩⟩
  have ct := h7 s (by omega)
  have ht := hd.lt s
  obtain ⟨n, en⟩ : ∃ n, n = L - (s + 1) := ⟨_, rfl⟩
  rw [← en] at h0 ⊢
  have hmk := run_make_row' (P := Try.prog) 22 41 (.int .u32 0) 4 Try.underlying22 info32 rfl .i64 .i64 n (by omega) (by omega)
  have en2 : (L : Int) - ((s : Int) + 1) = (n : Int) := by omega
  have HN := Lib.hid hN
  have HL := Lib.hid hL
  have HRow := Lib.hid hrow
  have HD := Lib.hid hd
  have HAP := Lib.hid hap
  have HDS := Lib.hid hds
  have H31 := Lib.hid h31
  have H0 := Lib.hid h0
  have EN := Lib.hid en
  have nb : n ≤ 100000 := by omega
  obtain ⟨t, et⟩ : ∃ t, t = ds.getD s 0 := ⟨_, rfl⟩
  rw [← et] at ct ht
  have ET := Lib.hid et
  have ct3 : ∀ o1 o2 o3, (((w.alloc o1).alloc o2).alloc o3).cell? ⟨b, off + s, none⟩ = some (.int .u32 (t : Int)) := fun o1 o2 o3 => by
    rw [World.cell?_alloc_past _ _ _ (by simp only [World.size_alloc]; show b < _; omega), World.cell?_alloc_past _ _ _ (by simp only [World.size_alloc]; show b < _; omega), World.cell?_alloc_past _ _ _ h6]; exact ct
  clear ct
  clear hN hL hrow hd hap hds h31 h0 en h7 hd1 e2 et
  go_enter Try.func43, Try.ntmps43
  go_upto_region 6 with fail
  have hB := boxes_made w (.cells #[.slice (some ⟨G, 0, none⟩) L cap] 22) (.cells #[.slice (some ⟨b, off, none⟩) (s + 1) dcap] 22) (.cells #[.int .i64 ((s : Int) + 1)] 3) (.cells #[.int .u64 (t : Int)] 23) (.cells (madeCells #[.int .u32 0] n) 41)
  have hQ := row_made ((((w.alloc (.cells #[.slice (some ⟨G, 0, none⟩) L cap] 22)).alloc (.cells #[.slice (some ⟨b, off, none⟩) (s + 1) dcap] 22)).alloc (.cells #[.int .i64 ((s : Int) + 1)] 3)).alloc (.cells #[.int .u64 (t : Int)] 23)) n
  have hK := ((((((Keeps.refl w).alloc (.cells #[.slice (some ⟨G, 0, none⟩) L cap] 22)).alloc (.cells #[.slice (some ⟨b, off, none⟩) (s + 1) dcap] 22)).alloc (.cells #[.int .i64 ((s : Int) + 1)] 3)).alloc (.cells #[.int .u64 (t : Int)] 23)).alloc (.cells (madeCells #[.int .u32 0] n) 41))
  have hW := ((((((Wrote.refl G w).alloc (.cells #[.slice (some ⟨G, 0, none⟩) L cap] 22)).alloc (.cells #[.slice (some ⟨b, off, none⟩) (s + 1) dcap] 22)).alloc (.cells #[.int .i64 ((s : Int) + 1)] 3)).alloc (.cells #[.int .u64 (t : Int)] 23)).alloc (.cells (madeCells #[.int .u32 0] n) 41))
  simp only [World.size_alloc] at hQ
  generalize ((((w.alloc (.cells #[.slice (some ⟨G, 0, none⟩) L cap] 22)).alloc (.cells #[.slice (some ⟨b, off, none⟩) (s + 1) dcap] 22)).alloc (.cells #[.int .i64 ((s : Int) + 1)] 3)).alloc (.cells #[.int .u64 (t : Int)] 23)).alloc (.cells (madeCells #[.int .u32 0] n) 41) = w5 at hB hQ hK hW ⊢
  have HB := Lib.hid (show Boxes w5 w.heap.size G L cap s t b off dcap from hB)
  have HQ := Lib.hid hQ
  have HK := Lib.hid (HRow.out.keeps hK)
  have HW := Lib.hid hW
  clear hB hQ hK hW hmk ct3 en2
  go_wp2_with fail
  go_loopw [28] (fun s28 wr => LongIn w G (nv ds) N n L cap s t b off dcap s28 wr) (fun s28 _ => n - (intOf s28).toNat)
  case atStart => exact ⟨0, os, _, rfl, Nat.zero_le _, HK.out, HL.out, HQ.out, by simp, ⟨by rw [nv_zeros, Nat.mul_zero, Nat.add_zero]; exact HN.out, H0.out, fun i hi => by simp only [List.getD_eq_getElem?_getD, List.getElem?_replicate]; split <;> rfl⟩, HW.out, HB.out⟩
  case round =>
    clear HB HQ HK HW
    obtain ⟨k, os, qs, rfl, hk, hR, hol, hQ, hql, hLg, hW, hB⟩ := hrel
    have hG := HRow.out.size
    have hD0 : 0 < nv ds := by
      obtain ⟨a3, _⟩ := top_one HD.out.1 HDS.out
      exact Nat.lt_of_lt_of_le (Nat.mul_pos (by have := H31.out; omega) (pow_pos32 s)) a3
    by_cases g : (k : Int) < (n : Int)
    · obtain ⟨j, ej⟩ : ∃ j, j = n - 1 - k := ⟨_, rfl⟩
      have ej2 : (n : Int) - 1 - (k : Int) = (j : Int) := by omega
      have hen := EN.out
      rw [show n - k = j + 1 from by omega] at hLg
      obtain ⟨p1, p2⟩ := long_part hR.1 HD.out.1 HDS.out rfl (show j + (s + 1) + 1 ≤ os.length by omega) hLg.2.1
      have hcut : os = os.take j ++ (os.drop j).take (s + 1 + 1) ++ os.drop (j + (s + 1) + 1) := by
        rw [List.append_assoc, show os.drop (j + (s + 1) + 1) = (os.drop j).drop (s + 1 + 1) from by rw [List.drop_drop, Nat.add_assoc], List.take_append_drop, List.take_append_drop]
      have hpl : ((os.drop j).take (s + 1 + 1)).length = s + 2 := by rw [List.length_take, List.length_drop]; omega
      have hR2 := hR
      rw [hcut] at hR2
      have A := often_digit G L cap j s w.heap.size (w.heap.size + 1 + 1) (w.heap.size + 1 + 1 + 1) (w.heap.size + 1) _ (os.take j) ((os.drop j).take (s + 1 + 1)) (os.drop (j + (s + 1) + 1)) ds wr (by rw [List.length_take]; omega) hpl (by rw [hpl, List.length_take, List.length_drop]; omega) hLc hLm (cell_of hB.1) (by rw [cell_of hB.2.2.1]; rfl) (by rw [cell_of hB.2.2.2, ET.out]) (cell_of hB.2.1) (by omega) hR2 (hW.holds HD.out (Or.inr HAP.out)) (Or.inr HAP.out) HDS.out H31.out p1
      have S := Lib.hid (fun m q k1 k2 k3 => long_next (m := m) (q := q) hD0 (show j + (s + 1) + 1 ≤ os.length by omega) (show j < qs.length by omega) hLg p2 k1 k2 k3)
      have j1 : j < n := by omega
      have j2 : j + (s + 2) ≤ L := by omega
      have ej3 : n - (k + 1) = j := by omega
      have HQ := Lib.hid hQ
      have HW := Lib.hid hW
      have HB := Lib.hid hB
      have HQL := Lib.hid hql
      have HPL := Lib.hid hpl
      have HOL := Lib.hid hol
      have HG := Lib.hid hG
      have EJ3 := Lib.hid ej3
      have HD0 := Lib.hid hD0
      have P1 := Lib.hid p1
      clear hcut hpl hR2 hR hol hQ hql hLg hW hB p1 p2 hen ej ej3 hD0
      obtain ⟨x, ex⟩ : ∃ x, x = qs.getD j 0 := ⟨_, rfl⟩
      have QC := Lib.hid (show ∀ w3, Only G wr w3 → w3.cell? ⟨w.heap.size + 1 + 1 + 1 + 1, j, none⟩ = some (.int .u32 (x : Int)) ∧ w3.frozen? ⟨w.heap.size + 1 + 1 + 1 + 1, j, none⟩ = false from fun w3 ho => by
        have q := ho.row HQ.out (by have := HG.out; omega)
        exact ⟨by rw [ex]; exact q.cell j (by rw [HQL.out]; exact j1), q.free j⟩)
      clear ex
      go_wp2_with (go_at_call 52; (with_reducible refine A.mono ?_); rintro e w3 ⟨m, rfl, hm, hr, ho, he⟩; obtain ⟨hce, hfr⟩ := QC.out w3 ho; have HM := Lib.hid hm; have HRr := Lib.hid hr; have HO := Lib.hid ho; have HE := Lib.hid he; clear hm hr ho he)
      have hS := S.out m _ (by rw [HM.out, HPL.out]) rfl HE.out
      have HS := Lib.hid hS
      have hol2 : (os.take j ++ m ++ os.drop (j + (s + 1) + 1)).length = L := by
        have h1 := HM.out
        have h2 := HPL.out
        have h3 := HOL.out
        rw [List.length_append, List.length_append, List.length_take, List.length_drop]; omega
      have HOL2 := Lib.hid hol2
      have hG := HG.out
      have HQ3 := Lib.hid (HO.out.row HQ.out (by omega))
      have hq32 : nv ((os.drop j).take (s + 1 + 1)) / nv ds < 4294967296 := by rw [Nat.div_lt_iff_lt_mul HD0.out]; exact P1.out
      have HB3 := Lib.hid (HB.out.only HO.out hG)
      have HW3 := Lib.hid (HW.out.only HO.out)
      clear hS hol2 hce hfr A S QC
      go_wp2_with fail
      go_roundw
      case rel =>
        refine ⟨k + 1, _, _, by go_num, by omega, HRr.out.other (by omega), HOL2.out, HQ3.out.set j _ hq32, by rw [List.length_set]; exact HQL.out, ?_, HW3.out.setNew _ _ _ (by omega), HB3.out.set _ _⟩
        rw [EJ3.out]; exact HS.out
      case measure => simp [intOf]; omega
    · obtain rfl : k = n := by omega
      rw [Nat.sub_self] at hLg
      obtain ⟨q1, q2⟩ := long_end hD0 hLg
      have HR := Lib.hid hR
      have HOL := Lib.hid hol
      have HQ := Lib.hid hQ
      have HQL := Lib.hid hql
      have Q1 := Lib.hid q1
      have Q2 := Lib.hid q2
      have HW := Lib.hid hW
      clear hR hol hQ hql hLg hW hB q1 q2 hD0
      go_wp2_with fail
      go_ret
      exact ⟨_, qs, os, rfl, by omega, HQ.out, HQL.out, HR.out, HOL.out, Q1.out, Q2.out, HW.out⟩
end Go.Proofs.Ytjegjdefeflijaa
