/- The document's own sums: the words behind a block. -/
import Derived.Test.YtckikgfckihniaaDoorHashWords
import Derived.Deep.RegionWith
set_option linter.unusedVariables false
set_option linter.unusedSimpArgs false
set_option maxRecDepth 10000
namespace Go.Proofs.YtckikgfckihniaaDoor
open Go.RowKit Go.HashMath

def small8 (V : Eight) : Prop := V.a < 4294967296 ∧ V.b < 4294967296 ∧ V.c < 4294967296 ∧ V.d < 4294967296 ∧ V.e < 4294967296 ∧ V.f < 4294967296 ∧ V.g < 4294967296 ∧ V.h < 4294967296
theorem small8_of {V : Eight} (h : ∀ x ∈ V.list, x < 4294967296) : small8 V := by
  have := fun x hx => h x hx
  simp only [Eight.list, List.mem_cons, List.not_mem_nil, or_false, forall_eq_or_imp, forall_eq] at this
  exact this
theorem small8_list {V : Eight} (h : small8 V) : ∀ x ∈ V.list, x < 4294967296 := by
  obtain ⟨h1, h2, h3, h4, h5, h6, h7, h8⟩ := h
  simp only [Eight.list, List.mem_cons, List.not_mem_nil, or_false]
  rintro x (rfl | rfl | rfl | rfl | rfl | rfl | rfl | rfl) <;> assumption
theorem xor_lt {a b : Nat} (ha : a < 4294967296) (hb : b < 4294967296) : a ^^^ b < 4294967296 := Nat.xor_lt_two_pow (n := 32) ha hb
theorem and_lt {a b : Nat} (hb : b < 4294967296) : a &&& b < 4294967296 := Nat.and_lt_two_pow (n := 32) a hb
theorem big_bits (x p q r : Nat) (hx : x < 4294967296) : bits .xor .u32 (bits .xor .u32 ((rot x p : Nat) : Int) ((rot x q : Nat) : Int)) ((rot x r : Nat) : Int) = ((rot x p ^^^ rot x q ^^^ rot x r : Nat) : Int) :=
  u32_xor (u32_xor rfl rfl (rot_lt x p hx) (rot_lt x q hx)) rfl (xor_lt (rot_lt x p hx) (rot_lt x q hx)) (rot_lt x r hx)
theorem most_bits (a b c : Nat) (ha : a < 4294967296) (hb : b < 4294967296) (hc : c < 4294967296) : bits .xor .u32 (bits .xor .u32 (bits .and .u32 (a : Int) (b : Int)) (bits .and .u32 (a : Int) (c : Int))) (bits .and .u32 (b : Int) (c : Int)) = ((mostW a b c : Nat) : Int) :=
  u32_xor (u32_xor (u32_and rfl rfl ha hb) (u32_and rfl rfl ha hc) (and_lt hb) (and_lt hc)) (u32_and rfl rfl hb hc) (xor_lt (and_lt hb) (and_lt hc)) (and_lt hc)
theorem big1_bits (x : Nat) (hx : x < 4294967296) : bits .xor .u32 (bits .xor .u32 ((rot x 6 : Nat) : Int) ((rot x 11 : Nat) : Int)) ((rot x 25 : Nat) : Int) = ((big1 x : Nat) : Int) := big_bits x 6 11 25 hx
theorem big0_bits (x : Nat) (hx : x < 4294967296) : bits .xor .u32 (bits .xor .u32 ((rot x 2 : Nat) : Int) ((rot x 13 : Nat) : Int)) ((rot x 22 : Nat) : Int) = ((big0 x : Nat) : Int) := big_bits x 2 13 22 hx
theorem choose_bits (e f g : Nat) (he : e < 4294967296) (hf : f < 4294967296) (hg : g < 4294967296) : bits .xor .u32 (bits .and .u32 (e : Int) (f : Int)) (bits .and .u32 (bits .xor .u32 (if IntKind.u32.signed = true then -1 else IntKind.u32.max) (e : Int)) (g : Int)) = ((choiceW e f g : Nat) : Int) :=
  u32_xor (u32_and rfl rfl he hf) (u32_and (u32_xor (show _ = ((4294967295 : Nat) : Int) from rfl) rfl (by decide) he) rfl (xor_lt (by decide) he) hg) (and_lt hf) (and_lt hg)
theorem tee_wrap (h s c y z : Nat) : (((h : Int) + (s : Int) + (c : Int) + (y : Int)) % 4294967296 + (z : Int)) % 4294967296 = (((h + s + c + y + z) % 4294967296 : Nat) : Int) := by omega
theorem new_wrap (t r m : Nat) : IntKind.u32.wrap (IntKind.u32.wrap ((t : Int) + (r : Int)) + (m : Int)) = (((t + r + m) % 4294967296 : Nat) : Int) := by
  rw [IntKind.wrap_u32, IntKind.wrap_u32]; omega
theorem five_wrap (d t : Nat) : IntKind.u32.wrap ((d : Int) + (t : Int)) = (((d + t) % 4294967296 : Nat) : Int) := by
  rw [IntKind.wrap_u32]; omega
theorem sum2 (x y : Nat) : IntKind.u32.wrap ((x : Int) + (y : Int)) = (((x + y) % 4294967296 : Nat) : Int) := by rw [IntKind.wrap_u32]; omega
theorem swap_next (A B : List Nat) (k : Nat) (hA : k < A.length) (hB : k < B.length) : (A.take k ++ B.drop k).set k (A.getD k 0) = A.take (k + 1) ++ B.drop (k + 1) := by
  have hl : (A.take k).length = k := by rw [List.length_take]; omega
  rw [List.drop_eq_getElem_cons hB, List.set_append, if_neg (by omega), hl, Nat.sub_self, List.set_cons_zero, List.take_succ_eq_append_getElem hA]
  rw [List.append_assoc]
  simp [List.getD, hA]
theorem swap_at (A B : List Nat) (k : Nat) (hA : k < A.length) (hB : k < B.length) : (A.take k ++ B.drop k).getD k 0 = B.getD k 0 := by
  have hl : (A.take k).length = k := by rw [List.length_take]; omega
  simp [List.getD, List.getElem?_append_right, hl, hB]
theorem add_at (V H : Eight) (k : Nat) (h : k < 8) : (addE V H).list.getD k 0 = (V.list.getD k 0 + H.list.getD k 0) % 4294967296 := by
  rcases (show k = 0 ∨ k = 1 ∨ k = 2 ∨ k = 3 ∨ k = 4 ∨ k = 5 ∨ k = 6 ∨ k = 7 by omega) with rfl | rfl | rfl | rfl | rfl | rfl | rfl | rfl <;> rfl
def RoundIn (W : World) (P : List (Nat × Nat)) (H : Eight) (sv si : Value) (wr : World) : Prop := ∃ k : Nat, k ≤ 64 ∧ si = .int .i64 (k : Int) ∧ Own32 wr W.heap.size sv (shaSteps (P.take k) H).list ∧ Keeps W wr
def LastIn (W : World) (V H : Eight) (sv si : Value) (wr : World) : Prop := ∃ k : Nat, k ≤ 8 ∧ si = .int .i64 (k : Int) ∧ Own32 wr W.heap.size sv ((addE V H).list.take k ++ V.list.drop k) ∧ Keeps W wr
theorem turn_at (x n : Nat) (z : Int) (hz : z = (n : Int)) (hn : n ≤ 32) (hx : x < 4294967296) (w : World) : Calls Tryd.prog 82 #[.int .u32 (x : Int), .int .i64 z] w (fun e w' => e = .returned (.int .u32 ((rot x n : Nat) : Int)) ∧ ∃ m, w' = w.drewN m) := by
  subst hz; exact ref_turn x n hx hn w
theorem steps_append (l : List (Nat × Nat)) (k w : Nat) : ∀ v, shaSteps (l ++ [(k, w)]) v = shaStep (shaSteps l v) k w := by
  induction l with
  | nil => intro v; rfl
  | cons p r ih => intro v; obtain ⟨a, b⟩ := p; exact ih _
theorem steps_next (l m : List Nat) (H : Eight) (k : Nat) (h1 : k < l.length) (h2 : k < m.length) : shaSteps ((l.zip m).take (k + 1)) H = shaStep (shaSteps ((l.zip m).take k) H) (l.getD k 0) (m.getD k 0) := by
  rw [← steps_append]
  congr 1
  rw [List.take_add_one]
  congr 1
  have e : (l.zip m)[k]? = some (l[k], m[k]) := by rw [List.getElem?_eq_getElem (by simp; omega)]; simp
  rw [e]
  simp [h1, h2, List.getD]
set_option maxHeartbeats 2000000 in
set_option maxRecDepth 100000 in
theorem ref_block (vh v : Value) (H : Eight) (bs : List Nat) (w : World) (hh : Holds32 w vh H.list) (h : Holds8 w v bs) (hl : bs.length = 64) : Calls Tryd.prog 74 #[vh, v] w (Gives w (blockE H bs).list) := by
  obtain ⟨i0, hi, hz0, hz1, hz2⟩ := info_parts info32
  have WW := Lib.hid (ref_words v bs w h hl)
  have SH := Lib.hid hh.1
  obtain ⟨bh, oh, nh, ch, rfl, hn, hnc, hcm, hb, cs⟩ := hh.open (by simp [Eight.list])
  obtain ⟨ao, n, c, rfl⟩ : ∃ ao n c, v = .slice ao n c := by obtain ⟨_, ao, n, c, rfl, _⟩ := h; exact ⟨ao, n, c, rfl⟩
  have hn : nh = 8 := by rw [← hn]; rfl
  subst hn
  have CS := Lib.hid (fun (W : World) (k : Keeps w W) (i : Nat) (hi : i < 8) => (k.cell hb).trans (cs i hi))
  clear cs h hh
  go_enter Tryd.func74, Tryd.ntmps74
  go_upto_region 3 with (first
    | (go_at_call 80; (with_reducible refine WW.out.mono ?_); rintro e w1 ⟨vw, rfl, hw, hk1, _⟩)
    | (go_at_call 81; (with_reducible refine (ref_adds _).mono ?_); rintro e w2 ⟨vk, rfl, hkk, hk2, _⟩))
  have hk : Keeps w w2 := by (focus ((repeat (first | with_reducible exact Keeps.refl _ | with_reducible assumption | with_reducible refine Keeps.alloc ?_ _ | with_reducible refine Keeps.drew ?_ | with_reducible refine Keeps.drewN ?_ _ | with_reducible refine Keeps.trans ?_ (by with_reducible assumption))); done))
  replace hw := hw.keeps hk2
  have hwl : (schedule bs).length = 64 := by rw [schedule, grow_len, words_len]
  have HW := Lib.hid hw
  have HA := Lib.hid hkk
  have HKK := Lib.hid hk
  obtain ⟨bw, ow, nw, cw, rfl, en, _, _, hbw, cw2⟩ := hw.open (by omega)
  obtain ⟨bk, ok, nk, ck, rfl, en2, _, _, hbk, ck2⟩ := hkk.open (by decide)
  have e64 : nw = 64 := by rw [← en, hwl]
  have e642 : nk = 64 := by rw [← en2]; rfl
  subst e64 e642
  have CW := Lib.hid (fun (W : World) (k : Keeps w2 W) (i : Nat) (hi : i < 64) => (k.cell hbw).trans (cw2 i (by omega)))
  have CK := Lib.hid (fun (W : World) (k : Keeps w2 W) (i : Nat) (hi : i < 64) => (k.cell hbk).trans (ck2 i hi))
  have LW := Lib.hid hw.lt
  have LK := Lib.hid hkk.lt
  clear cw2 ck2 hw hkk hk1 hk2 hk en en2
  have hown := World.ownsRow_made (base := w2.heap.size) (e := 74) (size := 1) w2 #[] 0 (Nat.le_refl _) (Nat.zero_le _) rfl
  go_wp2_with (at_builtin; refine wpList_append_own _ rfl (.tmp 18) (.tmp 19) 98 rfl w2.heap.size 74 i0 (.int .u32 0) 1 4 Tryd.underlying98 hi hz0 hz1 hz2 rfl (by decide) _ 0 [] rfl hown ⟨bh, oh, none⟩ 8 ch (vals H.list) rfl ?c1 ?c2 ?c3 ?c4 ?c5 ?c6 ?_)
  case c1 => rfl
  case c2 =>
    intro j u hj
    have hj8 : j < 8 := by
      have := (List.getElem?_eq_some_iff.1 hj).1
      simpa [vals, Eight.list] using this
    rw [vals_getD _ _ hj8] at hj
    cases hj
    have e : (⟨bh, oh, none⟩ : Addr).add j = ⟨bh, oh + j, none⟩ := by simp [Addr.add]
    rw [e]
    exact CS.out _ (HKK.out.trans (by (focus ((repeat (first | with_reducible exact Keeps.refl _ | with_reducible assumption | with_reducible refine Keeps.alloc ?_ _ | with_reducible refine Keeps.drew ?_ | with_reducible refine Keeps.drewN ?_ _ | with_reducible refine Keeps.trans ?_ (by with_reducible assumption))); done)))) j hj8
  case c3 => intro u hu; obtain ⟨x, _, rfl⟩ := List.mem_map.1 hu; rfl
  case c4 => unfold maxLen; omega
  case c5 => omega
  case c6 => simp
  intro v0 w3 ho hg _
  have hk3 := Below.grown ((Keeps.refl w2).alloc _) hg (by simp) (fun g e => by cases e; exact Nat.le_refl _)
  have HO := Lib.hid (show Own32 w3 w2.heap.size v0 H.list from ⟨by simpa [vals, Eight.list] using ho, SH.out⟩)
  have HK3 := Lib.hid (show Keeps w2 w3 from hk3)
  clear ho hg hk3 hown
  go_wp2_with fail
  go_loopw [7, 8] (fun sv si wr => RoundIn w2 (addW.zip (schedule bs)) H sv si wr) (fun _ si _ => 64 - (intOf si).toNat)
  case atStart => exact ⟨0, by omega, rfl, HO.out, HK3.out⟩
  case round =>
    obtain ⟨k, hk, rfl, hown, hK⟩ := hrel
    by_cases g : k < 64
    · have ST := Lib.hid (steps_next addW (schedule bs) H k (by rw [show addW.length = 64 from rfl]; exact g) (by omega))
      generalize shaSteps ((addW.zip (schedule bs)).take k) H = V at *
      obtain ⟨l0, l1, l2, l3, l4, l5, l6, l7⟩ := small8_of hown.2
      obtain ⟨gb, cap, rfl, hgb⟩ := hown.parts (by simp [Eight.list])
      obtain ⟨xa, xb, xc, xd, xe, xf, xg, xh⟩ := V
      simp only at l0 l1 l2 l3 l4 l5 l6 l7
      have C0 : wr.cell? ⟨gb, 0, none⟩ = some (.int .u32 (xa : Int)) := (hown.cell 0 (by simp [Eight.list])).1
      have C1 : wr.cell? ⟨gb, 1, none⟩ = some (.int .u32 (xb : Int)) := (hown.cell 1 (by simp [Eight.list])).1
      have C2 : wr.cell? ⟨gb, 2, none⟩ = some (.int .u32 (xc : Int)) := (hown.cell 2 (by simp [Eight.list])).1
      have C3 : wr.cell? ⟨gb, 3, none⟩ = some (.int .u32 (xd : Int)) := (hown.cell 3 (by simp [Eight.list])).1
      have C4 : wr.cell? ⟨gb, 4, none⟩ = some (.int .u32 (xe : Int)) := (hown.cell 4 (by simp [Eight.list])).1
      have C5 : wr.cell? ⟨gb, 5, none⟩ = some (.int .u32 (xf : Int)) := (hown.cell 5 (by simp [Eight.list])).1
      have C6 : wr.cell? ⟨gb, 6, none⟩ = some (.int .u32 (xg : Int)) := (hown.cell 6 (by simp [Eight.list])).1
      have C7 : wr.cell? ⟨gb, 7, none⟩ = some (.int .u32 (xh : Int)) := (hown.cell 7 (by simp [Eight.list])).1
      have CKk := CK.out wr hK k g
      have CWk := CW.out wr hK k g
      have lk := LK.out k
      have lw := LW.out k
      obtain ⟨y, ey⟩ : ∃ y, y = addW.getD k 0 := ⟨_, rfl⟩
      obtain ⟨z, ez⟩ : ∃ z, z = (schedule bs).getD k 0 := ⟨_, rfl⟩
      rw [← ey] at CKk lk ST
      rw [← ez] at CWk lw ST
      clear ey ez
      have k0 : (0 : Int) ≤ (k : Int) := by omega
      have k1 : (k : Int) < 64 := by omega
      have HO := Lib.hid hown
      have HK := Lib.hid hK
      have KB := Lib.hid g
      clear hown hK g hk
      rw [show (Eight.list ⟨xa, xb, xc, xd, xe, xf, xg, xh⟩).length = 8 from rfl]
      have T6 := Lib.hid (turn_at xe 6 6 rfl (by decide) l4)
      have T11 := Lib.hid (turn_at xe 11 11 rfl (by decide) l4)
      have T25 := Lib.hid (turn_at xe 25 25 rfl (by decide) l4)
      have T2 := Lib.hid (turn_at xa 2 2 rfl (by decide) l0)
      have T13 := Lib.hid (turn_at xa 13 13 rfl (by decide) l0)
      have T22 := Lib.hid (turn_at xa 22 22 rfl (by decide) l0)
      go_upto_region 7 with fail
      go_quiet (first
        | (go_at_call 82; with_reducible exact Calls.quiet_of (T6.out _))
        | (go_at_call 82; with_reducible exact Calls.quiet_of (T11.out _))
        | (go_at_call 82; with_reducible exact Calls.quiet_of (T25.out _)))
      revert nq; intro n1
      rw [big1_bits xe l4]
      go_upto_region 8 with fail
      go_quiet (fail)
      revert nq; intro n2
      rw [choose_bits xe xf xg l4 l5 l6]
      go_upto_region 9 with fail
      go_quiet (fail)
      revert nq; intro n3
      rw [tee_wrap xh (big1 xe) (choiceW xe xf xg) y z]
      obtain ⟨T, eT⟩ : ∃ T, T = xh + big1 xe + choiceW xe xf xg + y + z := ⟨_, rfl⟩
      obtain ⟨t, et⟩ : ∃ t, t = T % 4294967296 := ⟨_, rfl⟩
      rw [← eT, ← et]
      have ET := Lib.hid eT
      have Et := Lib.hid et
      clear eT et
      generalize hW : ((wr.drewN n1).drewN n2).drewN n3 = W1
      have K1 := Lib.hid (show Keeps wr W1 by rw [← hW]; exact (((Keeps.refl wr).drewN n1).drewN n2).drewN n3)
      replace C0 := (K1.out.cell HO.out.below).trans C0
      replace C1 := (K1.out.cell HO.out.below).trans C1
      replace C2 := (K1.out.cell HO.out.below).trans C2
      replace C3 := (K1.out.cell HO.out.below).trans C3
      replace C4 := (K1.out.cell HO.out.below).trans C4
      replace C5 := (K1.out.cell HO.out.below).trans C5
      replace C6 := (K1.out.cell HO.out.below).trans C6
      replace C7 := (K1.out.cell HO.out.below).trans C7
      clear CKk CWk hW
      go_upto_region 10 with fail
      go_quiet (first
        | (go_at_call 82; with_reducible exact Calls.quiet_of (T2.out _))
        | (go_at_call 82; with_reducible exact Calls.quiet_of (T13.out _))
        | (go_at_call 82; with_reducible exact Calls.quiet_of (T22.out _)))
      revert nq; intro n4
      rw [big0_bits xa l0]
      go_upto_region 11 with fail
      go_quiet (fail)
      revert nq; intro n5
      rw [most_bits xa xb xc l0 l1 l2]
      go_upto_region 12 with fail
      generalize hW : (W1.drewN n4).drewN n5 = W2
      have KW := Lib.hid (show Keeps wr W2 by rw [← hW]; exact (K1.out.drewN n4).drewN n5)
      have SK := Lib.hid (show ∀ W, Keeps W2 W → W.cell? ⟨gb, 0, none⟩ = some (.int .u32 (xa : Int)) ∧ W.cell? ⟨gb, 1, none⟩ = some (.int .u32 (xb : Int)) ∧ W.cell? ⟨gb, 2, none⟩ = some (.int .u32 (xc : Int)) ∧ W.cell? ⟨gb, 3, none⟩ = some (.int .u32 (xd : Int)) ∧ W.cell? ⟨gb, 4, none⟩ = some (.int .u32 (xe : Int)) ∧ W.cell? ⟨gb, 5, none⟩ = some (.int .u32 (xf : Int)) ∧ W.cell? ⟨gb, 6, none⟩ = some (.int .u32 (xg : Int)) ∧ W.cell? ⟨gb, 7, none⟩ = some (.int .u32 (xh : Int)) from fun W K => by
        have hC : Keeps W1 W := (show Keeps W1 W2 by rw [← hW]; exact ((Keeps.refl W1).drewN n4).drewN n5).trans K
        have hb1 := Nat.lt_of_lt_of_le HO.out.below K1.out.size
        exact ⟨(hC.cell hb1).trans C0, (hC.cell hb1).trans C1, (hC.cell hb1).trans C2, (hC.cell hb1).trans C3, (hC.cell hb1).trans C4, (hC.cell hb1).trans C5, (hC.cell hb1).trans C6, (hC.cell hb1).trans C7⟩)
      clear C0 C1 C2 C3 C4 C5 C6 C7 T6 T11 T25 T2 T13 T22 hW
      go_region_held3 (fun W => W.cell? ⟨gb, 0, none⟩ = some (.int .u32 (xa : Int)) ∧ W.cell? ⟨gb, 1, none⟩ = some (.int .u32 (xb : Int)) ∧ W.cell? ⟨gb, 2, none⟩ = some (.int .u32 (xc : Int)) ∧ W.cell? ⟨gb, 3, none⟩ = some (.int .u32 (xd : Int)) ∧ W.cell? ⟨gb, 4, none⟩ = some (.int .u32 (xe : Int)) ∧ W.cell? ⟨gb, 5, none⟩ = some (.int .u32 (xf : Int)) ∧ W.cell? ⟨gb, 6, none⟩ = some (.int .u32 (xg : Int)) ∧ W.cell? ⟨gb, 7, none⟩ = some (.int .u32 (xh : Int)))
        (((refine SK.out _ ?_); (focus ((repeat (first | with_reducible exact Keeps.refl _ | with_reducible assumption | with_reducible refine Keeps.alloc ?_ _ | with_reducible refine Keeps.drew ?_ | with_reducible refine Keeps.drewN ?_ _ | with_reducible refine Keeps.trans ?_ (by with_reducible assumption))); done))))
        (fail)
      rw [new_wrap t (big0 xa) (mostW xa xb xc), five_wrap xd t]
      obtain ⟨p, ep⟩ : ∃ p, p = (t + big0 xa + mostW xa xb xc) % 4294967296 := ⟨_, rfl⟩
      obtain ⟨q, eq⟩ : ∃ q, q = (xd + t) % 4294967296 := ⟨_, rfl⟩
      rw [← ep, ← eq]
      have ES := Lib.hid (show (shaStep ⟨xa, xb, xc, xd, xe, xf, xg, xh⟩ y z).list = [p, xa, xb, xc, q, xe, xf, xg] by
        have e1 : tee ⟨xa, xb, xc, xd, xe, xf, xg, xh⟩ y z = T := by rw [ET.out]; rfl
        have e2 : (shaStep ⟨xa, xb, xc, xd, xe, xf, xg, xh⟩ y z).list = [(T + big0 xa + mostW xa xb xc) % 4294967296, xa, xb, xc, (xd + T) % 4294967296, xe, xf, xg] := by rw [← e1]; rfl
        have e3 := Et.out
        rw [e2, show (T + big0 xa + mostW xa xb xc) % 4294967296 = p by omega, show (xd + T) % 4294967296 = q by omega])
      have HL := Lib.hid (show Own32 (W2.alloc (.cells #[.int .u32 (p : Int), .int .u32 (xa : Int), .int .u32 (xb : Int), .int .u32 (xc : Int), .int .u32 (q : Int), .int .u32 (xe : Int), .int .u32 (xf : Int), .int .u32 (xg : Int)] 74)) w2.heap.size (.slice (some ⟨W2.heap.size, 0, none⟩) 8 8) [p, xa, xb, xc, q, xe, xf, xg] from
        own_lit W2 _ (Nat.le_trans HK.out.size KW.out.size) _ (by
          simp only [List.mem_cons, List.not_mem_nil, or_false]
          rintro x (rfl | rfl | rfl | rfl | rfl | rfl | rfl | rfl) <;> omega) (by simp) rfl rfl)
      clear ep eq SK
      go_wp2_with fail
      go_roundw
      case rel =>
        refine ⟨k + 1, KB.out, by go_num, ?_, ((HK.out.trans KW.out).alloc _).drew⟩
        rw [ST.out, ES.out]
        exact HL.out
      case measure => have := KB.out; simp [intOf]; omega
    · obtain rfl : k = 64 := by omega
      have hP : (addW.zip (schedule bs)).take 64 = addW.zip (schedule bs) := List.take_of_length_le (by rw [List.length_zip, hwl]; exact Nat.le_refl _)
      rw [hP] at hown
      obtain ⟨V, eV⟩ : ∃ V, V = shaSteps (addW.zip (schedule bs)) H := ⟨_, rfl⟩
      have EB := Lib.hid (show blockE H bs = addE V H by rw [blockE, eV])
      rw [← eV] at hown
      have HO := Lib.hid hown
      have HK := Lib.hid hK
      obtain ⟨gb, cap, rfl, hgb⟩ := hown.parts (by simp [Eight.list])
      rw [show V.list.length = 8 from rfl] at HO ⊢
      clear hown hK hk g eV hP
      go_wp2_with fail
      go_loopw [14] (fun si wr => LastIn w2 V H (.slice (some ⟨gb, 0, none⟩) 8 cap) si wr) (fun si _ => 8 - (intOf si).toNat)
      case atStart => exact ⟨0, by omega, rfl, HO.out, HK.out⟩
      case round =>
        clear HO HK
        obtain ⟨k, hk, rfl, hown, hK⟩ := hrel
        have hA : (addE V H).list.length = 8 := rfl
        have hB : V.list.length = 8 := rfl
        obtain ⟨L, eL⟩ : ∃ L, L = (addE V H).list.take k ++ V.list.drop k := ⟨_, rfl⟩
        rw [← eL] at hown
        have hL : L.length = 8 := by rw [eL, List.length_append, List.length_take, List.length_drop, hA, hB]; omega
        by_cases g : k < 8
        · have NX := Lib.hid (show (addE V H).list.take (k + 1) ++ V.list.drop (k + 1) = L.set k ((V.list.getD k 0 + H.list.getD k 0) % 4294967296) by
            rw [eL, ← add_at V H k g]; exact (swap_next _ _ k (by omega) (by omega)).symm)
          have ev : L.getD k 0 = V.list.getD k 0 := by rw [eL]; exact swap_at _ _ k (by omega) (by omega)
          have cv := hown.cell k (by omega)
          have ch2 := CS.out wr (HKK.out.trans hK) k g
          have lv := hown.lt k
          rw [ev] at cv lv
          generalize V.list.getD k 0 = x at *
          generalize H.list.getD k 0 = y at *
          obtain ⟨cv, fv⟩ := cv
          have k0 : (0 : Int) ≤ (k : Int) := by omega
          have k1 : (k : Int) < 8 := by omega
          have hne : gb ≠ bh := by have := HKK.out.size; omega
          have HO := Lib.hid hown
          have HK := Lib.hid hK
          have KB := Lib.hid g
          have LL := Lib.hid hL
          clear hown hK g hk eL ev hL hA hB
          go_upto_region 16 with fail
          go_region_with (fail)
          all_goals
            rw [sum2 x y]
            obtain ⟨d, ed⟩ : ∃ d, d = (x + y) % 4294967296 := ⟨_, rfl⟩
            have hd : d < 4294967296 := by omega
            rw [← ed]
            have EN := Lib.hid (show (addE V H).list.take (k + 1) ++ V.list.drop (k + 1) = L.set k d by rw [NX.out, ed])
            have HO2 := Lib.hid (HO.out.set k d (by have := LL.out; have := KB.out; omega) hd)
            have HK2 := Lib.hid (keeps_set (v := .int .u32 (d : Int)) (i := k) HK.out hgb)
            clear ed
            go_wp2_with fail
            go_roundw
            case rel => exact ⟨_, _, _, _, _, _, _, _, _, _, _, _, _, _, _, _, _, ⟨k + 1, KB.out, by go_num, by rw [EN.out]; exact HO2.out, HK2.out.drew⟩, rfl⟩
            case measure => have := KB.out; simp [intOf]; omega
        · obtain rfl : k = 8 := by omega
          have e8 : (addE V H).list.take 8 ++ V.list.drop 8 = (blockE H bs).list := by rw [EB.out]; rfl
          rw [eL, e8] at hown
          have HO := Lib.hid hown
          have HK := Lib.hid hK
          clear hown hK eL hL hA hB e8 hk g
          go_wp2_with fail
          go_ret
          exact ⟨_, rfl, HO.out.holds, HKK.out.trans HK.out, (fresh_own HO.out.1).later HKK.out⟩
end Go.Proofs.YtckikgfckihniaaDoor
