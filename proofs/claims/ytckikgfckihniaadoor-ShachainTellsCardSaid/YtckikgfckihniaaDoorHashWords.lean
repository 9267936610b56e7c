/- The document's own sums: the words of a block. -/
import Derived.Test.YtckikgfckihniaaDoorHashTurn
import Derived.Test.YtckikgfckihniaaDoorRow8
import Derived.Deep.RegionHeld3
import Derived.Deep.AppendLies
import Derived.Deep.RegionLaw
set_option linter.unusedVariables false
set_option linter.unusedSimpArgs false
set_option maxRecDepth 10000
namespace Go.Proofs.YtckikgfckihniaaDoor
open Go.RowKit Go.HashMath

theorem grow_succ : ∀ (n : Nat) (w : List Nat), grow (n + 1) w = grow n w ++ [nextW (grow n w)] := by
  intro n
  induction n with
  | zero => intro w; rfl
  | succ n ih => intro w; rw [grow, ih]; rfl
theorem grow_len (n : Nat) (w : List Nat) : (grow n w).length = w.length + n := by
  induction n with
  | zero => rfl
  | succ n ih => rw [grow_succ, List.length_append, ih]; rfl
theorem words_len (b : List Nat) : (wordsOf b).length = 16 := by simp [wordsOf]
def WordsIn (w : World) (bs : List Nat) (so si : Value) (wr : World) : Prop := ∃ k : Nat, k ≤ 16 ∧ si = .int .i64 (k : Int) ∧ Own32 wr w.heap.size so ((List.range k).map fun i => wordAt bs (4 * i)) ∧ Keeps w wr
def GrowIn (w : World) (bs : List Nat) (so si : Value) (wr : World) : Prop := ∃ k : Nat, k ≤ 48 ∧ si = .int .i64 ((16 + k : Nat) : Int) ∧ Own32 wr w.heap.size so (grow k (wordsOf bs)) ∧ Keeps w wr
theorem turn_lit7 (x : Nat) (hx : x < 4294967296) (w : World) : Calls Tryd.prog 82 #[.int .u32 (x : Int), .int .i64 7] w (fun e w' => e = .returned (.int .u32 ((rot x 7 : Nat) : Int)) ∧ ∃ m, w' = w.drewN m) := ref_turn x 7 hx (by decide) w
theorem turn_lit18 (x : Nat) (hx : x < 4294967296) (w : World) : Calls Tryd.prog 82 #[.int .u32 (x : Int), .int .i64 18] w (fun e w' => e = .returned (.int .u32 ((rot x 18 : Nat) : Int)) ∧ ∃ m, w' = w.drewN m) := ref_turn x 18 hx (by decide) w
theorem turn_lit17 (x : Nat) (hx : x < 4294967296) (w : World) : Calls Tryd.prog 82 #[.int .u32 (x : Int), .int .i64 17] w (fun e w' => e = .returned (.int .u32 ((rot x 17 : Nat) : Int)) ∧ ∃ m, w' = w.drewN m) := ref_turn x 17 hx (by decide) w
theorem turn_lit19 (x : Nat) (hx : x < 4294967296) (w : World) : Calls Tryd.prog 82 #[.int .u32 (x : Int), .int .i64 19] w (fun e w' => e = .returned (.int .u32 ((rot x 19 : Nat) : Int)) ∧ ∃ m, w' = w.drewN m) := ref_turn x 19 hx (by decide) w
theorem or_add {a b c : Nat} (k : Nat) (h : b < 2 ^ k) (e : a = 2 ^ k * c) : a ||| b = a + b := by subst e; exact (Nat.two_pow_add_eq_or_of_lt h c).symm
theorem word_bits {x0 x1 x2 x3 : Nat} (h0 : x0 < 256) (h1 : x1 < 256) (h2 : x2 < 256) (h3 : x3 < 256) :
    bits .or .u32 (bits .or .u32 (bits .or .u32 (IntKind.u32.wrap (IntKind.u32.wrap (x0 : Int) * 16777216)) (IntKind.u32.wrap (IntKind.u32.wrap (x1 : Int) * 65536))) (IntKind.u32.wrap (IntKind.u32.wrap (x2 : Int) * 256))) (IntKind.u32.wrap (x3 : Int)) = ((x0 * 16777216 + x1 * 65536 + x2 * 256 + x3 : Nat) : Int) := by
  have a0 : IntKind.u32.wrap (IntKind.u32.wrap (x0 : Int) * 16777216) = ((x0 * 16777216 : Nat) : Int) := by rw [IntWalk.u32_in (x0 : Int) (by omega), IntWalk.u32_in _ (by omega)]; omega
  have a1 : IntKind.u32.wrap (IntKind.u32.wrap (x1 : Int) * 65536) = ((x1 * 65536 : Nat) : Int) := by rw [IntWalk.u32_in (x1 : Int) (by omega), IntWalk.u32_in _ (by omega)]; omega
  have a2 : IntKind.u32.wrap (IntKind.u32.wrap (x2 : Int) * 256) = ((x2 * 256 : Nat) : Int) := by rw [IntWalk.u32_in (x2 : Int) (by omega), IntWalk.u32_in _ (by omega)]; omega
  have a3 : IntKind.u32.wrap (x3 : Int) = ((x3 : Nat) : Int) := IntWalk.u32_in _ (by omega)
  rw [a0, a1, a2, a3, u32_or rfl rfl (by omega) (by omega), or_add (c := x0) 24 (by omega) (by omega), u32_or rfl rfl (by omega) (by omega), or_add (c := x0 * 256 + x1) 16 (by omega) (by omega), u32_or rfl rfl (by omega) (by omega), or_add (c := x0 * 65536 + x1 * 256 + x2) 8 (by omega) (by omega)]
theorem sig_lt {x p q k : Nat} (hx : x < 4294967296) : rot x p ^^^ rot x q < 4294967296 ∧ x >>> k < 4294967296 ∧ rot x p ^^^ rot x q ^^^ (x >>> k) < 4294967296 := by
  have a := Nat.xor_lt_two_pow (n := 32) (rot_lt x p hx) (rot_lt x q hx)
  have b : x >>> k < 2 ^ 32 := by rw [Nat.shiftRight_eq_div_pow]; exact Nat.lt_of_le_of_lt (Nat.div_le_self _ _) hx
  exact ⟨a, b, Nat.xor_lt_two_pow (n := 32) a b⟩
theorem sig3 (x : Nat) (hx : x < 4294967296) : bits .xor .u32 (bits .xor .u32 ((rot x 7 : Nat) : Int) ((rot x 18 : Nat) : Int)) ((x : Int) / 8) = ((rot x 7 ^^^ rot x 18 ^^^ (x >>> 3) : Nat) : Int) := by
  have h := sig_lt (p := 7) (q := 18) (k := 3) hx
  exact u32_xor (u32_xor rfl rfl (rot_lt x 7 hx) (rot_lt x 18 hx)) (shr_cast x 3) h.1 h.2.1
theorem sig10 (x : Nat) (hx : x < 4294967296) : bits .xor .u32 (bits .xor .u32 ((rot x 17 : Nat) : Int) ((rot x 19 : Nat) : Int)) ((x : Int) / 1024) = ((rot x 17 ^^^ rot x 19 ^^^ (x >>> 10) : Nat) : Int) := by
  have h := sig_lt (p := 17) (q := 19) (k := 10) hx
  exact u32_xor (u32_xor rfl rfl (rot_lt x 17 hx) (rot_lt x 19 hx)) (shr_cast x 10) h.1 h.2.1
theorem sum4 (a s z t : Nat) : IntKind.u32.wrap (IntKind.u32.wrap (IntKind.u32.wrap ((a : Int) + (s : Int)) + (z : Int)) + (t : Int)) = (((a + s + z + t) % 4294967296 : Nat) : Int) := by
  rw [IntKind.wrap_u32, IntKind.wrap_u32, IntKind.wrap_u32]; omega
set_option maxHeartbeats 1000000 in
set_option maxRecDepth 100000 in
theorem ref_words (v : Value) (bs : List Nat) (w : World) (h : Holds8 w v bs) (hl : bs.length = 64) : Calls Tryd.prog 80 #[v] w (Gives w (schedule bs)) := by
  obtain ⟨i0, hi, hz0, hz1, hz2⟩ := info_parts info32
  have hx := Lib.hid h.lt
  obtain ⟨b, off, n, c, rfl, hn, hnc, hcm, hb, cs⟩ := h.open (by omega)
  have CS := Lib.hid (fun (wr : World) (k : Keeps w wr) (i : Nat) (hi : i < 64) => (k.cell hb).trans (cs i (by omega)))
  clear cs h
  rw [hl] at hn
  subst hn
  go_enter Tryd.func80, Tryd.ntmps80
  go_wp2_with fail
  go_loopw [3, 4] (fun so si wr => WordsIn w bs so si wr) (fun _ si _ => 16 - (intOf si).toNat)
  case atStart => exact ⟨0, by omega, rfl, ⟨World.ownsRow_nil _ _ _ _, by simp⟩, Keeps.refl w⟩
  case round =>
    obtain ⟨k, hk, rfl, hown, hK⟩ := hrel
    by_cases g : k < 16
    · have g1 : (k : Int) < 16 := by omega
      have k0 : (0 : Int) ≤ (k : Int) := by omega
      obtain ⟨m, em⟩ : ∃ m, m = 4 * k := ⟨_, rfl⟩
      have em2 : IntKind.i64.wrap (4 * (k : Int)) = (m : Int) := by rw [IntWalk.i64_in _ (by omega)]; omega
      have m0 : (0 : Int) ≤ (m : Int) := by omega
      have m1 : (m : Int) < 64 := by omega
      obtain ⟨q1, eq1⟩ : ∃ q, q = m + 1 := ⟨_, rfl⟩
      have u1 : IntKind.i64.wrap ((m : Int) + 1) = (q1 : Int) := by rw [IntWalk.i64_in _ (by omega)]; omega
      have v1 : (0 : Int) ≤ (q1 : Int) := by omega
      have y1 : (q1 : Int) < 64 := by omega
      obtain ⟨q2, eq2⟩ : ∃ q, q = m + 2 := ⟨_, rfl⟩
      have u2 : IntKind.i64.wrap ((m : Int) + 2) = (q2 : Int) := by rw [IntWalk.i64_in _ (by omega)]; omega
      have v2 : (0 : Int) ≤ (q2 : Int) := by omega
      have y2 : (q2 : Int) < 64 := by omega
      obtain ⟨q3, eq3⟩ : ∃ q, q = m + 3 := ⟨_, rfl⟩
      have u3 : IntKind.i64.wrap ((m : Int) + 3) = (q3 : Int) := by rw [IntWalk.i64_in _ (by omega)]; omega
      have v3 : (0 : Int) ≤ (q3 : Int) := by omega
      have y3 : (q3 : Int) < 64 := by omega
      have CX0 := fun W K => CS.out W K m (by omega)
      have CX1 := fun W K => CS.out W K q1 (by omega)
      have CX2 := fun W K => CS.out W K q2 (by omega)
      have CX3 := fun W K => CS.out W K q3 (by omega)
      have l0 := hx.out m
      have l1 := hx.out q1
      have l2 := hx.out q2
      have l3 := hx.out q3
      obtain ⟨x0, e0⟩ : ∃ x, x = bs.getD m 0 := ⟨_, rfl⟩
      obtain ⟨x1, e1⟩ : ∃ x, x = bs.getD q1 0 := ⟨_, rfl⟩
      obtain ⟨x2, e2⟩ : ∃ x, x = bs.getD q2 0 := ⟨_, rfl⟩
      obtain ⟨x3, e3⟩ : ∃ x, x = bs.getD q3 0 := ⟨_, rfl⟩
      rw [← e0] at CX0 l0
      rw [← e1] at CX1 l1
      rw [← e2] at CX2 l2
      rw [← e3] at CX3 l3
      have EQ := Lib.hid (show wordAt bs (4 * k) = x0 * 16777216 + x1 * 65536 + x2 * 256 + x3 by rw [wordAt, ← em, ← eq1, ← eq2, ← eq3, ← e0, ← e1, ← e2, ← e3])
      clear e0 e1 e2 e3 em eq1 eq2 eq3
      have HO := Lib.hid hown
      have HK := Lib.hid hK
      have SK := Lib.hid (show ∀ W, Keeps w W → W.cell? ⟨b, off + m, none⟩ = some (.int .u8 (x0 : Int)) ∧ W.cell? ⟨b, off + q1, none⟩ = some (.int .u8 (x1 : Int)) ∧ W.cell? ⟨b, off + q2, none⟩ = some (.int .u8 (x2 : Int)) ∧ W.cell? ⟨b, off + q3, none⟩ = some (.int .u8 (x3 : Int)) from fun W K => ⟨CX0 W K, CX1 W K, CX2 W K, CX3 W K⟩)
      clear CX0 CX1 CX2 CX3
      clear hown hK
      go_upto_region 5 with fail
      go_region_held3 (fun W => W.cell? ⟨b, off + m, none⟩ = some (.int .u8 (x0 : Int)) ∧ W.cell? ⟨b, off + q1, none⟩ = some (.int .u8 (x1 : Int)) ∧ W.cell? ⟨b, off + q2, none⟩ = some (.int .u8 (x2 : Int)) ∧ W.cell? ⟨b, off + q3, none⟩ = some (.int .u8 (x3 : Int)))
        (first
          | ((refine SK.out _ (HK.out.trans ?_)); (focus ((repeat (first | with_reducible exact Keeps.refl _ | with_reducible assumption | with_reducible refine Keeps.alloc ?_ _ | with_reducible refine Keeps.drew ?_ | with_reducible refine Keeps.drewN ?_ _ | with_reducible refine Keeps.trans ?_ (by with_reducible assumption))); done)))
          | (refine SK.out _ (keeps_grow2 (HK.out.trans ?_) (HO.out.1.alloc _).drew hgrow); (focus ((repeat (first | with_reducible exact Keeps.refl _ | with_reducible assumption | with_reducible refine Keeps.alloc ?_ _ | with_reducible refine Keeps.drew ?_ | with_reducible refine Keeps.drewN ?_ _ | with_reducible refine Keeps.trans ?_ (by with_reducible assumption))); done))))
        ((refine step_append_lies _ (by rfl) _ _ _ (by rfl) w.heap.size 74 i0 _ 1 4 Tryd.underlying98 hi hz0 hz1 hz2 rfl (by omega) _ _ _ (by rfl) (HO.out.1.alloc _).drew ⟨wr.heap.size, 0, none⟩ 1 1 _ (by rfl) (by rfl) (World.news_of_block (heap_alloc_new wr _)) (by simp [Value.oneCell']) (by omega) (by unfold maxLen; simp; omega) (by simp; omega) (by have := HK.out.size; simp; omega) (wr.heap.size + 1) (by simp) ?_; intro gg cap w1 hown1 hgrow hat hlt))
      have HO2 := Lib.hid hown1
      have HK2 := Lib.hid (keeps_grow2 (HK.out.trans (show Keeps wr _ by (focus ((repeat (first | with_reducible exact Keeps.refl _ | with_reducible assumption | with_reducible refine Keeps.alloc ?_ _ | with_reducible refine Keeps.drew ?_ | with_reducible refine Keeps.drewN ?_ _ | with_reducible refine Keeps.trans ?_ (by with_reducible assumption))); done)))) (HO.out.1.alloc _).drew hgrow)
      have EW := word_bits l0 l1 l2 l3
      rw [← EQ.out] at EW
      clear hown1 hgrow hat hlt
      go_wp2_with fail
      go_roundw
      case rel =>
        refine ⟨k + 1, by omega, by go_num, ⟨?_, ?_⟩, HK2.out⟩
        · have e := HO2.out
          rw [EW] at e
          rw [List.range_succ, List.map_append]
          simpa [vals] using e
        · intro x hx
          rw [List.range_succ, List.map_append] at hx
          rcases List.mem_append.1 hx with h | h
          · exact HO.out.2 x h
          · simp only [List.map_cons, List.map_nil, List.mem_singleton] at h
            rw [h, EQ.out]; omega
      case measure => simp [intOf]; omega
    · obtain rfl : k = 16 := by omega
      have HO := Lib.hid (show Own32 wr w.heap.size u3 (wordsOf bs) from hown)
      have HK := Lib.hid hK
      clear hown hK hk g
      go_wp2_with fail
      go_loopw [3, 5] (fun so si wr => GrowIn w bs so si wr) (fun _ si _ => 64 - (intOf si).toNat)
      case atStart => exact ⟨0, by omega, rfl, HO.out, HK.out⟩
      case round =>
        clear HO HK
        obtain ⟨k, hk, rfl, hown, hK⟩ := hrel
        obtain ⟨L, eL⟩ : ∃ L, L = grow k (wordsOf bs) := ⟨_, rfl⟩
        have hL : L.length = 16 + k := by rw [eL, grow_len, words_len]
        have GL := Lib.hid (show grow (k + 1) (wordsOf bs) = L ++ [nextW L] by rw [grow_succ, eL])
        rw [← eL] at hown
        obtain ⟨i, ei⟩ : ∃ i, i = 16 + k := ⟨_, rfl⟩
        rw [← ei] at hL ⊢
        by_cases g : k < 48
        · have EL := Lib.hid eL
          clear eL
          obtain ⟨gb, cap, rfl, hgb⟩ := hown.parts (by omega)
          rw [hL]
          obtain ⟨x, ex⟩ : ∃ x, x = L.getD (k + 1) 0 := ⟨_, rfl⟩
          obtain ⟨y, ey⟩ : ∃ y, y = L.getD (k + 14) 0 := ⟨_, rfl⟩
          obtain ⟨a, ea⟩ : ∃ a, a = L.getD k 0 := ⟨_, rfl⟩
          obtain ⟨z, ez⟩ : ∃ z, z = L.getD (k + 9) 0 := ⟨_, rfl⟩
          have lx := hown.lt (k + 1)
          have ly := hown.lt (k + 14)
          have la := hown.lt k
          have lz := hown.lt (k + 9)
          have cx := (hown.cell (k + 1) (by omega)).1
          have cy := (hown.cell (k + 14) (by omega)).1
          have ca := (hown.cell k (by omega)).1
          have cz := (hown.cell (k + 9) (by omega)).1
          rw [← ex] at lx cx
          rw [← ey] at ly cy
          rw [← ea] at la ca
          rw [← ez] at lz cz
          have EN := Lib.hid (show nextW L = sch a x z y by
            rw [nextW, hL, ei, show 16 + k - 16 = k by omega, show 16 + k - 15 = k + 1 by omega, show 16 + k - 7 = k + 9 by omega, show 16 + k - 2 = k + 14 by omega, ← ex, ← ey, ← ea, ← ez])
          clear ex ey ea ez
          obtain ⟨j15, e15⟩ : ∃ j, j = k + 1 := ⟨_, rfl⟩
          obtain ⟨j2, e2⟩ : ∃ j, j = k + 14 := ⟨_, rfl⟩
          obtain ⟨j7, e7⟩ : ∃ j, j = k + 9 := ⟨_, rfl⟩
          rw [← e15] at cx
          rw [← e2] at cy
          rw [← e7] at cz
          have w15 : IntKind.i64.wrap ((i : Int) - 15) = (j15 : Int) := by rw [IntWalk.i64_in _ (by omega)]; omega
          have w2 : IntKind.i64.wrap ((i : Int) - 2) = (j2 : Int) := by rw [IntWalk.i64_in _ (by omega)]; omega
          have w7 : IntKind.i64.wrap ((i : Int) - 7) = (j7 : Int) := by rw [IntWalk.i64_in _ (by omega)]; omega
          have w16 : IntKind.i64.wrap ((i : Int) - 16) = (k : Int) := by rw [IntWalk.i64_in _ (by omega)]; omega
          have p1 : (0 : Int) ≤ (j15 : Int) := by omega
          have p2 : (j15 : Int) < (i : Int) := by omega
          have p3 : (0 : Int) ≤ (j2 : Int) := by omega
          have p4 : (j2 : Int) < (i : Int) := by omega
          have p5 : (0 : Int) ≤ (j7 : Int) := by omega
          have p6 : (j7 : Int) < (i : Int) := by omega
          have p7 : (0 : Int) ≤ (k : Int) := by omega
          have p8 : (k : Int) < (i : Int) := by omega
          have g1 : (i : Int) < 64 := by omega
          have T := Lib.hid (fun W => And.intro (turn_lit7 x lx W) (And.intro (turn_lit18 x lx W) (And.intro (turn_lit17 y ly W) (turn_lit19 y ly W))))
          have HO := Lib.hid hown
          have HK := Lib.hid hK
          have EI := Lib.hid ei
          have LL := Lib.hid hL
          have KB := Lib.hid g
          clear hown hK ei e15 e2 e7 hL g
          go_upto_region 13 with (first
            | (go_at_call 82; (with_reducible refine (T.out _).1.mono ?_); rintro e w' ⟨rfl, m1, rfl⟩)
            | (go_at_call 82; (with_reducible refine (T.out _).2.1.mono ?_); rintro e w' ⟨rfl, m2, rfl⟩)
            | (go_at_call 82; (with_reducible refine (T.out _).2.2.1.mono ?_); rintro e w' ⟨rfl, m3, rfl⟩)
            | (go_at_call 82; (with_reducible refine (T.out _).2.2.2.mono ?_); rintro e w' ⟨rfl, m4, rfl⟩))
          rw [sig3 x lx, sig10 y ly]
          generalize hW : wr.drewN (m1 + m2 + m3 + m4) = W2
          have HO : Hid (Own32 W2 w.heap.size (.slice (some ⟨gb, 0, none⟩) i cap) L) := Lib.hid (by rw [← hW]; have h := HO.out; rw [LL.out] at h; exact h)
          have HK : Hid (Keeps w W2) := Lib.hid (by rw [← hW]; exact HK.out.drewN _)
          replace ca : W2.cell? ⟨gb, k, none⟩ = some (.int .u32 (a : Int)) := by rw [← hW]; exact ca
          replace cz : W2.cell? ⟨gb, j7, none⟩ = some (.int .u32 (z : Int)) := by rw [← hW]; exact cz
          obtain ⟨s, es⟩ : ∃ s, s = rot x 7 ^^^ rot x 18 ^^^ (x >>> 3) := ⟨_, rfl⟩
          obtain ⟨t, et⟩ : ∃ t, t = rot y 17 ^^^ rot y 19 ^^^ (y >>> 10) := ⟨_, rfl⟩
          have ES := Lib.hid (show sch a x z y = (a + s + z + t) % 4294967296 by rw [sch, es, et])
          rw [← es, ← et]
          clear es et T hW cx cy
          go_region_law (refine step_append_lies _ (by rfl) _ _ _ (by rfl) w.heap.size 74 i0 _ 1 4 Tryd.underlying98 hi hz0 hz1 hz2 rfl (by omega) _ _ _ (by rfl) (HO.out.1.alloc _) ⟨W2.heap.size, 0, none⟩ 1 1 _ (by rfl) (by rfl) (World.news_of_block (heap_alloc_new _ _)) (by simp [Value.oneCell']) (by omega) (by have := LL.out; have := KB.out; unfold maxLen; omega) (by have := LL.out; have := KB.out; omega) (by have := HK.out.size; simp; omega) (W2.heap.size + 1) (by simp) ?_; intro gg cap2 w1 hown1 hgrow hat hlt)
          all_goals
            have HO2 := Lib.hid hown1
            have HK2 := Lib.hid (keeps_grow2 (HK.out.trans (show Keeps W2 _ by (focus ((repeat (first | with_reducible exact Keeps.refl _ | with_reducible assumption | with_reducible refine Keeps.alloc ?_ _ | with_reducible refine Keeps.drew ?_ | with_reducible refine Keeps.drewN ?_ _ | with_reducible refine Keeps.trans ?_ (by with_reducible assumption))); done)))) ((HO.out.1.alloc _).drew) hgrow)
            have EW := Lib.hid (sum4 a s z t)
            clear hown1 hgrow hat hlt
            go_wp2_with fail
            go_roundw
            case rel =>
              have ei := EI.out
              refine ⟨k + 1, by have := KB.out; omega, by rw [ei]; go_num, ⟨?_, ?_⟩, HK2.out⟩
              · have e := HO2.out
                rw [EW.out, ← ES.out, ← EN.out] at e
                rw [GL.out, List.length_append]
                simpa [vals, LL.out] using e
              · intro x hx
                rw [GL.out] at hx
                rcases List.mem_append.1 hx with h | h
                · exact HO.out.2 x h
                · rw [List.mem_singleton] at h
                  rw [h, EN.out, ES.out]
                  exact Nat.mod_lt _ (by decide)
            case measure => have := KB.out; have := EI.out; simp [intOf]; omega
        · obtain rfl : k = 48 := by omega
          have HO := Lib.hid (show Own32 wr w.heap.size _ (schedule bs) by rw [schedule, ← eL]; exact hown)
          have HK := Lib.hid hK
          have g1 : ¬ (i : Int) < 64 := by omega
          clear hown hK eL GL hL ei
          go_wp2_with fail
          go_ret
          exact ⟨_, rfl, HO.out.holds, HK.out, fresh_own HO.out.1⟩
end Go.Proofs.YtckikgfckihniaaDoor
