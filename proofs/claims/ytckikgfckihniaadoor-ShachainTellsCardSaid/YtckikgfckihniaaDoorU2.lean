/- Texts of one proof, laid together: CodeRef, RowCut, CodeRefR, CodeRefS, CodeSmall, CodePart, CodeLaid, CodeReadL, CodeFacts, CodeRows, CodeIn, ArgInts, Args, ShaIn, ShaMathT, ShaRef, ShaSec, Len64, ShaOwnA, Vars, ShaOwnTo, CodeNext, CodeTake, CodeRead, CodeReaders, CodePut, CodeHere. -/
import Derived.Test.YtckikgfckihniaaDoorU1
import Derived.Test.YtckikgfckihniaaDoorCodeKit
import Derived.Test.YtckikgfckihniaaDoorRowN
import Derived.Laws.Bits128
import Derived.Test.YtckikgfckihniaaDoorSumEq
import Derived.Deep.RegionHeld3
import Derived.Great.BuildSlice
import Derived.Great.FillDense
import Derived.OpenShut
import Derived.Deep.Slices
import Derived.Deep.Matrix
import Derived.ChangeSame
import Derived.SizedLaws
import Derived.Test.YtckikgfckihniaaDoorSlice
import Derived.Test.YtckikgfckihniaaDoorSumLoad
import Derived.Test.YtckikgfckihniaaDoorRowB
import Derived.Test.YtckikgfckihniaaDoorShaKit
import Derived.Lib.BitFns
import Derived.Lib.TrailingZeros
import Derived.Test.YtckikgfckihniaaDoorHashSum
import Derived.Test.YtckikgfckihniaaDoorSumSlice
import Derived.Laws.BitsAllLaws
import Derived.StillTailTactics
import Derived.Test.YtckikgfckihniaaDoorProg
import Derived.WalkKit
import Derived.Lib.Walk
import Derived.Lib.Hide
import Derived.Outline
import Derived.Laws.Bits64b
import Derived.Test.YtckikgfckihniaaDoorDrawnS
import Derived.Laws.StructEq
import Derived.WalkMore
import Derived.Lib.SliceRun
import Derived.Lib.AppendZerosOnto
set_option linter.unusedVariables false
set_option linter.unusedSimpArgs false
set_option maxRecDepth 10000
/- The document's own laying: rows of numbers, bytes, sums. -/
namespace Go.Proofs.YtckikgfckihniaaDoor
open Go.RowKit Go.HashMath Go.CodeMath

theorem own_keeps {w w' : World} {v : Value} {xs : List Nat} (hg : w.grownBy w' v.ownBlock) (h : Own8 w w.heap.size v xs) : Keeps w w' :=
  Below.grown (Below.refl w.heap.size w) hg (Nat.le_refl _) (fun g e => (h.1.lt g e).1)
theorem one_lt {d : Nat} (h : d < 256) : ∀ x ∈ [d], x < 256 := by intro x hx; rw [List.mem_singleton] at hx; omega
set_option maxHeartbeats 1000000 in
set_option maxRecDepth 100000 in
theorem ref8_row (n : Nat) : ∀ (w : World), n < 9223372036854775808 → Calls Tryd.prog 69 #[.int .i64 (n : Int)] w (GivesO w (row n)) := by
  induction n using Nat.strongRecOn with
  | _ n ih =>
    intro w hn
    have n0 : (0 : Int) ≤ (n : Int) := by omega
    have n1 : (n : Int) ≤ 9223372036854775807 := by omega
    by_cases g : n < 128
    · rw [row_small g]
      have g1 : (n : Int) < 128 := by omega
      have e1 : IntKind.u8.wrap (n : Int) = (n : Int) := IntWalk.u8_in _ (by omega)
      have OW := Lib.hid (fun (c : Array Value) (hc : c = (vals8 [n]).toArray) => own_lit8 w w.heap.size (Nat.le_refl _) [n] (one_lt (by omega)) (by simp) hc (n := 1) rfl)
      clear ih hn g
      go_enter Tryd.func69, Tryd.ntmps69
      go_wp2_with fail
      go_ret
      exact ⟨_, rfl, OW.out _ rfl, by (focus ((repeat (first | with_reducible exact Keeps.refl _ | with_reducible assumption | with_reducible refine Keeps.alloc ?_ _ | with_reducible refine Keeps.drew ?_ | with_reducible refine Keeps.drewN ?_ _ | with_reducible refine Keeps.trans ?_ (by with_reducible assumption))); done))⟩
    · rw [row_big g]
      have g1 : ¬ (n : Int) < 128 := by omega
      have IH := Lib.hid (fun w => ih (n / 128) (by omega) w (by omega))
      obtain ⟨d, ed⟩ : ∃ d, d = n % 128 := ⟨_, rfl⟩
      obtain ⟨m, em⟩ : ∃ m, m = n / 128 := ⟨_, rfl⟩
      have e1 : (n : Int) % 128 = (d : Int) := by omega
      have e2 : (n : Int) / 128 = (m : Int) := by omega
      have e3 : IntKind.u8.wrap (d : Int) = (d : Int) := IntWalk.u8_in _ (by omega)
      have e4 : IntKind.u8.wrap ((d : Int) + 128) = ((d + 128 : Nat) : Int) := by rw [IntWalk.u8_in _ (by omega)]; rfl
      rw [← ed, ← em]
      rw [← em] at IH
      have ML := Lib.hid (row_len9 (n := m) (by omega))
      have OW := Lib.hid (fun (c : Array Value) (hc : c = (vals8 [d + 128]).toArray) => own_lit8 w w.heap.size (Nat.le_refl _) [d + 128] (one_lt (by omega)) (by simp) hc (n := 1) rfl)
      clear ih hn g ed em
      go_enter Tryd.func69, Tryd.ntmps69
      go_wp2_with (first
        | (go_at_call 69; (with_reducible refine (IH.out _).mono ?_); rintro e w' ⟨v, rfl, ho, hk⟩)
        | (at_builtin; refine wpList_append8h rfl (.tmp 14) (.tmp 17) rfl w.heap.size _ _ [d + 128] (row m) (by rfl) ((OW.out _ rfl).keeps hk) (by rfl) ho.holds (by have := ML.out; simp; omega) (((Keeps.refl w).alloc _).trans hk).size ?_))
      intro v2 w2 ho2 hb2 hg2
      have K2 := Lib.hid (Below.trans (((Keeps.refl w).alloc _).trans hk) hb2)
      have O2 := Lib.hid ho2
      clear hb2 hg2 ho2 hk ho
      go_wp2_with fail
      go_ret
      exact ⟨_, rfl, O2.out, K2.out⟩
theorem ref8_put (v : Value) (xs : List Nat) (n : Int) (w : World) (h : Holds8 w v xs) (hl : xs.length ≤ 100000000) (hn0 : -9223372036854775808 ≤ n) (hn1 : n < 9223372036854775808) :
    Calls Tryd.prog 51 #[v, .int .i64 n] w (GivesO w (xs ++ putN n)) := by
  have HH := Lib.hid h
  have OW := Lib.hid (fun (c : Array Value) (hc : c = (vals8 []).toArray) => own_lit8 w w.heap.size (Nat.le_refl _) [] (by simp) (by simp) hc (n := 0) rfl)
  have HL := Lib.hid hl
  obtain ⟨_, ao, len, cap, rfl, hlen, _⟩ := h
  subst hlen
  by_cases g : 0 ≤ n
  · obtain ⟨m, rfl⟩ : ∃ m : Nat, n = (m : Int) := ⟨n.toNat, by omega⟩
    have e : putN (m : Int) = row m := by unfold putN; rw [if_pos g, Int.toNat_natCast]
    rw [e]
    have g2 : decide ((m : Int) ≥ 0) = true := decide_eq_true g
    have RW := Lib.hid (fun w => ref8_row m w (by omega))
    have ML := Lib.hid (row_len9 (n := m) (by omega))
    clear hl e hn0 hn1
    go_enter Tryd.func51, Tryd.ntmps51
    go_wp2_with (at_builtin; refine wpList_append8h rfl (.tmp 6) (.tmp 7) rfl w.heap.size _ _ [] xs (by rfl) (OW.out _ rfl) (by rfl) (HH.out.keeps ((Keeps.refl w).alloc _)) (by have := HL.out; simp; omega) ((Keeps.refl w).alloc _).size ?_)
    intro v2 w2 ho2 hb2 hg2
    have K2 := Lib.hid (show Keeps w w2 from Below.trans ((Keeps.refl w).alloc _) hb2)
    have O2 := Lib.hid (show Own8 w2 w.heap.size v2 xs from ho2)
    clear hb2 hg2 ho2
    go_wp2_with (first
      | (go_at_call 69; (with_reducible refine (RW.out _).mono ?_); rintro e w' ⟨v3, rfl, ho, hk⟩)
      | (at_builtin; refine wpList_append8h rfl (.tmp 11) (.tmp 13) rfl w.heap.size _ _ xs (row m) (by rfl) (O2.out.keeps hk) (by rfl) ho.holds (by have := ML.out; have := HL.out; omega) (K2.out.trans hk).size ?_))
    intro v4 w4 ho4 hb4 hg4
    have K4 := Lib.hid (show Keeps w w4 from Below.trans (K2.out.trans hk) hb4)
    have O4 := Lib.hid ho4
    clear hb4 hg4 ho4 hk ho
    go_wp2_with fail
    go_ret
    exact ⟨_, rfl, O4.out, K4.out⟩
  · have e : putN n = [] := by unfold putN; rw [if_neg g]
    rw [e, List.append_nil]
    have g2 : decide (n ≥ 0) = false := decide_eq_false g
    clear hl e
    go_enter Tryd.func51, Tryd.ntmps51
    go_wp2_with (at_builtin; refine wpList_append8h rfl (.tmp 6) (.tmp 7) rfl w.heap.size _ _ [] xs (by rfl) (OW.out _ rfl) (by rfl) (HH.out.keeps ((Keeps.refl w).alloc _)) (by have := HL.out; simp; omega) ((Keeps.refl w).alloc _).size ?_)
    intro v2 w2 ho2 hb2 hg2
    have K2 := Lib.hid (show Keeps w w2 from Below.trans ((Keeps.refl w).alloc _) hb2)
    have O2 := Lib.hid (show Own8 w2 w.heap.size v2 xs from ho2)
    clear hb2 hg2 ho2
    go_wp2_with fail
    go_ret
    exact ⟨_, rfl, O2.out, K2.out⟩
theorem big_next8 (n j : Nat) (h : j < 8) : (big 8 n).take (j + 1) = (big 8 n).take j ++ [n / 2 ^ (8 * (7 - j)) % 256] := by
  rw [big_next n j h, show 56 - 8 * j = 8 * (7 - j) by omega]
theorem u8_shr8 (n k : Nat) : (n : Int) / 2 ^ k % 256 = ((n / 2 ^ k % 256 : Nat) : Int) := by
  rw [Int.natCast_emod, Int.natCast_ediv, Int.natCast_pow]; rfl
def Eight8 (W : World) (P : List Nat) (n : Nat) (so si : Value) (wr : World) : Prop := ∃ j : Nat, j ≤ 8 ∧ si = .int .i64 (7 - (j : Int)) ∧ Own8 wr W.heap.size so (P ++ (big 8 n).take j) ∧ Keeps W wr
def Sum8 (W : World) (B : Nat) (P l : List Nat) (so si : Value) (wr : World) : Prop := ∃ j : Nat, j ≤ 32 ∧ si = .int .i64 (j : Int) ∧ Own8 wr B so (P ++ l.take j) ∧ Keeps W wr
theorem own8_down {w : World} {B B' : Nat} {v : Value} {xs : List Nat} (h : Own8 w B v xs) (hb : B' ≤ B) : Own8 w B' v xs := by
  obtain ⟨⟨h1, h2⟩, h3⟩ := h
  refine ⟨⟨h1, ?_⟩, h3⟩
  rcases h2 with h2 | ⟨g, cap, cur, e, hg, hr⟩
  · exact Or.inl h2
  · exact Or.inr ⟨g, cap, cur, e, Nat.le_trans hb hg, hr⟩
set_option maxHeartbeats 1000000 in
set_option maxRecDepth 100000 in
theorem ref8_puth (v : Value) (xs l : List Nat) (w : World) (h : Holds8 w v xs) (hl : xs.length ≤ 100000000) (hs : Sum32 l) :
    Calls Tryd.prog 52 #[v, .agg (vals8 l).toArray] w (GivesO w (xs ++ l)) := by
  have HH := Lib.hid h
  have HL := Lib.hid hl
  have HS := Lib.hid hs
  obtain ⟨_, ao, len, cap, rfl, hlen, _⟩ := h
  subst hlen
  clear hl hs
  go_enter Tryd.func52, Tryd.ntmps52
  go_upto_region 1 with fail
  obtain ⟨W0, eW⟩ : ∃ W, W = w.alloc (.cells (vals8 l).toArray 23) := ⟨_, rfl⟩
  have A0 : A8 23 W0 w.heap.size l := by rw [eW]; exact ArrN.new w l HS.out.2
  have K0 : Keeps w W0 := by rw [eW]; exact (Keeps.refl w).alloc _
  change Code.wp _ _ _ _ (w.alloc (.cells (vals8 l).toArray 23))
  rw [← eW]
  obtain ⟨z, ez⟩ : ∃ z, z = w.heap.size := ⟨_, rfl⟩
  rw [← ez] at A0 ⊢
  have EZ := Lib.hid ez
  have A0 := Lib.hid A0
  have K0 := Lib.hid K0
  clear eW ez
  have OW := Lib.hid (fun (c : Array Value) (hc : c = (vals8 []).toArray) => own_lit8 W0 W0.heap.size (Nat.le_refl _) [] (by simp) (by simp) hc (n := 0) rfl)
  go_wp2_with (at_builtin; refine wpList_append8h rfl (.tmp 7) (.tmp 8) rfl W0.heap.size _ _ [] xs (by rfl) (OW.out _ rfl) (by rfl) (HH.out.keeps (K0.out.alloc _)) (by have := HL.out; simp; omega) ((Keeps.refl W0).alloc _).size ?_)
  intro v2 w2 ho2 hb2 hg2
  have K2 := Lib.hid (show Keeps W0 w2 from Below.trans ((Keeps.refl W0).alloc _) hb2)
  have O2 := Lib.hid (show Own8 w2 W0.heap.size v2 (xs ++ l.take 0) from by rw [List.take_zero, List.append_nil]; exact ho2)
  clear hb2 hg2 ho2
  go_wp2_with fail
  go_loopw [5, 6] (fun so si wr => Sum8 W0 W0.heap.size xs l so si wr) (fun _ si _ => 32 - (intOf si).toNat)
  case atStart => exact ⟨0, by omega, rfl, O2.out, K2.out⟩
  case round =>
    obtain ⟨j, hj, rfl, hown, hK⟩ := hrel
    by_cases g : j < 32
    · have j0 : (0 : Int) ≤ (j : Int) := by omega
      have j1 : (j : Int) < 32 := by omega
      have cl := (A0.out.keeps hK).cell j (by rw [HS.out.1]; exact g)
      have dl := A0.out.lt (by decide) j
      have NX := Lib.hid (show l.take (j + 1) = l.take j ++ [l.getD j 0] by rw [List.take_succ_eq_append_getElem (by rw [HS.out.1]; exact g)]; simp [List.getD, HS.out.1, g])
      have LT : (l.take j).length ≤ 32 := by rw [List.length_take]; have := HS.out.1; omega
      generalize l.getD j 0 = d at *
      have HO := Lib.hid hown
      have HK := Lib.hid hK
      have KB := Lib.hid g
      have LB := Lib.hid (show (xs ++ l.take j).length + [d].length ≤ 140737488355328 by have := HL.out; rw [List.length_append]; simp at LT ⊢; omega)
      have OO := Lib.hid (fun (c : Array Value) (hc : c = (vals8 [d]).toArray) => own_lit8 wr wr.heap.size (Nat.le_refl _) [d] (one_lt dl) (by simp) hc (n := 1) rfl)
      clear hown hK g hj LT dl
      go_wp2_with (at_builtin; refine wpList_append8h rfl (.tmp 14) (.tmp 18) rfl W0.heap.size _ _ _ [d] (by rfl) (HO.out.keeps ((Keeps.refl _).alloc _)) (by rfl) (OO.out _ rfl).holds LB.out (HK.out.alloc _).size ?_)
      intro v4 w4 ho4 hb4 hg4
      have K4 := Lib.hid (show Keeps W0 w4 from Below.trans (HK.out.alloc _) hb4)
      have O4 := Lib.hid ho4
      clear hb4 hg4 ho4 cl
      go_wp2_with fail
      go_roundw
      case rel => exact ⟨j + 1, KB.out, by go_num, by rw [NX.out]; first | exact O4.out | (rw [← List.append_assoc]; exact O4.out), K4.out⟩
      case measure => have := KB.out; simp [intOf] <;> omega
    · obtain rfl : j = 32 := by omega
      have O3 := Lib.hid (show Own8 wr w.heap.size u5 (xs ++ l) by rw [List.take_of_length_le (by rw [HS.out.1]; omega)] at hown; exact own8_down hown (Below.size K0.out))
      have K3 := Lib.hid (K0.out.trans hK)
      clear hown hK g hj
      go_wp2_with fail
      go_ret
      exact ⟨_, rfl, O3.out, K3.out⟩
end Go.Proofs.YtckikgfckihniaaDoor
/- A row of bytes, cut. -/
namespace Go.Proofs.YtckikgfckihniaaDoor
open Go.RowKit

theorem elem8s : Tryd.prog.elem 25 = 5 := by kernel_rfl
theorem siz8s : (Tryd.prog.info? 5).map (·.size) = some 1 := by kernel_rfl
theorem sliced_at {ao : Option Addr} {l h m s n c : Nat} {x : Addr} (e : sliced ao l h m s = .slice (some x) n c) : ∃ y, ao = some y ∧ y.block = x.block := by
  unfold sliced at e
  split at e
  · cases e; exact ⟨_, rfl, rfl⟩
  · cases ao with
    | none => cases e
    | some a =>
      simp only [Option.map_some, Value.slice.injEq, Option.some.injEq] at e
      refine ⟨a, rfl, ?_⟩
      rw [← e.1]
      unfold Addr.add
      split <;> rfl
theorem Holds8.cutFrom {w : World} {ao : Option Addr} {len cap : Nat} {xs : List Nat} (h : Holds8 w (.slice ao len cap) xs) (n : Nat) (hn : n ≤ len) : Holds8 w (sliced ao n len cap 1) (xs.drop n) :=
  HoldsN.cutFrom (k := .u8) (m := 256) h n hn
theorem Holds8.cutUpto {w : World} {ao : Option Addr} {len cap : Nat} {xs : List Nat} (h : Holds8 w (.slice ao len cap) xs) (n : Nat) (hn : n ≤ len) : Holds8 w (sliced ao 0 n cap 1) (xs.take n) :=
  HoldsN.cutUpto (k := .u8) (m := 256) h n hn
end Go.Proofs.YtckikgfckihniaaDoor
/- The document's own reader. -/
namespace Go.Proofs.YtckikgfckihniaaDoor
open Go.RowKit Go.HashMath Go.CodeMath

section
variable {S T : Nat → Prop} {w w' : World} {g : Nat} {sv : Value} {s : St}
theorem RdC.cell0 (h : RdC S w g sv s) : w.cell? ⟨g, 0, none⟩ = some sv := by simp [World.cell?, h.2.1]
theorem RdC.cell1 (h : RdC S w g sv s) : w.cell? ⟨g, 1, none⟩ = some (.bool (!s.isSome)) := by simp [World.cell?, h.2.1]
theorem RdC.free (h : RdC S w g sv s) (i : Nat) : w.frozen? ⟨g, i, none⟩ = false := by simp [World.frozen?, h.2.1]
theorem RdC.lasts (h : RdC S w g sv s) (k : Mut T w w') (hd : ∀ i, S i → ¬ T i) : RdC S w' g sv s := by
  obtain ⟨h1, h2, h3, h4, h5⟩ := h
  exact ⟨h1, (k.block g (lt_of_block h2) (hd g h1)).trans h2, k.holds8 h3 (Or.inr fun b off l c e => hd b (h4 _ l c e).1), h4, fun i hi => Nat.lt_of_lt_of_le (h5 i hi) k.size⟩
theorem RdC.keeps (h : RdC S w g sv s) (k : Keeps w w') : RdC S w' g sv s := h.lasts (Mut.of k fun _ => False) (fun _ _ q => q)
theorem RdC.put {xs ys : List Nat} {v1 : Value} (h : RdC S w g sv (some xs)) (hv : Holds8 w v1 ys) (ho : ∀ a l c, v1 = .slice (some a) l c → S a.block ∧ a.block ≠ g) : RdC S (w.setCell ⟨g, 0, none⟩ v1) g v1 (some ys) ∧ Mut S w (w.setCell ⟨g, 0, none⟩ v1) := by
  have hW : Wrt g w (w.setCell ⟨g, 0, none⟩ v1) := (Wrt.refl g w).set 0 v1
  refine ⟨⟨h.1, ?_, hW.holds8 hv fun b off l c e => (ho _ l c e).2, ho, fun i hi => Nat.lt_of_lt_of_le (h.2.2.2.2 i hi) hW.size⟩, Mut.wrt hW h.1⟩
  simp [World.setCell, Array.getElem?_modify, h.2.1]
/-- Behind a failure. -/
theorem RdC.failed (h : RdC S w g sv s) (hW : Wrt g w w') (hc : w'.heap[g]? = some (.cells #[.slice none 0 0, .bool true] 92 (0, 0))) : RdC S w' g (.slice none 0 0) none ∧ Mut S w w' :=
  ⟨⟨h.1, hc, Holds8.nil w', (fun a l c e => by cases e), fun i hi => Nat.lt_of_lt_of_le (h.2.2.2.2 i hi) hW.size⟩, Mut.wrt hW h.1⟩
theorem numO_left (s : St) : numO s = readN 9 0 1 (leftO s) := by
  cases s with
  | none => rfl
  | some xs => rfl
end
theorem ref8_fail (g : Nat) (sv : Value) (b : Bool) (w : World) (h : w.heap[g]? = some (.cells #[sv, .bool b] 92 (0, 0))) :
    Calls Tryd.prog 65 #[.pointer (some ⟨g, 0, none⟩)] w (fun e w' => e = .returned (.tuple #[]) ∧ w'.heap[g]? = some (.cells #[.slice none 0 0, .bool true] 92 (0, 0)) ∧ Wrt g w w') := by
  have HH := Lib.hid h
  have c0 : w.cell? ⟨g, 0, none⟩ = some sv := by simp [World.cell?, h]
  have c1 : w.cell? ⟨g, 1, none⟩ = some (.bool b) := by simp [World.cell?, h]
  have f0 : w.frozen? ⟨g, 0, none⟩ = false := by simp [World.frozen?, h]
  have f1 : w.frozen? ⟨g, 1, none⟩ = false := by simp [World.frozen?, h]
  clear h
  go_enter Tryd.func65, Tryd.ntmps65
  go_wp2_with fail
  go_end0
  refine ⟨rfl, ?_, ((Wrt.refl g w).set 1 _).set 0 _⟩
  simp [World.setCell, Array.getElem?_modify, HH.out]
/-- Digits that are read: so many, what they are, what the next one counts. -/
def NumAt (W : World) (xs : List Nat) (sn sb si : Value) (wr : World) : Prop := ∃ (i n : Nat) (m : Int), i ≤ 9 ∧ i ≤ xs.length ∧ sn = .int .i64 (n : Int) ∧ sb = .int .i64 m ∧ si = .int .i64 (i : Int) ∧ (i < 9 → m = ((128 ^ i : Nat) : Int)) ∧ n < 128 ^ i ∧ readN (9 - i) n (128 ^ i) (xs.drop i) = readN 9 0 1 xs ∧ W = wr
theorem readN_at {xs : List Nat} {i n : Nat} (hi : i < 9) (hl : i < xs.length) : readN (9 - i) n (128 ^ i) (xs.drop i) = if xs.getD i 0 = 0 ∧ 0 < i then none else if xs.getD i 0 < 128 then some (n + xs.getD i 0 % 128 * 128 ^ i, xs.drop (i + 1)) else readN (9 - (i + 1)) (n + xs.getD i 0 % 128 * 128 ^ i) (128 ^ (i + 1)) (xs.drop (i + 1)) := by
  rw [List.drop_eq_getElem_cons hl, show 9 - i = (9 - (i + 1)) + 1 by omega, readN, show xs[i] = xs.getD i 0 by simp [List.getD, hl], Nat.pow_succ, Nat.mul_comm 128]
  have e : (9 - (i + 1) < 8) = (0 < i) := by apply propext; omega
  simp only [e]
theorem pow128 {i : Nat} (hi : i < 9) : 128 ^ i ≤ 72057594037927936 ∧ 0 < 128 ^ i :=
  ⟨Nat.le_trans (Nat.pow_le_pow_right (by decide) (by omega : i ≤ 8)) (by decide), Nat.pow_pos (by decide)⟩
theorem pow128' {i : Nat} (hi : i + 1 < 9) : 128 ^ i ≤ 562949953421312 := Nat.le_trans (Nat.pow_le_pow_right (by decide) (by omega : i ≤ 7)) (by decide)
theorem dig_le {d m n : Nat} (hn : n < m) : n + d % 128 * m < m * 128 := by
  have h1 : d % 128 ≤ 127 := by omega
  have h2 : d % 128 * m ≤ 127 * m := Nat.mul_le_mul_right m h1
  omega
set_option maxHeartbeats 2000000 in
set_option maxRecDepth 100000 in
theorem ref8_num (S : Nat → Prop) (g : Nat) (sv : Value) (s : St) (w : World) (h : RdC S w g sv s) :
    Calls Tryd.prog 44 #[.pointer (some ⟨g, 0, none⟩)] w (fun e w' => e = .returned (.int .i64 (natO (numO s) : Int)) ∧ (∃ sv', RdC S w' g sv' (restO (numO s))) ∧ Mut S w w') := by
  have HH := Lib.hid h
  have c0 := h.cell0
  have f0 := h.free 0
  have hx := h.2.2.1.1
  obtain ⟨_, ao, len, cap, rfl, hlen, hlc, hcm, hcell⟩ := h.2.2.1
  rw [numO_left]
  have HS := Lib.hid (show ∀ ys, leftO s = ys → 0 < ys.length → s = some ys from fun ys e hp => by
    cases s with
    | none => subst e; cases hp
    | some zs => rw [← e]; rfl)
  obtain ⟨xs, exs⟩ : ∃ xs, xs = leftO s := ⟨_, rfl⟩
  rw [← exs] at hlen hcell hx ⊢
  have EXS := Lib.hid exs
  have FL := Lib.hid (ref8_fail g _ _ w h.2.1)
  subst hlen
  have hmx : xs.length ≤ 9223372036854775807 := by have := hcm.1; unfold maxLen at this; omega
  clear h exs
  go_enter Tryd.func44, Tryd.ntmps44
  go_wp2_with fail
  go_loopw [3, 4, 5] (fun sn sb si wr => NumAt w xs sn sb si wr) (fun _ _ si _ => 9 - (intOf si).toNat)
  case atStart => exact ⟨0, 0, 1, by omega, by omega, rfl, rfl, rfl, fun _ => rfl, by decide, rfl, rfl⟩
  case round =>
    obtain ⟨i, n, m, hi, hil, rfl, rfl, rfl, hm, hn, hr, rfl⟩ := hrel
    have i0 : (0 : Int) ≤ (i : Int) := by omega
    have i9 : (i : Int) ≤ 9 := by omega
    by_cases g1 : i < xs.length
    · by_cases g2 : i < 9
      · obtain ⟨b, off, rfl, hbs, hcell⟩ : ∃ b off, ao = some ⟨b, off, none⟩ ∧ b < w.heap.size ∧ ∀ i, i < xs.length → w.cell? ⟨b, off + i, none⟩ = some (.int .u8 ((xs.getD i 0 : Nat) : Int)) := by
          rcases hcell with h | h
          · omega
          · exact h
        have cl := hcell i g1
        have hd : xs.getD i 0 < 256 := HH.out.2.2.1.lt i |> fun q => by rw [← EXS.out] at q; exact q
        rw [readN_at g2 g1] at hr
        have P8 := pow128 g2
        obtain rfl := hm g2
        have DL := dig_le (d := xs.getD i 0) hn
        generalize xs.getD i 0 = d at *
        obtain ⟨p, ep⟩ : ∃ p, p = 128 ^ i := ⟨_, rfl⟩
        rw [← ep] at hn hr P8 DL
        have hp2 : ((128 ^ i : Nat) : Int) = (p : Int) := by rw [ep]
        rw [hp2]
        obtain ⟨q, eq⟩ : ∃ q, q = d % 128 := ⟨_, rfl⟩
        rw [← eq] at hr DL
        have hq : q ≤ 127 := by omega
        obtain ⟨qp, eqp⟩ : ∃ x, x = q * p := ⟨_, rfl⟩
        rw [← eqp] at hr DL
        have hqp : qp ≤ 127 * p := by rw [eqp]; exact Nat.mul_le_mul_right p hq
        have d0 : (0 : Int) ≤ (d : Int) := by omega
        have d1 : (d : Int) ≤ 255 := by omega
        have t1 : IntKind.i64.wrap (d : Int) = (d : Int) := IntWalk.i64_in _ (by omega)
        have t2 : (d : Int) % 128 = (q : Int) := by omega
        have t3 : (q : Int) * (p : Int) = (qp : Int) := by rw [eqp, Int.natCast_mul]
        have p0 : (0 : Int) ≤ (p : Int) := by omega
        have p1 : (p : Int) ≤ 72057594037927936 := by omega
        have q0 : (0 : Int) ≤ (qp : Int) := by omega
        have q1 : (qp : Int) ≤ 9151314442816847872 := by omega
        have n0 : (0 : Int) ≤ (n : Int) := by omega
        have n1 : (n : Int) ≤ 72057594037927935 := by omega
        have b1 : (i : Int) < (xs.length : Int) := by omega
        have b2 : (i : Int) < 9 := by omega
        have l1 : (xs.length : Int) ≤ 9223372036854775807 := by omega
        have HR := Lib.hid hr
        have EP := Lib.hid ep
        have FR := Lib.hid (show n + qp < p * 128 from DL)
        have GB := Lib.hid (show i < 9 ∧ i < xs.length from ⟨g2, g1⟩)
        have CUT := fun W => run_cutFrom (P := Tryd.prog) (ao := some ⟨b, off, none⟩) (len := xs.length) (cap := cap) Tryd.underlying25 elem8s siz8s (i + 1) g1 W
        have CE : ((i + 1 : Nat) : Int) = (i : Int) + 1 := by omega
        rw [CE] at CUT
        obtain ⟨va, vn, vc, ev1⟩ : ∃ va vn vc, Value.slice va vn vc = sliced (some ⟨b, off, none⟩) (i + 1) xs.length cap 1 := ⟨_, _, _, rfl⟩
        rw [← ev1] at CUT
        have EV := Lib.hid ev1
        by_cases g3 : d = 0 ∧ 0 < i
        · obtain ⟨rfl, g3⟩ := g3
          have g4 : (0 : Int) < (i : Int) := by omega
          have g5 : decide (0 < i) = true := decide_eq_true g3
          rw [if_pos ⟨rfl, g3⟩] at HR
          clear hn hr P8 DL hp2 hqp hq eqp ep ev1 CE hcm hmx hlc hil hi hm hd eq CUT hcell t2 t3
          go_wp2_with (go_at_call 65; (with_reducible refine FL.out.mono ?_); rintro e w' ⟨rfl, hc, hw⟩)
          go_ret
          rw [← HR.out]
          exact ⟨rfl, ⟨_, (HH.out.failed hw hc).1⟩, (HH.out.failed hw hc).2⟩
        · rw [if_neg g3] at HR
          have hc : (d = 0 ∧ i = 0) ∨ (0 < d ∧ d < 128) ∨ 128 ≤ d := by omega
          rcases hc with ⟨hd0, hi0⟩ | ⟨hd0, hd1⟩ | hd0
          · have u1 : ((d : Int) == 0) = true := by rw [beq_iff_eq]; omega
            have u2 : ¬ (0 : Int) < (i : Int) := by omega
            have u3 : decide (0 < i) = false := decide_eq_false (by omega)
            have u4 : (d : Int) < 128 := by omega
            rw [if_pos (by omega)] at HR
            clear hn hr P8 DL hp2 hqp hq eqp ep ev1 CE hcm hmx hlc hil hi hm hd eq hcell g3 hd0 hi0
            go_wp2_with fail
            go_ret
            rw [← HR.out]
            have HA := HH.out
            rw [HS.out xs EXS.out.symm (by have := GB.out; omega)] at HA
            have HP := RdC.put HA (v1 := .slice va vn vc) (ys := xs.drop (i + 1)) (by rw [EV.out]; have := HA.2.2.1; exact this.cutFrom (i + 1) (by have := GB.out; omega)) (fun a l c e => by rw [EV.out] at e; obtain ⟨y, ey, eb⟩ := sliced_at e; have := HA.2.2.2.1 y _ _ (by rw [ey]); rw [eb] at this; exact this)
            exact ⟨congrArg (fun z => Ending.returned (.int .i64 z)) (Int.natCast_add n qp).symm, ⟨_, HP.1⟩, HP.2⟩
          · have u1 : ((d : Int) == 0) = false := by rw [beq_eq_false_iff_ne]; omega
            have u4 : (d : Int) < 128 := by omega
            rw [if_pos hd1] at HR
            clear hn hr P8 DL hp2 hqp hq eqp ep ev1 CE hcm hmx hlc hil hi hm hd eq hcell g3 hd0 hd1
            go_wp2_with fail
            go_ret
            rw [← HR.out]
            have HA := HH.out
            rw [HS.out xs EXS.out.symm (by have := GB.out; omega)] at HA
            have HP := RdC.put HA (v1 := .slice va vn vc) (ys := xs.drop (i + 1)) (by rw [EV.out]; have := HA.2.2.1; exact this.cutFrom (i + 1) (by have := GB.out; omega)) (fun a l c e => by rw [EV.out] at e; obtain ⟨y, ey, eb⟩ := sliced_at e; have := HA.2.2.2.1 y _ _ (by rw [ey]); rw [eb] at this; exact this)
            exact ⟨congrArg (fun z => Ending.returned (.int .i64 z)) (Int.natCast_add n qp).symm, ⟨_, HP.1⟩, HP.2⟩
          · have u1 : ((d : Int) == 0) = false := by rw [beq_eq_false_iff_ne]; omega
            have u4 : ¬ (d : Int) < 128 := by omega
            rw [if_neg (by omega)] at HR
            clear hn hr P8 DL hp2 hqp hq eqp ep ev1 CE hcm hmx hlc hil hi hm hd eq hcell g3 hd0 CUT
            go_wp2_with fail
            go_roundw
            case rel => exact ⟨i + 1, n + qp, _, by have := GB.out; omega, by have := GB.out; omega, by rw [Int.natCast_add], rfl, by go_num, fun h => by have := pow128' h; rw [← EP.out] at this; (first | rw [IntWalk.wrap64_in _ (by omega)] | rw [IntWalk.i64_in _ (by omega)] | skip); rw [Nat.pow_succ, ← EP.out]; omega, by rw [Nat.pow_succ, ← EP.out]; exact FR.out, HR.out, rfl⟩
            case measure => have := GB.out; simp [intOf] <;> omega
      · have u1 : ¬ (i : Int) < 9 := by omega
        have b1 : (i : Int) < (xs.length : Int) := by omega
        have hr : readN 9 0 1 xs = none := by rw [← hr, show 9 - i = 0 by omega, readN]
        have HR := Lib.hid hr
        clear hr hm hn hcell hcm hlc hil hi hmx
        go_wp2_with (go_at_call 65; (with_reducible refine FL.out.mono ?_); rintro e w' ⟨rfl, hc, hw⟩)
        go_ret
        rw [HR.out]
        exact ⟨rfl, ⟨_, (HH.out.failed hw hc).1⟩, (HH.out.failed hw hc).2⟩
    · have b1 : ¬ (i : Int) < (xs.length : Int) := by omega
      have hr : readN 9 0 1 xs = none := by rw [← hr, List.drop_of_length_le (by omega), readN_nil]
      have HR := Lib.hid hr
      clear hr hm hn hcell hcm hlc hil hi hmx
      go_wp2_with (go_at_call 65; (with_reducible refine FL.out.mono ?_); rintro e w' ⟨rfl, hc, hw⟩)
      go_ret
      rw [HR.out]
      exact ⟨rfl, ⟨_, (HH.out.failed hw hc).1⟩, (HH.out.failed hw hc).2⟩
theorem own8_none (w : World) (B : Nat) : Own8 w B (.slice none 0 0) [] := own8_nil w B
theorem takeO_some {n : Nat} {xs : List Nat} (h : n ≤ xs.length) : takeO n (some xs) = some (xs.take n, xs.drop n) := if_pos h
theorem takeO_none {n : Nat} {xs : List Nat} (h : ¬ n ≤ xs.length) : takeO n (some xs) = none := if_neg h
/-- A row of the call's own lasts where another block is written. -/
theorem Own8.set_other {w : World} {B g i : Nat} {v u : Value} {xs : List Nat} (h : Own8 w B v xs) (hg : g < B) : Own8 (w.setCell ⟨g, i, none⟩ u) B v xs := by
  obtain ⟨⟨h1, h2⟩, h3⟩ := h
  refine ⟨⟨h1, ?_⟩, h3⟩
  rcases h2 with h2 | ⟨q, cap, cur, e, hq, hr, ht⟩
  · exact Or.inl h2
  · refine Or.inr ⟨q, cap, cur, e, hq, ?_, ht⟩
    have : q ≠ g := by omega
    simp [World.setCell, Array.getElem?_modify, Ne.symm this, hr]
set_option maxHeartbeats 1000000 in
set_option maxRecDepth 100000 in
theorem ref8_next (S : Nat → Prop) (g : Nat) (sv : Value) (s : St) (n : Nat) (w : World) (h : RdC S w g sv s) (hn : n < 9223372036854775808) (hl : (leftO s).length ≤ 140737488355328) :
    Calls Tryd.prog 66 #[.pointer (some ⟨g, 0, none⟩), .int .i64 (n : Int)] w (fun e w' => ∃ y, e = .returned y ∧ Own8 w' w.heap.size y (rowO (takeO n s)) ∧ (∃ sv', RdC S w' g sv' (restO (takeO n s))) ∧ Mut S w w') := by
  have HH := Lib.hid h
  have FL := Lib.hid (ref8_fail g _ _ w h.2.1)
  have HL := Lib.hid hl
  have n0 : (0 : Int) ≤ (n : Int) := by omega
  have n1 : (n : Int) ≤ 9223372036854775807 := by omega
  cases s with
  | none =>
    have c1 : w.cell? ⟨g, 1, none⟩ = some (.bool true) := h.cell1
    clear h hn hl
    go_enter Tryd.func66, Tryd.ntmps66
    go_wp2_with (go_at_call 65; (with_reducible refine FL.out.mono ?_); rintro e w' ⟨rfl, hc, hw⟩)
    go_ret
    exact ⟨_, rfl, own8_nil _ _, ⟨_, (HH.out.failed hw hc).1⟩, (HH.out.failed hw hc).2⟩
  | some xs =>
    have c1 : w.cell? ⟨g, 1, none⟩ = some (.bool false) := h.cell1
    have c0 := h.cell0
    have f0 := h.free 0
    have hh : Holds8 w sv xs := h.2.2.1
    have HX := Lib.hid hh
    obtain ⟨_, ao, len, cap, rfl, hlen, hlc, hcm, hcell⟩ := hh
    subst hlen
    have hmx : xs.length ≤ 140737488355328 := hl
    by_cases g1 : n ≤ xs.length
    · have b1 : ¬ (n : Int) > (xs.length : Int) := by omega
      rw [takeO_some g1]
      have CU := fun W => run_cutUpto (P := Tryd.prog) (ao := ao) (len := xs.length) (cap := cap) Tryd.underlying25 elem8s siz8s n (by omega) W
      have CF := fun W => run_cutFrom (P := Tryd.prog) (ao := ao) (len := xs.length) (cap := cap) Tryd.underlying25 elem8s siz8s n g1 W
      obtain ⟨ua, un, uc, eu⟩ : ∃ va vn vc, Value.slice va vn vc = sliced ao 0 n cap 1 := ⟨_, _, _, rfl⟩
      obtain ⟨va, vn, vc, ev⟩ : ∃ va vn vc, Value.slice va vn vc = sliced ao n xs.length cap 1 := ⟨_, _, _, rfl⟩
      rw [← eu] at CU
      rw [← ev] at CF
      have U8 := Lib.hid (show Holds8 w (.slice ua un uc) (xs.take n) by rw [eu]; exact HX.out.cutUpto n g1)
      have V8 := Lib.hid (show Holds8 w (.slice va vn vc) (xs.drop n) by rw [ev]; exact HX.out.cutFrom n g1)
      have VO := Lib.hid (show ∀ a l c, Value.slice va vn vc = .slice (some a) l c → S a.block ∧ a.block ≠ g from fun a l c e => by rw [ev] at e; obtain ⟨y, ey, eb⟩ := sliced_at e; have := HH.out.2.2.2.1 y _ _ (by rw [ey]); rw [eb] at this; exact this)
      have OW := Lib.hid (fun (c : Array Value) (hc : c = (vals8 []).toArray) => own_lit8 w w.heap.size (Nat.le_refl _) [] (by simp) (by simp) hc (n := 0) rfl)
      have GL := Lib.hid (lt_of_block h.2.1)
      have LT := Lib.hid (show ([] : List Nat).length + (xs.take n).length ≤ 140737488355328 by rw [List.length_take]; simp; omega)
      have CU := Lib.hid CU
      have CF := Lib.hid CF
      clear h hn hl hcell hcm hlc eu ev g1 hmx
      have cu := CU.out
      have gl := GL.out
      go_enter Tryd.func66, Tryd.ntmps66
      go_wp2_with (at_builtin; refine wpList_append8h rfl (.tmp 21) (.tmp 27) rfl w.heap.size _ _ [] _ (by rfl) (OW.out _ rfl) (by rfl) (U8.out.keeps ((Keeps.refl w).alloc _)) LT.out ((Keeps.refl w).alloc _).size ?_)
      intro v2 w2 ho2 hb2 hg2
      have K2 := Lib.hid (show Keeps w w2 from Below.trans ((Keeps.refl w).alloc _) hb2)
      have O2 := Lib.hid (show Own8 w2 w.heap.size v2 (xs.take n) from ho2)
      have R2 := HH.out.keeps K2.out
      have c2 := R2.cell0
      have f2 := R2.free 0
      have R2 := Lib.hid R2
      have cf := CF.out
      clear hb2 hg2 ho2 c0 c1 f0 cu
      go_wp2_with fail
      go_ret
      have HP := RdC.put R2.out (v1 := .slice va vn vc) (ys := xs.drop n) (V8.out.keeps K2.out) VO.out
      exact ⟨_, rfl, O2.out.set_other GL.out, ⟨_, HP.1⟩, (Mut.of K2.out S).trans HP.2⟩
    · have b1 : (n : Int) > (xs.length : Int) := by omega
      rw [takeO_none g1]
      clear h hn hl hcell hcm hlc g1 hmx
      go_enter Tryd.func66, Tryd.ntmps66
      go_wp2_with (go_at_call 65; (with_reducible refine FL.out.mono ?_); rintro e w' ⟨rfl, hc, hw⟩)
      go_ret
      exact ⟨_, rfl, own8_nil _ _, ⟨_, (HH.out.failed hw hc).1⟩, (HH.out.failed hw hc).2⟩
end Go.Proofs.YtckikgfckihniaaDoor
/- The document's own reader: its parts; bytes that are the same. -/
namespace Go.Proofs.YtckikgfckihniaaDoor
open Go.RowKit Go.HashMath Go.CodeMath

theorem Mut.wrtNew {S : Nat → Prop} {a b c : World} {G : Nat} (h : Mut S a b) (k : Wrt G b c) (hG : a.heap.size ≤ G) : Mut S a c :=
  ⟨k.os.trans h.os, k.tape.trans h.tape, k.output.trans h.output, Nat.le_trans h.size k.size, fun i x y => (k.block i (Nat.lt_of_lt_of_le x h.size) (by omega)).trans (h.block i x y)⟩
theorem unbig_take (l : List Nat) (k : Nat) (h : k < l.length) : unbig (l.take (k + 1)) = 256 * unbig (l.take k) + l.getD k 0 := by
  rw [List.take_succ_eq_append_getElem h, unbig, List.foldl_append]
  simp [unbig, List.getD, h]
theorem unbig_le : ∀ (l : List Nat) (n : Nat), (∀ x ∈ l, x < 256) → l.foldl (fun n b => 256 * n + b) n < 256 ^ l.length * (n + 1)
  | [], n, _ => by simp
  | x :: l, n, h => by
    have h1 := unbig_le l (256 * n + x) (fun y hy => h y (by simp [hy]))
    have h2 := h x (by simp)
    rw [List.foldl_cons, List.length_cons, Nat.pow_succ, Nat.mul_assoc]
    refine Nat.lt_of_lt_of_le h1 (Nat.mul_le_mul_left _ (by omega))
theorem unbig_8 {l : List Nat} (h : ∀ x ∈ l, x < 256) (hl : l.length ≤ 8) : unbig l < 18446744073709551616 := by
  have h1 := unbig_le l 0 h
  rw [Nat.zero_add, Nat.mul_one] at h1
  exact Nat.lt_of_lt_of_le h1 (Nat.le_trans (Nat.pow_le_pow_right (by decide) hl) (by decide))
theorem u64O_take (s : St) : natO (u64O s) = unbig (rowO (takeO 8 s)) ∧ restO (u64O s) = restO (takeO 8 s) := by
  unfold u64O
  cases takeO 8 s with
  | none => exact ⟨rfl, rfl⟩
  | some x => exact ⟨rfl, rfl⟩
theorem rowO_len {n : Nat} (s : St) : (rowO (takeO n s)).length ≤ n := by
  cases s with
  | none => exact Nat.zero_le _
  | some xs =>
    show (rowO (if n ≤ xs.length then some (xs.take n, xs.drop n) else none)).length ≤ n
    split
    · show (xs.take n).length ≤ n; rw [List.length_take]; omega
    · exact Nat.zero_le _
def U64At (W : World) (l : List Nat) (sn si : Value) (wr : World) : Prop := ∃ k : Nat, k ≤ l.length ∧ sn = .int .u64 ((unbig (l.take k) : Nat) : Int) ∧ si = .int .i64 (k : Int) ∧ W = wr
theorem bytO_of (s : St) : rowO (bytO s) = (if (restO (numO s)).isSome then rowO (takeO (natO (numO s)) (restO (numO s))) else []) ∧ restO (bytO s) = (if (restO (numO s)).isSome then restO (takeO (natO (numO s)) (restO (numO s))) else none) := by
  unfold bytO
  cases numO s with
  | none => exact ⟨rfl, rfl⟩
  | some x => exact ⟨rfl, rfl⟩
theorem left_num (s : St) (h : Fine s) : (leftO (restO (numO s))).length ≤ (leftO s).length := by
  cases s with
  | none => exact Nat.le_refl _
  | some xs =>
    show (leftO (restO (readN 9 0 1 xs))).length ≤ xs.length
    cases e : readN 9 0 1 xs with
    | none => exact Nat.zero_le _
    | some x =>
      have e2 : xs = row x.1 ++ x.2 := (row_read (n := x.1) (r := x.2) h e).2
      show x.2.length ≤ xs.length
      rw [e2, List.length_append]
      omega
def putAt (l : List Nat) (k : Nat) : List Nat := l.take k ++ List.replicate (32 - k) 0
theorem putAt_next (l : List Nat) (k : Nat) (h : k < l.length) (h2 : l.length ≤ 32) : (putAt l k).set k (l.getD k 0) = putAt l (k + 1) := by
  unfold putAt
  have hl : (l.take k).length = k := by rw [List.length_take]; omega
  rw [List.set_append_right _ _ (by omega), hl, Nat.sub_self, show 32 - k = (32 - (k + 1)) + 1 by omega, List.replicate_succ, List.set_cons_zero, List.take_succ_eq_append_getElem h, List.append_assoc]
  simp [List.getD, h]
theorem putAt_len (l : List Nat) (k : Nat) (hk : k ≤ l.length) (h2 : l.length ≤ 32) : (putAt l k).length = 32 := by
  unfold putAt
  rw [List.length_append, List.length_take, List.length_replicate]
  omega
def HashAt (W : World) (z : Nat) (l : List Nat) (si : Value) (wr : World) : Prop := ∃ k : Nat, k ≤ l.length ∧ si = .int .i64 (k : Int) ∧ A8 23 wr z (putAt l k) ∧ Wrt z W wr
theorem hasO_of (s : St) : sumO (hasO s) = putAt (rowO (takeO 32 s)) (rowO (takeO 32 s)).length ∧ restO (hasO s) = restO (takeO 32 s) := by
  refine ⟨?_, rfl⟩
  unfold hasO putAt
  cases s with
  | none => rfl
  | some xs =>
    show sumO (if 32 ≤ xs.length then some (xs.take 32, xs.drop 32) else none) = _
    by_cases h : 32 ≤ xs.length
    · rw [takeO_some h, if_pos h]
      show xs.take 32 = (xs.take 32).take (xs.take 32).length ++ List.replicate (32 - (xs.take 32).length) 0
      rw [List.take_length, List.length_take, show 32 - min 32 xs.length = 0 by omega]
      simp
    · rw [takeO_none h, if_neg h]
      rfl
set_option maxHeartbeats 2000000 in
set_option maxRecDepth 100000 in
theorem ref8_hash (S : Nat → Prop) (g : Nat) (sv : Value) (s : St) (w : World) (h : RdC S w g sv s) (hl : (leftO s).length ≤ 140737488355328) :
    Calls Tryd.prog 47 #[.pointer (some ⟨g, 0, none⟩)] w (fun e w' => e = .returned (.agg (vals8 (sumO (hasO s))).toArray) ∧ (∃ sv', RdC S w' g sv' (restO (hasO s))) ∧ Mut S w w') := by
  rw [(hasO_of s).1, (hasO_of s).2]
  have HH := Lib.hid h
  have LE := Lib.hid (rowO_len (n := 32) s)
  have N8 := Lib.hid (fun w' (q : Keeps w w') => show Calls Tryd.prog 66 #[.pointer (some ⟨g, 0, none⟩), .int .i64 32] w' _ from ref8_next S g sv s 32 w' (h.keeps q) (by decide) hl)
  have SB := Lib.hid h.2.2.2.2
  clear h hl HH
  generalize rowO (takeO 32 s) = l at *
  generalize restO (takeO 32 s) = s' at *
  go_enter Tryd.func47, Tryd.ntmps47
  go_upto_region 1 with fail
  obtain ⟨W0, eW⟩ : ∃ W, W = w.alloc (.cells (cellsK .u8 (List.replicate 32 0)).toArray 23) := ⟨_, rfl⟩
  have A0 : A8 23 W0 w.heap.size (List.replicate 32 0) := by rw [eW]; exact ArrN.new w _ (zeros_lt _ _ (by decide))
  have K0 : Keeps w W0 := by rw [eW]; exact (Keeps.refl w).alloc _
  have Z0 : w.heap.size < W0.heap.size := A0.size
  change Code.wp _ _ _ _ (w.alloc (.cells (cellsK .u8 (List.replicate 32 0)).toArray 23))
  rw [← eW]
  obtain ⟨z0, ez⟩ : ∃ z, z = w.heap.size := ⟨_, rfl⟩
  rw [← ez] at A0 Z0 ⊢
  have EZ := Lib.hid ez
  have A0 := Lib.hid A0
  have K0 := Lib.hid K0
  have NN := Lib.hid (N8.out W0 K0.out)
  clear eW ez
  go_upto_region 2 with (go_at_call 66; (with_reducible refine NN.out.mono ?_); rintro e w1 ⟨y, rfl, ho, hr, hm⟩)
  have HO := Lib.hid ho.holds
  have OO := Lib.hid ho
  have HR := Lib.hid hr
  have M1 := Lib.hid (show Mut S w w1 from (Mut.of K0.out S).trans hm)
  have A1 := Lib.hid (show A8 23 w1 z0 (List.replicate 32 0) from ⟨A0.out.1, (hm.block z0 Z0 (fun q => by have := SB.out z0 q; have := EZ.out; omega)).trans A0.out.2⟩)
  obtain ⟨_, ao, len, cap, rfl, hlen, hlc, hcm, hcell⟩ := ho.holds
  subst hlen
  clear ho hr hm Z0
  go_upto_region 3 with fail
  obtain ⟨W2, eW⟩ : ∃ W, W = w1.alloc (.cells (cellsK .u8 (List.replicate 32 0)).toArray 23) := ⟨_, rfl⟩
  have A2 : A8 23 W2 w1.heap.size (putAt l 0) := by rw [eW]; exact ArrN.new w1 _ (zeros_lt _ _ (by decide))
  have K2 : Keeps w1 W2 := by rw [eW]; exact (Keeps.refl w1).alloc _
  change Code.wp _ _ _ _ (w1.alloc (.cells (cellsK .u8 (List.replicate 32 0)).toArray 23))
  rw [← eW]
  obtain ⟨z, ez⟩ : ∃ z, z = w1.heap.size := ⟨_, rfl⟩
  rw [← ez] at A2 ⊢
  have EZ2 := Lib.hid ez
  have A2 := Lib.hid A2
  have K2 := Lib.hid K2
  clear eW ez
  go_wp2_with fail
  go_loopw [5] (fun si wr => HashAt W2 z l si wr) (fun si _ => l.length - (intOf si).toNat)
  case atStart => exact ⟨0, by omega, rfl, A2.out, Wrt.refl _ _⟩
  case round =>
    obtain ⟨k, hk, rfl, hA, hW⟩ := hrel
    have hle := LE.out
    by_cases g1 : k < l.length
    · obtain ⟨b, off, rfl, hbs, hcell⟩ : ∃ b off, ao = some ⟨b, off, none⟩ ∧ b < w1.heap.size ∧ ∀ i, i < l.length → w1.cell? ⟨b, off + i, none⟩ = some (.int .u8 ((l.getD i 0 : Nat) : Int)) := by
        rcases hcell with h | h
        · omega
        · exact h
      have cl : wr.cell? ⟨b, off + k, none⟩ = some (.int .u8 ((l.getD k 0 : Nat) : Int)) := by
        rw [hW.cell (Nat.lt_of_lt_of_le hbs K2.out.size) (by have := EZ2.out; omega), K2.out.cell hbs]
        exact hcell k g1
      have dl := HO.out.lt k
      have lk := putAt_len l k hk hle
      have ck := hA.cell k (by omega)
      have fk := hA.free k
      have A' := Lib.hid (hA.set k _ dl)
      rw [putAt_next l k g1 hle] at A'
      have W' := Lib.hid (hW.set k (.int .u8 ((l.getD k 0 : Nat) : Int)))
      generalize l.getD k 0 = d at *
      have GB := Lib.hid g1
      have k0 : (0 : Int) ≤ (k : Int) := by omega
      have k1 : (k : Int) < (l.length : Int) := by omega
      have k2 : (k : Int) < 32 := by omega
      have l1 : (l.length : Int) ≤ 32 := by omega
      clear hcell hk dl hle hlc hcm g1 lk hA hW
      go_wp2_with fail
      go_roundw
      case rel => exact ⟨k + 1, GB.out, by go_num, A'.out, W'.out⟩
      case measure => have := GB.out; simp [intOf] <;> omega
    · obtain rfl : k = l.length := by omega
      have k1 : ¬ (l.length : Int) < (l.length : Int) := by omega
      have A3 := Lib.hid hA
      have W3 := Lib.hid hW
      have B1 := Lib.hid (show A8 23 wr z0 (List.replicate 32 0) from ⟨A1.out.1, (hW.block z0 (Nat.lt_of_lt_of_le A1.out.size K2.out.size) (by have := EZ2.out; have := A1.out.size; omega)).trans ((Below.block K2.out z0 A1.out.size).trans A1.out.2)⟩)
      have PL := Lib.hid (putAt_len l l.length (Nat.le_refl _) hle)
      clear hcell hk g1 hA hW hle
      go_upto_region 7 with fail
      go_wp2_with (first
        | (refine wpList_load_sm ?w1 _ (by rfl) (by rfl) (G := z) (L := putAt l l.length) A3.out.range PL.out ?_; (case w1 => rfl))
        | (refine wpList_store_arr (k := .u8) (m := 256) (L := putAt l l.length) sizHash rfl _ _ (by rfl) _ (by rfl) (by rfl) B1.out (by rw [List.length_replicate]) PL.out ?_))
      have M4 := Lib.hid (show Mut S w (wr.setRow z0 (cellsK .u8 (putAt l l.length)).toArray) from ((M1.out.keeps K2.out).wrtNew W3.out (by have := EZ2.out; have := M1.out.size; omega)).wrtNew ((Wrt.refl z0 wr).setRow _) (by have := EZ.out; omega))
      have R4 := Lib.hid (show ∃ sv', RdC S (wr.setRow z0 (cellsK .u8 (putAt l l.length)).toArray) g sv' s' from by
        obtain ⟨sv', q⟩ := HR.out
        exact ⟨sv', q.lasts (T := fun k => k = z ∨ k = z0) (((Mut.of K2.out _).trans (Mut.wrt W3.out (Or.inl rfl))).trans (Mut.wrt ((Wrt.refl z0 wr).setRow _) (Or.inr rfl))) (fun i hi hT => by have := SB.out i hi; have := EZ.out; have := EZ2.out; have := M1.out.size; omega)⟩)
      exact bodyPost_ret (v := .agg (cellsK .u8 (putAt l l.length)).toArray) (results_arr undHash sizHash rfl _ (by rfl) (B1.out.setRow A3.out.1) PL.out) rfl ⟨rfl, R4.out, M4.out⟩
theorem ref8_left (S : Nat → Prop) (g : Nat) (sv : Value) (s : St) (w : World) (h : RdC S w g sv s) :
    Calls Tryd.prog 48 #[.pointer (some ⟨g, 0, none⟩)] w (fun e w' => e = .returned (.int .i64 ((leftO s).length : Int)) ∧ w = w') := by
  have c0 := h.cell0
  obtain ⟨_, ao, len, cap, rfl, hlen, _⟩ := h.2.2.1
  rw [hlen]
  clear h
  go_enter Tryd.func48, Tryd.ntmps48
  go_wp2_with fail
  go_ret
  exact ⟨rfl, rfl⟩
theorem ref8_ok (S : Nat → Prop) (g : Nat) (sv : Value) (s : St) (w : World) (h : RdC S w g sv s) :
    Calls Tryd.prog 45 #[.pointer (some ⟨g, 0, none⟩)] w (fun e w' => e = .returned (.bool s.isSome) ∧ w = w') := by
  have c1 := h.cell1
  clear h
  cases s with
  | none =>
    have c1 : w.cell? ⟨g, 1, none⟩ = some (.bool true) := c1
    go_enter Tryd.func45, Tryd.ntmps45
    go_wp2_with fail
    go_ret
    exact ⟨rfl, rfl⟩
  | some xs =>
    have c1 : w.cell? ⟨g, 1, none⟩ = some (.bool false) := c1
    go_enter Tryd.func45, Tryd.ntmps45
    go_wp2_with fail
    go_ret
    exact ⟨rfl, rfl⟩
set_option maxHeartbeats 1000000 in
theorem ref8_open (v : Value) (xs : List Nat) (w : World) (h : Holds8 w v xs) (hl : xs.length ≤ 140737488355328) :
    Calls Tryd.prog 43 #[v] w (fun e w' => ∃ g sv S, e = .returned (.pointer (some ⟨g, 0, none⟩)) ∧ RdC S w' g sv (some xs) ∧ Keeps w w' ∧ ∀ i, S i → w.heap.size ≤ i) := by
  have HH := Lib.hid h
  have OW := Lib.hid (fun (c : Array Value) (hc : c = (vals8 []).toArray) => own_lit8 w w.heap.size (Nat.le_refl _) [] (by simp) (by simp) hc (n := 0) rfl)
  have HL := Lib.hid (show ([] : List Nat).length + xs.length ≤ 140737488355328 by simpa using hl)
  obtain ⟨_, ao, len, cap, rfl, hlen, _⟩ := h
  subst hlen
  clear hl
  go_enter Tryd.func43, Tryd.ntmps43
  go_wp2_with (at_builtin; refine wpList_append8h rfl (.tmp 3) (.tmp 4) rfl w.heap.size _ _ [] xs (by rfl) (OW.out _ rfl) (by rfl) (HH.out.keeps ((Keeps.refl w).alloc _)) HL.out ((Keeps.refl w).alloc _).size ?_)
  intro v2 w2 ho2 hb2 hg2
  have K2 := Lib.hid (show Keeps w w2 from Below.trans ((Keeps.refl w).alloc _) hb2)
  have O2 := Lib.hid (show Own8 w2 w.heap.size v2 xs from ho2)
  obtain ⟨_, ao', len, cap', rfl, hlen, _⟩ := ho2.holds
  clear hb2 hg2 ho2 hlen
  go_wp2_with fail
  go_ret
  refine ⟨w2.heap.size, .slice ao' len cap', fun i => w.heap.size ≤ i ∧ i < w2.heap.size + 1, rfl, ⟨⟨K2.out.size, by omega⟩, (MapKept.heap_alloc w2 _).1, O2.out.holds.keeps ((Keeps.refl _).alloc _), fun a l c e => ?_, fun i hi => by rw [World.size_alloc]; exact hi.2⟩, K2.out.alloc _, fun i hi => hi.1⟩
  cases e
  have hb := O2.out.1
  have h1 := hb.lt a.block rfl
  exact ⟨⟨h1.1, by omega⟩, by omega⟩
def sameTo (xs ys : List Nat) (k : Nat) : Prop := ∀ i, i < k → xs.getD i 0 = ys.getD i 0
def SameAt (W : World) (xs ys : List Nat) (si : Value) (wr : World) : Prop := ∃ k : Nat, k ≤ xs.length ∧ si = .int .i64 (k : Int) ∧ sameTo xs ys k ∧ Keeps W wr
theorem same_all {xs ys : List Nat} (hl : xs.length = ys.length) (h : sameTo xs ys xs.length) : xs = ys := by
  apply List.ext_getElem hl
  intro i h1 h2
  have := h i h1
  simpa [List.getD, h1, h2] using this
theorem left_take {n : Nat} (s : St) : (leftO (restO (takeO n s))).length ≤ (leftO s).length := by
  cases s with
  | none => exact Nat.le_refl _
  | some xs =>
    by_cases h : n ≤ xs.length
    · rw [takeO_some h]; show (xs.drop n).length ≤ xs.length; rw [List.length_drop]; omega
    · rw [takeO_none h]; exact Nat.zero_le _
theorem left_bytes (s : St) (h : Fine s) : (leftO (restO (bytO s))).length ≤ (leftO s).length := by
  rw [(bytO_of s).2]
  split
  · exact Nat.le_trans (left_take _) (left_num s h)
  · exact Nat.zero_le _
end Go.Proofs.YtckikgfckihniaaDoor
/- The laws' small case on what is laid and read. -/
namespace Go.Proofs.YtckikgfckihniaaDoor
open Go.RowKit Go.HashMath Go.CodeMath

def bytes14 : List Nat := [9, 172, 2, 0, 0, 0, 0, 0, 0, 1, 2, 2, 5, 6]
def bytes13 : List Nat := [172, 2, 0, 0, 0, 0, 0, 0, 1, 2, 2, 5, 6]
theorem put300 : [9] ++ putN 300 = [9, 172, 2] := by
  have : row 300 = [172, 2] := by rw [row_big (by decide), row_small (by decide)]
  show [9] ++ row 300 = _
  rw [this]; rfl
theorem put258 : [9, 172, 2] ++ big 8 258 = [9, 172, 2, 0, 0, 0, 0, 0, 0, 1, 2] := by decide
theorem put56 : [9, 172, 2, 0, 0, 0, 0, 0, 0, 1, 2] ++ putB [5, 6] = bytes14 := by
  rw [putB, row_small (by decide)]; rfl
end Go.Proofs.YtckikgfckihniaaDoor
/- Parts in memory: slices of structs that hold slices and sums. -/
namespace Go.Proofs.YtckikgfckihniaaDoor
open Go.RowKit Go.HashMath Go.CodeMath

/-- A part's cells: u is the slice of its bytes. -/
def partCells (p : P8) (u : Value) : List Value := .int .i64 p.todo :: .int .i64 p.num :: .int .u64 (p.u64 : Int) :: u :: vals8 p.sum
def okPart (p : P8) : Prop := (-9223372036854775808 ≤ p.todo ∧ p.todo ≤ 9223372036854775807) ∧ (-9223372036854775808 ≤ p.num ∧ p.num ≤ 9223372036854775807) ∧ p.u64 < 18446744073709551616 ∧ Sum32 p.sum
def noPart : P8 := ⟨0, 0, 0, [], []⟩
theorem partCells_len {p : P8} {u : Value} (h : okPart p) : (partCells p u).length = 36 := by
  unfold partCells
  simp only [List.length_cons, vals8, List.length_map, h.2.2.2.1]
/-- A slice of parts. -/
def HoldsP (w : World) (v : Value) (l : List P8) : Prop := ∃ ao len cap, v = .slice ao len cap ∧ l.length = len ∧ len ≤ cap ∧ (cap ≤ maxLen ∧ (ao = none → cap = 0)) ∧
  (len = 0 ∨ ∃ b off, ao = some ⟨b, off, none⟩ ∧ b < w.heap.size ∧ ∀ i, i < len → okPart (l.getD i noPart) ∧ ∃ u, Holds8 w u (l.getD i noPart).some ∧ w.rangeAt b (off + i * 36) (partCells (l.getD i noPart) u))
theorem HoldsP.keeps {w w' : World} {v : Value} {l : List P8} (h : HoldsP w v l) (k : Keeps w w') : HoldsP w' v l := by
  obtain ⟨ao, len, cap, rfl, h3, h4, h5, h6⟩ := h
  refine ⟨ao, len, cap, rfl, h3, h4, h5, ?_⟩
  rcases h6 with h6 | ⟨b, off, h7, h8, h9⟩
  · exact Or.inl h6
  · refine Or.inr ⟨b, off, h7, Nat.lt_of_lt_of_le h8 k.size, fun i hi => ?_⟩
    obtain ⟨h10, u, h11, h12⟩ := h9 i hi
    exact ⟨h10, u, h11.keeps k, fun j x hj => (k.cell h8).trans (h12 j x hj)⟩
theorem HoldsP.len {w : World} {v : Value} {l : List P8} (h : HoldsP w v l) : l.length ≤ 9223372036854775807 := by
  obtain ⟨ao, len, cap, rfl, h3, h4, h5, h6⟩ := h
  have h7 := h5.1
  unfold maxLen at h7; omega
theorem HoldsP.ok {w : World} {v : Value} {l : List P8} (h : HoldsP w v l) : ∀ p ∈ l, okPart p := by
  intro p hp
  obtain ⟨i, hi, rfl⟩ := List.getElem_of_mem hp
  obtain ⟨ao, len, cap, rfl, h3, h4, h5, h6⟩ := h
  rcases h6 with h6 | ⟨b, off, h7, h8, h9⟩
  · omega
  · have := (h9 i (by omega)).1
    rwa [show l.getD i noPart = l[i] by simp [List.getD, hi]] at this
/-- One of the parts. -/
theorem HoldsP.at {w : World} {v : Value} {l : List P8} (h : HoldsP w v l) (i : Nat) (hi : i < l.length) :
    ∃ b off n c u, v = .slice (some ⟨b, off, none⟩) n c ∧ l.length = n ∧ b < w.heap.size ∧ okPart (l.getD i noPart) ∧ Holds8 w u (l.getD i noPart).some ∧ w.rangeAt b (off + i * 36) (partCells (l.getD i noPart) u) := by
  obtain ⟨ao, len, cap, rfl, h3, h4, h5, h6⟩ := h
  rcases h6 with h6 | ⟨b, off, rfl, h8, h9⟩
  · omega
  · obtain ⟨h10, u, h11, h12⟩ := h9 i (by omega)
    exact ⟨b, off, len, cap, u, rfl, h3, h8, h10, h11, h12⟩
theorem i64_and3 (n : Int) : bits .and .i64 n 3 = n % 4 := by
  have h1 : (BitVec.ofInt 64 3).toNat = 2 ^ 2 - 1 := by decide
  have key : (BitVec.ofInt 64 n &&& BitVec.ofInt 64 3).toNat = (n % ((2 ^ 64 : Nat) : Int)).toNat % 2 ^ 2 := by
    rw [BitVec.toNat_and, BitVec.toNat_ofInt, h1, Nat.and_two_pow_sub_one_eq_mod]
  show IntKind.i64.wrap ((BitVec.ofInt 64 n &&& BitVec.ofInt 64 3).toNat : Nat) = n % 4
  rw [key, IntKind.wrap_i64]
  omega
theorem kd_of (p : P8) : (p.kd : Int) = p.todo % 4 := by unfold P8.kd; omega
theorem kd_lt (p : P8) : p.kd < 4 := by unfold P8.kd; omega
end Go.Proofs.YtckikgfckihniaaDoor
/- Parts are laid, one behind the other. -/
namespace Go.Proofs.YtckikgfckihniaaDoor
open Go.RowKit Go.HashMath Go.CodeMath

theorem range_at {w : World} {b o : Nat} {p : P8} {u : Value} (h : w.rangeAt b o (partCells p u)) : w.cell? ⟨b, o + 1, none⟩ = some (.int .i64 p.num) ∧ w.cell? ⟨b, o + 2, none⟩ = some (.int .u64 (p.u64 : Int)) ∧ w.cell? ⟨b, o + 3, none⟩ = some u ∧ w.rangeAt b (o + 4) (vals8 p.sum) :=
  ⟨h 1 _ rfl, h 2 _ rfl, h 3 _ rfl, fun j v hj => by rw [Nat.add_assoc, Nat.add_comm 4 j]; exact h (j + 4) v hj⟩
theorem laid_take (l : List P8) (i : Nat) (h : i < l.length) : laidL (l.take (i + 1)) = laidL (l.take i) ++ encP (l.getD i noPart) := by
  rw [laidL, List.take_succ_eq_append_getElem h, List.flatMap_append]
  simp [laidL, List.getD, h]
theorem laid_len (l : List P8) (i : Nat) : (laidL (l.take i)).length ≤ (laidL l).length := by
  conv => rhs; rw [← List.take_append_drop i l]
  rw [laidL, laidL, List.flatMap_append, List.length_append]
  omega
def LaidAt (W : World) (l : List P8) (sb si : Value) (wr : World) : Prop := ∃ i : Nat, i ≤ l.length ∧ si = .int .i64 (i : Int) ∧ Own8 wr W.heap.size sb (laidL (l.take i)) ∧ Keeps W wr
theorem some_len {p : P8} (h : p.kd = 2) : p.some.length ≤ (encP p).length := by
  unfold encP
  rw [if_neg (by omega), if_neg (by omega), if_pos h, putB, List.length_append]
  omega
end Go.Proofs.YtckikgfckihniaaDoor
/- Parts are read, one behind the other. -/
namespace Go.Proofs.YtckikgfckihniaaDoor
open Go.RowKit Go.HashMath Go.CodeMath

theorem sum_ok {s : St} (h : Fine s) : Sum32 (sumO (hasO s)) := by
  cases s with
  | none => exact ⟨by simp [hasO, takeO, sumO], fun x hx => by simp [hasO, takeO, sumO] at hx; omega⟩
  | some xs =>
    show Sum32 (sumO (if 32 ≤ xs.length then some (xs.take 32, xs.drop 32) else none))
    split
    · exact ⟨by show (xs.take 32).length = 32; rw [List.length_take]; omega, fun x hx => h x (List.mem_of_mem_take hx)⟩
    · exact ⟨by simp [sumO], fun x hx => by simp [sumO] at hx; omega⟩
theorem readL_cons (s : St) (p : P8) (r : List P8) : readL s (p :: r) = if sameP s p && (nextP s p.kd).isSome then readL (nextP s p.kd) r else (false, nextP s p.kd) := rfl
theorem drop_part (l : List P8) (i : Nat) (h : i < l.length) : l.drop i = l.getD i noPart :: l.drop (i + 1) := by
  rw [List.drop_eq_getElem_cons h]
  simp [List.getD, h]
def ReadAt (Rd : World → Value → (Nat → Prop) → St → Prop) (S : Nat → Prop) (r : Value) (s : St) (l : List P8) (W : World) (si : Value) (wr : World) : Prop := ∃ (i : Nat) (s' : St), i ≤ l.length ∧ si = .int .i64 (i : Int) ∧ Rd wr r S s' ∧ readL s l = readL s' (l.drop i) ∧ Mut S W wr
end Go.Proofs.YtckikgfckihniaaDoor
/- What is laid is read, and what is read was laid; what is cut off. -/
namespace Go.Proofs.YtckikgfckihniaaDoor
open Go.RowKit Go.HashMath Go.CodeMath

theorem unbig_big : ∀ (k n a : Nat), (big k n).foldl (fun n b => 256 * n + b) a = a * 256 ^ k + n % 256 ^ k
  | 0, n, a => by simp [big, Nat.mod_one]
  | k + 1, n, a => by
    rw [big, List.foldl_cons, unbig_big k n, Nat.pow_succ, Nat.mul_comm 256 a, Nat.add_mul, Nat.mul_assoc a, Nat.mul_comm 256 (256 ^ k)]
    have h : n % (256 ^ k * 256) = n % 256 ^ k + 256 ^ k * (n / 256 ^ k % 256) := Nat.mod_mul
    rw [h, Nat.mul_comm (n / 256 ^ k % 256)]
    omega
theorem unbig_eight {n : Nat} (h : n < 18446744073709551616) : unbig (big 8 n) = n := by
  have := unbig_big 8 n 0
  rw [Nat.zero_mul, Nat.zero_add, Nat.mod_eq_of_lt (by simpa using h)] at this
  exact this
theorem take_app (xs r : List Nat) : takeO xs.length (some (xs ++ r)) = some (xs, r) := by
  rw [takeO_some (by rw [List.length_append]; omega), List.take_left, List.drop_left]
/-- A part that is laid is right. -/
def goodP (p : P8) : Prop := okPart p ∧ 0 ≤ p.num ∧ p.some.length ≤ 300 ∧ ∀ x ∈ p.some, x < 256
theorem enc_len {p : P8} (h : goodP p) : (encP p).length ≤ 310 := by
  obtain ⟨⟨_, h2, h3, h4⟩, h5, h6, _⟩ := h
  unfold encP
  split
  · unfold putN
    rw [if_pos h5]
    have := row_len9 (n := p.num.toNat) (by omega)
    omega
  · split
    · rw [big_len]; omega
    · split
      · unfold putB
        rw [List.length_append]
        have := row_len9 (n := p.some.length) (by omega)
        omega
      · rw [h4.1]; omega
theorem enc_lt {p : P8} (h : goodP p) : ∀ x ∈ encP p, x < 256 := by
  obtain ⟨⟨_, h2, h3, h4⟩, h5, h6, h7⟩ := h
  unfold encP
  split
  · unfold putN
    rw [if_pos h5]
    exact row_lt _
  · split
    · exact big_lt _ _
    · split
      · unfold putB
        intro x hx
        rcases List.mem_append.1 hx with g | g
        · exact row_lt _ x g
        · exact h7 x g
      · exact h4.2
theorem laid_bound : ∀ (l : List P8), (∀ p ∈ l, goodP p) → (laidL l).length ≤ 310 * l.length
  | [], _ => by simp [laidL]
  | p :: l, h => by
    have h1 := enc_len (h p (by simp))
    have h2 := laid_bound l (fun q hq => h q (by simp [hq]))
    rw [show laidL (p :: l) = encP p ++ laidL l from rfl, List.length_append, List.length_cons]
    omega
theorem laid_lt : ∀ (l : List P8), (∀ p ∈ l, goodP p) → ∀ x ∈ laidL l, x < 256
  | [], _ => by intro x hx; cases hx
  | p :: l, h => by
    intro x hx
    rw [show laidL (p :: l) = encP p ++ laidL l from rfl] at hx
    rcases List.mem_append.1 hx with g | g
    · exact enc_lt (h p (by simp)) x g
    · exact laid_lt l (fun q hq => h q (by simp [hq])) x g
theorem enc_0 {p : P8} (h : p.kd = 0) : encP p = putN p.num := by unfold encP; rw [if_pos h]
theorem enc_1 {p : P8} (h : p.kd = 1) : encP p = big 8 p.u64 := by unfold encP; rw [if_neg (by omega), if_pos h]
theorem enc_2 {p : P8} (h : p.kd = 2) : encP p = putB p.some := by unfold encP; rw [if_neg (by omega), if_neg (by omega), if_pos h]
theorem enc_3 {p : P8} (h : p.kd = 3) : encP p = p.sum := by unfold encP; rw [if_neg (by omega), if_neg (by omega), if_neg (by omega)]
theorem same_0 {s : St} {p : P8} (h : p.kd = 0) : sameP s p = decide ((natO (numO s) : Int) = p.num) := by unfold sameP; rw [if_pos h]
theorem same_1 {s : St} {p : P8} (h : p.kd = 1) : sameP s p = decide (natO (u64O s) = p.u64) := by unfold sameP; rw [if_neg (by omega), if_pos h]
theorem same_2 {s : St} {p : P8} (h : p.kd = 2) : sameP s p = decide (rowO (bytO s) = p.some) := by unfold sameP; rw [if_neg (by omega), if_neg (by omega), if_pos h]
theorem same_3 {s : St} {p : P8} (h : p.kd = 3) : sameP s p = decide (sumO (hasO s) = p.sum) := by unfold sameP; rw [if_neg (by omega), if_neg (by omega), if_neg (by omega)]
theorem next_0 (s : St) : nextP s 0 = restO (numO s) := rfl
theorem next_1 (s : St) : nextP s 1 = restO (u64O s) := rfl
theorem next_2 (s : St) : nextP s 2 = restO (bytO s) := rfl
theorem next_3 (s : St) : nextP s 3 = restO (hasO s) := rfl
theorem kd_cases (p : P8) : p.kd = 0 ∨ p.kd = 1 ∨ p.kd = 2 ∨ p.kd = 3 := by have := kd_lt p; omega
theorem num_app {n : Int} (h0 : 0 ≤ n) (h1 : n ≤ 9223372036854775807) (r : List Nat) : numO (some (putN n ++ r)) = some (n.toNat, r) := by
  unfold putN
  rw [if_pos h0]
  exact read_row (by omega) r
theorem byt_app {xs : List Nat} (h : xs.length ≤ 300) (r : List Nat) : bytO (some (putB xs ++ r)) = some (xs, r) := by
  have e : numO (some (putB xs ++ r)) = some (xs.length, xs ++ r) := by
    rw [putB, List.append_assoc]
    exact read_row (by omega) _
  unfold bytO
  rw [e]
  exact take_app xs r
/-- A part that was laid is read as it was. -/
theorem part_read {p : P8} (h : goodP p) (r : List Nat) : sameP (some (encP p ++ r)) p = true ∧ nextP (some (encP p ++ r)) p.kd = some r := by
  obtain ⟨⟨_, h2, h3, h4⟩, h5, h6, _⟩ := h
  rcases kd_cases p with k | k | k | k
  · rw [enc_0 k, same_0 k, k, next_0, num_app h5 h2.2]
    exact ⟨decide_eq_true (by show ((p.num.toNat : Nat) : Int) = _; omega), rfl⟩
  · have e : u64O (some (big 8 p.u64 ++ r)) = some (p.u64, r) := by
      have := take_app (big 8 p.u64) r
      rw [big_len] at this
      unfold u64O
      rw [this]
      show some (unbig (big 8 p.u64), r) = _
      rw [unbig_eight h3]
    rw [enc_1 k, same_1 k, k, next_1, e]
    exact ⟨decide_eq_true rfl, rfl⟩
  · rw [enc_2 k, same_2 k, k, next_2, byt_app h6]
    exact ⟨decide_eq_true rfl, rfl⟩
  · have e : hasO (some (p.sum ++ r)) = some (p.sum, r) := by
      have := take_app p.sum r
      rw [h4.1] at this
      exact this
    rw [enc_3 k, same_3 k, k, next_3, e]
    exact ⟨decide_eq_true rfl, rfl⟩
theorem back_read : ∀ (l : List P8) (r : List Nat), (∀ p ∈ l, goodP p) → readL (some (laidL l ++ r)) l = (true, some r)
  | [], r, _ => rfl
  | p :: l, r, h => by
    have h1 := part_read (h p (by simp)) (laidL l ++ r)
    rw [readL_cons, show laidL (p :: l) ++ r = encP p ++ (laidL l ++ r) by rw [show laidL (p :: l) = encP p ++ laidL l from rfl, List.append_assoc], h1.1, h1.2]
    exact back_read l r (fun q hq => h q (by simp [hq]))
/-- What is read would be laid so. -/
theorem read_part {p : P8} {xs r : List Nat} (hx : ∀ x ∈ xs, x < 256) (hp : p.kd = 2 → True) (h : nextP (some xs) p.kd = some r) (hs : sameP (some xs) p = true) (ho : 0 ≤ p.num) (hu : p.u64 < 18446744073709551616) : xs = encP p ++ r := by
  rcases kd_cases p with k | k | k | k
  · rw [same_0 k] at hs
    rw [k, next_0] at h
    rw [enc_0 k]
    have hs := of_decide_eq_true hs
    cases e : readN 9 0 1 xs with
    | none => rw [show numO (some xs) = readN 9 0 1 xs from rfl, e] at h; cases h
    | some y =>
      rw [show numO (some xs) = readN 9 0 1 xs from rfl, e] at h hs
      obtain ⟨h1, h2⟩ := row_read (n := y.1) (r := y.2) hx e
      have e1 : y.2 = r := Option.some.inj h
      have e2 : ((y.1 : Nat) : Int) = p.num := hs
      rw [putN, if_pos ho, ← e2, Int.toNat_natCast, ← e1]
      exact h2
  · rw [same_1 k] at hs
    rw [k, next_1] at h
    rw [enc_1 k]
    have hs := of_decide_eq_true hs
    by_cases g : 8 ≤ xs.length
    · have e : u64O (some xs) = some (unbig (xs.take 8), xs.drop 8) := by unfold u64O; rw [takeO_some g]; rfl
      rw [e] at h hs
      have e1 : xs.drop 8 = r := Option.some.inj h
      have e2 : unbig (xs.take 8) = p.u64 := hs
      have e3 : big 8 p.u64 = xs.take 8 := by
        rw [← e2]
        have hl : (xs.take 8).length = 8 := by rw [List.length_take]; omega
        have hb : ∀ x ∈ xs.take 8, x < 256 := fun x q => hx x (List.mem_of_mem_take q)
        match xs.take 8, hl, hb with
        | [a, b, c, d, e, f, g', h'], _, hb =>
          simp only [List.mem_cons, List.not_mem_nil, or_false, forall_eq_or_imp, forall_eq] at hb
          obtain ⟨h1, h2, h3, h4, h5, h6, h7, h8⟩ := hb
          simp only [unbig, List.foldl_cons, List.foldl_nil, big, Nat.mul_zero, Nat.zero_add]
          simp only [List.cons.injEq, and_true]
          refine ⟨?_, ?_, ?_, ?_, ?_, ?_, ?_, ?_⟩ <;> omega
      rw [e3, ← e1]
      exact (List.take_append_drop 8 xs).symm
    · have e : u64O (some xs) = none := by unfold u64O; rw [takeO_none g]; rfl
      rw [e] at h
      cases h
  · rw [same_2 k] at hs
    rw [k, next_2] at h
    rw [enc_2 k]
    have hs := of_decide_eq_true hs
    cases e : readN 9 0 1 xs with
    | none =>
      have : bytO (some xs) = none := by unfold bytO; rw [show numO (some xs) = readN 9 0 1 xs from rfl, e]; rfl
      rw [this] at h
      cases h
    | some y =>
      obtain ⟨h1, h2⟩ := row_read (n := y.1) (r := y.2) hx e
      have e0 : bytO (some xs) = takeO y.1 (some y.2) := by unfold bytO; rw [show numO (some xs) = readN 9 0 1 xs from rfl, e]; rfl
      rw [e0] at h hs
      by_cases g : y.1 ≤ y.2.length
      · rw [takeO_some g] at h hs
        have e1 : y.2.drop y.1 = r := Option.some.inj h
        have e2 : y.2.take y.1 = p.some := hs
        have e3 : p.some.length = y.1 := by rw [← e2, List.length_take]; omega
        rw [putB, e3, List.append_assoc, ← e1, ← e2, List.take_append_drop]
        exact h2
      · rw [takeO_none g] at h
        cases h
  · rw [same_3 k] at hs
    rw [k, next_3] at h
    rw [enc_3 k]
    have hs := of_decide_eq_true hs
    by_cases g : 32 ≤ xs.length
    · have e : hasO (some xs) = some (xs.take 32, xs.drop 32) := takeO_some g
      rw [e] at h hs
      have e1 : xs.drop 32 = r := Option.some.inj h
      have e2 : xs.take 32 = p.sum := hs
      rw [← e1, ← e2]
      exact (List.take_append_drop 32 xs).symm
    · have e : hasO (some xs) = none := takeO_none g
      rw [e] at h
      cases h
end Go.Proofs.YtckikgfckihniaaDoor
/- Rows of parts of the call's own; slices of integers that may be below nought. -/
namespace Go.Proofs.YtckikgfckihniaaDoor
open Go.RowKit Go.HashMath Go.CodeMath

def zeroP : P8 := ⟨0, 0, 0, [], List.replicate 32 0⟩
/-- Parts' cells, one behind the other. -/
def flatP : List P8 → List Value → List Value
  | p :: l, u :: us => partCells p u ++ flatP l us
  | _, _ => []
theorem flatP_app : ∀ (l : List P8) (us : List Value) (p : P8) (u : Value), us.length = l.length → flatP (l ++ [p]) (us ++ [u]) = flatP l us ++ partCells p u
  | [], [], p, u, _ => by simp [flatP]
  | [], _ :: _, _, _, h => by simp at h
  | _ :: _, [], _, _, h => by simp at h
  | q :: l, v :: us, p, u, h => by
    rw [List.cons_append, List.cons_append, flatP, flatP, flatP_app l us p u (by simpa using h), List.append_assoc]
theorem flatP_at : ∀ (l : List P8) (us : List Value) (i : Nat), us.length = l.length → (∀ p ∈ l, okPart p) → i < l.length → ∀ j x, (partCells (l.getD i noPart) (us.getD i (.slice none 0 0)))[j]? = some x → (flatP l us)[i * 36 + j]? = some x
  | [], _, i, _, _, hi, _, _, _ => by simp at hi
  | _ :: _, [], _, h, _, _, _, _, _ => by simp at h
  | p :: l, u :: us, 0, h, hok, hi, j, x, hj => by
    have hj : (partCells p u)[j]? = some x := hj
    have hl := (List.getElem?_eq_some_iff.1 hj).1
    rw [flatP, Nat.zero_mul, Nat.zero_add, List.getElem?_append_left hl]
    exact hj
  | p :: l, u :: us, i + 1, h, hok, hi, j, x, hj => by
    have hp := partCells_len (u := u) (hok p (by simp))
    rw [flatP, List.getElem?_append_right (by rw [hp]; omega), hp, show (i + 1) * 36 + j - 36 = i * 36 + j by omega]
    exact flatP_at l us i (by simpa using h) (fun q hq => hok q (by simp [hq])) (by simpa using hi) j x hj
theorem ownsRow_mut {w w' : World} {B n size : Nat} {T : TypeId} {v : Value} {xs : List Value} {S : Nat → Prop} (h : w.ownsRow B T size v n xs) (k : Mut S w w') (hS : ∀ i, S i → i < B) : w'.ownsRow B T size v n xs := by
  obtain ⟨h1, h2⟩ := h
  refine ⟨h1, ?_⟩
  rcases h2 with h2 | ⟨g, cap, cur, e, hb, hg, hr⟩
  · exact Or.inl h2
  · exact Or.inr ⟨g, cap, cur, e, hb, (k.block g (lt_of_block hg) (fun q => by have := hS g q; omega)).trans hg, hr⟩
theorem Own8.mut {w w' : World} {B : Nat} {v : Value} {xs : List Nat} {S : Nat → Prop} (h : Own8 w B v xs) (k : Mut S w w') (hS : ∀ i, S i → i < B) : Own8 w' B v xs := ⟨ownsRow_mut h.1 k hS, h.2⟩
/-- A slice of integers, of either sign. -/
def HoldsZ (w : World) (v : Value) (zs : List Int) : Prop := ∃ ao len cap, v = .slice ao len cap ∧ zs.length = len ∧ len ≤ cap ∧ (cap ≤ maxLen ∧ (ao = none → cap = 0)) ∧ (∀ z ∈ zs, -9223372036854775808 ≤ z ∧ z ≤ 9223372036854775807) ∧
  (len = 0 ∨ ∃ b off, ao = some ⟨b, off, none⟩ ∧ b < w.heap.size ∧ ∀ i, i < len → w.cell? ⟨b, off + i, none⟩ = some (.int .i64 (zs.getD i 0)))
theorem HoldsZ.keeps {w w' : World} {v : Value} {zs : List Int} (h : HoldsZ w v zs) (k : Keeps w w') : HoldsZ w' v zs := by
  obtain ⟨ao, len, cap, rfl, h3, h4, h5, h6, h7⟩ := h
  refine ⟨ao, len, cap, rfl, h3, h4, h5, h6, ?_⟩
  rcases h7 with h7 | ⟨b, off, h8, h9, h10⟩
  · exact Or.inl h7
  · exact Or.inr ⟨b, off, h8, Nat.lt_of_lt_of_le h9 k.size, fun i hi => (k.cell h9).trans (h10 i hi)⟩
theorem HoldsZ.at {w : World} {v : Value} {zs : List Int} (h : HoldsZ w v zs) (i : Nat) (hi : i < zs.length) : ∃ b off n c, v = .slice (some ⟨b, off, none⟩) n c ∧ zs.length = n ∧ b < w.heap.size ∧ (-9223372036854775808 ≤ zs.getD i 0 ∧ zs.getD i 0 ≤ 9223372036854775807) ∧ w.cell? ⟨b, off + i, none⟩ = some (.int .i64 (zs.getD i 0)) := by
  obtain ⟨ao, len, cap, rfl, h3, h4, h5, h6, h7⟩ := h
  rcases h7 with h7 | ⟨b, off, rfl, h9, h10⟩
  · omega
  · exact ⟨b, off, len, cap, rfl, h3, h9, h6 _ (by simp [List.getD, hi]), h10 i (by omega)⟩
end Go.Proofs.YtckikgfckihniaaDoor
/- What comes in: bytes, integers of either sign, parts. -/
namespace Go.Proofs.YtckikgfckihniaaDoor
open Go.RowKit Go.HashMath Go.CodeMath

theorem spot8 {w : World} {x : Addr} {v : Value} (c : w.cell? x = some v) : x = ⟨x.block, x.off, none⟩ ∧ x.block < w.heap.size := by
  obtain ⟨b, off, sp⟩ := x
  simp only [World.cell?] at c
  have hb : b < w.heap.size := by
    rcases Nat.lt_or_ge b w.heap.size with g | g
    · exact g
    · rw [Array.getElem?_eq_none g] at c; cases c
  refine ⟨?_, hb⟩
  cases sp with
  | none => rfl
  | some s =>
    split at c
    · simp at c
    · cases c
section
variable {H : Type} {enc : TypeId × Value → H} {w : World} {held : Bool}
theorem ints8_in {P : Program} {S T : TypeId} {k : IntKind} (hu : P.underlying S = some (.slice T)) (hT : P.underlying T = some (.int k)) (hc : P.cellsOf T = 1) {fuel : Nat} {v : Value} {x : DataW H × List MemPlace} (h : DataW.trod enc P w 0 (fun _ => true) held fuel S [v] = some x) :
    ∃ a len cap zs, v = .slice a len cap ∧ ((a = none ∧ len = 0 ∧ cap = 0 ∧ zs = []) ∨
    ∃ x, a = some x ∧ len ≤ cap ∧ cap ≤ maxLen ∧ zs.length = cap ∧ (∀ i, i < zs.length → w.cell? (x.add i) = some (.int k (zs.getD i 0))) ∧ ∀ n ∈ zs, (Lit.int k n).wf = true) := by
  rcases Go.ChangeShapes.open_ints hu hT hc h with ⟨hcs, _⟩ | ⟨y, l, c, zs, hcs, _, hl, hm, hz, _, hcell, hwz⟩
  · obtain rfl : v = .slice none 0 0 := by simpa using hcs
    exact ⟨_, _, _, [], rfl, .inl ⟨rfl, rfl, rfl, rfl⟩⟩
  · obtain rfl : v = .slice (some y) l c := by simpa using hcs
    exact ⟨_, _, _, zs, rfl, .inr ⟨_, rfl, hl, hm, by simpa using hz, hcell, hwz⟩⟩
theorem bytes_read {fuel : Nat} {v : Value} {x : DataW H × List MemPlace} (h : DataW.trod enc Tryd.prog w 0 (fun _ => true) held fuel 25 [v] = some x) : ∃ ao n c xs, v = .slice ao n c ∧ Holds8 w (.slice ao n c) xs := by
  obtain ⟨a, len, cap, zs, rfl, q⟩ := ints8_in Tryd.underlying25 Tryd.underlying5 (by kernel_rfl) h
  obtain ⟨xs, q2⟩ := holdsN_in (k := .u8) (m := 256) (fun n hn => by have := bounds_u8 hn; omega) (by decide) q
  exact ⟨_, _, _, xs, rfl, q2⟩
theorem sum_read {fuel : Nat} {cs : List Value} {x : DataW H × List MemPlace} (h : DataW.trod enc Tryd.prog w 0 (fun _ => true) held fuel 23 cs = some x) : ∃ l, cs = vals8 l ∧ Sum32 l := by
  have cT : Tryd.prog.cellsOf 23 = 32 := by kernel_rfl
  have c1 : Tryd.prog.cellsOf 5 = 1 := by kernel_rfl
  obtain ⟨xs, m, rfl, _, hlen, hn, hel⟩ := DataW.trod_array undSum h
  rw [cT] at hlen
  have each : ∀ i, i < 32 → ∃ z : Nat, z < 256 ∧ cs[i]? = some (.int .u8 (z : Int)) := fun i hi => by
    have e := hel i hi
    rw [c1, Nat.mul_one, List.getElem?_eq_getElem (by omega)] at e
    obtain ⟨n, e1, _, hw⟩ := DataW.trod_int Tryd.underlying5 e
    have hb := bounds_u8 hw
    refine ⟨n.toNat, by omega, ?_⟩
    have e2 := congrArg (·[0]?) e1
    have e3 : cs[i]? = some (.int .u8 n) := by simpa [List.getElem?_take, List.getElem?_drop] using e2
    rw [e3, show ((n.toNat : Nat) : Int) = n by omega]
  have all : ∀ i : Nat, ∃ z : Nat, z < 256 ∧ (i < 32 → cs[i]? = some (.int .u8 (z : Int))) := fun i => by
    by_cases g : i < 32
    · obtain ⟨z, h1, h2⟩ := each i g; exact ⟨z, h1, fun _ => h2⟩
    · exact ⟨0, by decide, fun q => absurd q g⟩
  refine ⟨(List.range 32).map fun i => Classical.choose (all i), ?_, by simp, fun x hx => ?_⟩
  · apply List.ext_getElem?
    intro i
    by_cases hi : i < 32
    · rw [(Classical.choose_spec (all i)).2 hi]
      simp [vals8, hi]
    · rw [List.getElem?_eq_none (by omega), List.getElem?_eq_none (by simp [vals8]; omega)]
  · obtain ⟨i, _, rfl⟩ := List.mem_map.1 hx
    exact (Classical.choose_spec (all i)).1
theorem bytes_came8 {r : Reach} {b0 : Nat} {v : Value} {d : DataW H} {p : List MemPlace} (hv : Value.okWide Tryd.prog w r b0 25 v) (h : DataW.Trod enc Tryd.prog w 0 (fun _ => true) held 25 v d p) : ∃ ao n c xs, v = .slice ao n c ∧ Holds8 w (.slice ao n c) xs := by
  obtain ⟨a0, len0, cap0, rfl⟩ := Go.WideShapes.okWide_slice Tryd.underlying25 hv
  obtain ⟨fuel, hf⟩ := h
  exact bytes_read hf
/-- A slice of bytes that comes in is within the reach. -/
theorem bytes_reach {ts : List TypeId} {ds : List (DataW H)} {ao : Option Addr} {n c : Nat} {d : DataW H} {p : List MemPlace} (hsz : (DataW.weightsEach Tryd.prog ts ds).all (· ≤ reachBytes) = true) {j : Nat} (ht : ts[j]? = some 25) (hd : ds[j]? = some d)
    (h : DataW.Trod enc Tryd.prog w 0 (fun _ => true) held 25 (.slice ao n c) d p) : n ≤ 140737488355328 := by
  obtain ⟨fuel, hf⟩ := h
  rcases Go.Deep.open_slice Tryd.underlying25 hf with ⟨hcs, _⟩ | ⟨a, len, cap, m, k, D, Pl, hcs, _, hl, hm, hmm, hx, _⟩
  · simp [Value.cells] at hcs
    omega
  · simp [Value.cells] at hcs
    obtain ⟨rfl, rfl, rfl⟩ := hcs
    have hd2 : d = .slice ((List.range n).map D) ((List.range (m - n)).map fun j => D (n + j)) := congrArg (·.1) hx
    rw [hd2] at hd
    have q := sized_slice hsz ht hd Tryd.underlying25
    have b1 : Tryd.prog.bytesOf 5 = 1 := by kernel_rfl
    rw [b1] at q
    simp only [List.length_map, List.length_range, reachBytes] at q
    omega
end
end Go.Proofs.YtckikgfckihniaaDoor
/- Arguments that come in: numbers. -/
namespace Go.Proofs.YtckikgfckihniaaDoor
open Go.RowKit

theorem arg_u8 {n : Int} (h : (Lit.int .u8 n).wf = true) : ∃ m : Nat, n = (m : Int) ∧ m < 256 := by
  have := bounds_u8 h
  exact ⟨n.toNat, by omega, by omega⟩
theorem arg_u32 {n : Int} (h : (Lit.int .u32 n).wf = true) : ∃ m : Nat, n = (m : Int) ∧ m < 4294967296 := by
  have := bounds_u32 h
  exact ⟨n.toNat, by omega, by omega⟩
theorem arg_u64 {n : Int} (h : (Lit.int .u64 n).wf = true) : ∃ m : Nat, n = (m : Int) ∧ m < 18446744073709551616 := by
  have := bounds_u64 h
  exact ⟨n.toNat, by omega, by omega⟩
end Go.Proofs.YtckikgfckihniaaDoor
/- Arguments that come in: numbers, sums. -/
namespace Go.Proofs.YtckikgfckihniaaDoor
open Go.RowKit

theorem sum_came {H : Type} {enc : TypeId × Value → H} {w : World} {held : Bool} {r : Reach} {b0 : Nat} {v : Value} {d : DataW H} {p : List MemPlace} (hv : Value.okWide Tryd.prog w r b0 23 v) (h : DataW.Trod enc Tryd.prog w 0 (fun _ => true) held 23 v d p) :
    ∃ l, v = .agg (vals8 l).toArray ∧ Sum32 l := by
  have cT : Tryd.prog.cellsOf 23 = 32 := by kernel_rfl
  have c1 : Tryd.prog.cellsOf 5 = 1 := by kernel_rfl
  simp only [Value.okWide, undSum] at hv
  obtain ⟨cs, rfl, hsz, _⟩ := hv
  rw [cT] at hsz
  obtain ⟨fuel, hf⟩ := h
  obtain ⟨xs, m, rfl, _, hlen, hn, hel⟩ := DataW.trod_array undSum hf
  have each : ∀ i, i < 32 → ∃ z : Nat, z < 256 ∧ cs.toList[i]? = some (.int .u8 (z : Int)) := fun i hi => by
    have e := hel i hi
    rw [c1, Nat.mul_one, List.getElem?_eq_getElem (by omega)] at e
    obtain ⟨n, e1, _, hw⟩ := DataW.trod_int Tryd.underlying5 e
    have hb := bounds_u8 hw
    refine ⟨n.toNat, by omega, ?_⟩
    have e2 := congrArg (·[0]?) e1
    have e3 : cs.toList[i]? = some (.int .u8 n) := by simpa [Value.cells, List.getElem?_take, List.getElem?_drop] using e2
    rw [e3, show ((n.toNat : Nat) : Int) = n by omega]
  have all : ∀ i : Nat, ∃ z : Nat, z < 256 ∧ (i < 32 → cs.toList[i]? = some (.int .u8 (z : Int))) := fun i => by
    by_cases g : i < 32
    · obtain ⟨z, h1, h2⟩ := each i g; exact ⟨z, h1, fun _ => h2⟩
    · exact ⟨0, by decide, fun q => absurd q g⟩
  refine ⟨(List.range 32).map fun i => Classical.choose (all i), ?_, by simp, fun x hx => ?_⟩
  · congr 1
    apply Array.ext'
    apply List.ext_getElem?
    intro i
    by_cases hi : i < 32
    · rw [(Classical.choose_spec (all i)).2 hi]
      simp [vals8, hi]
    · rw [List.getElem?_eq_none (by simpa [hsz] using hi), List.getElem?_eq_none (by simp [vals8]; omega)]
  · obtain ⟨i, _, rfl⟩ := List.mem_map.1 hx
    exact (Classical.choose_spec (all i)).1
end Go.Proofs.YtckikgfckihniaaDoor
/- What comes in at the laws on stores: a row of sums. -/
namespace Go.Proofs.YtckikgfckihniaaDoor
open Go.RowKit Go.HashMath Go.CodeMath

theorem sums_in {H : Type} {enc : TypeId × Value → H} {w : World} {held : Bool} {r : Reach} {b0 : Nat} {v : Value} {d : DataW H} {p : List MemPlace} (hv : Value.okWide Tryd.prog w r b0 24 v) (h : DataW.Trod enc Tryd.prog w 0 (fun _ => true) held 24 v d p) : ∃ l, HoldsB vals8 32 w v l ∧ ∀ y ∈ l, Sum32 y := by
  have cP : Tryd.prog.cellsOf 23 = 32 := by kernel_rfl
  obtain ⟨a0, len0, cap0, rfl⟩ := Go.WideShapes.okWide_slice Tryd.underlying24 hv
  obtain ⟨fuel, hf⟩ := h
  rcases Go.Deep.open_slice Tryd.underlying24 hf with ⟨hcs, _⟩ | ⟨a, len, cap, m, n, D, Pl, hcs, _, hl, hm, hmm, _, hi⟩
  · simp [Value.cells] at hcs
    obtain ⟨rfl, rfl, rfl⟩ := hcs
    exact ⟨[], HoldsB.nil _ _ _, fun y q => absurd q List.not_mem_nil⟩
  · simp [Value.cells] at hcs
    obtain ⟨rfl, rfl, rfl⟩ := hcs
    have hmm : m = cap0 := by simpa using hmm
    subst hmm
    have each : ∀ i : Nat, ∃ q : List Nat, i < len0 → Sum32 q ∧ w.cells? 0 (a.add (i * 32)) 32 = some (vals8 q) := fun i => by
      by_cases g : i < len0
      · obtain ⟨cs, hc, ht⟩ := hi i (by omega)
        rw [cP] at hc
        obtain ⟨q, rfl, h1⟩ := sum_read ht
        exact ⟨q, fun _ => ⟨h1, hc⟩⟩
      · exact ⟨[], fun q => absurd q g⟩
    refine ⟨(List.range len0).map fun i => Classical.choose (each i), ⟨_, _, _, rfl, by simp, hl, ⟨hm, fun e => by cases e⟩, ?_⟩, fun y hy => ?_⟩
    · by_cases hz : len0 = 0
      · exact Or.inl hz
      · obtain ⟨q0, hq0⟩ := each 0
        obtain ⟨s0, c0⟩ := hq0 (by omega)
        rw [Nat.zero_mul] at c0
        obtain ⟨_, _, hat⟩ := World.cells?_some c0
        have c00 := hat 0 (by decide)
        obtain ⟨y0, hy0⟩ : ∃ y, (vals8 q0)[0]? = some y := ⟨(vals8 q0)[0]'(by rw [vals8, List.length_map, s0.1]; decide), List.getElem?_eq_getElem _⟩
        rw [hy0] at c00
        have c00 : w.cell? a = some y0 := by simpa [Addr.add] using c00
        obtain ⟨e, hb⟩ := spot8 c00
        refine Or.inr ⟨a.block, a.off, by rw [← e], hb, fun i x hx j y hj => ?_⟩
        obtain ⟨hi2, hx2⟩ := List.getElem?_eq_some_iff.1 hx
        rw [List.length_map, List.length_range] at hi2
        simp only [List.getElem_map, List.getElem_range] at hx2
        subst hx2
        obtain ⟨h1, h3⟩ := Classical.choose_spec (each i) hi2
        obtain ⟨_, hl3, hat3⟩ := World.cells?_some h3
        have hj2 : j < 32 := by have := (List.getElem?_eq_some_iff.1 hj).1; rw [vals8, List.length_map, h1.1] at this; exact this
        have := hat3 j hj2
        rw [hj, e, Addr.add_mid, Addr.add_mid] at this
        exact this
    · obtain ⟨i, hi2, rfl⟩ := List.mem_map.1 hy
      exact (Classical.choose_spec (each i) (List.mem_range.1 hi2)).1
end Go.Proofs.YtckikgfckihniaaDoor
/- What is kept, by heights: which number is kept of each height, and how many there are. -/
namespace Go.Proofs.YtckikgfckihniaaDoor
open Go.RowKit Go.HashMath Go.CodeMath

/-- The greatest number below n of height h, for 2^h not above n. -/
def kno (n h : Nat) : Nat := (2 * ((n / 2 ^ h - 1) / 2) + 1) * 2 ^ h - 1
theorem two20 {h : Nat} (hh : h < 20) : 2 ^ h * (2 * 2 ^ (19 - h)) = 1048576 := by
  rw [show 2 * 2 ^ (19 - h) = 2 ^ (20 - h) by rw [show 20 - h = (19 - h) + 1 by omega, Nat.pow_succ, Nat.mul_comm], ← Nat.pow_add, show h + (20 - h) = 20 by omega]
theorem hgtN_form {k h : Nat} (hk : k < 1048576) (e : hgtN k = h) (hh : h < 20) : ∃ c, k + 1 = 2 ^ h * (2 * c + 1) := by
  obtain ⟨a, ha⟩ := hgt_form (p := plc k) (h := h) e hh
  have t := two20 hh
  have hm : 0 < 2 ^ h := Nat.two_pow_pos _
  have hlt : 2 * a + 1 < 2 * 2 ^ (19 - h) := by
    refine Nat.lt_of_mul_lt_mul_left (a := 2 ^ h) ?_
    rw [← ha, t]; unfold plc; omega
  refine ⟨2 ^ (19 - h) - a - 1, ?_⟩
  rw [show 2 * (2 ^ (19 - h) - a - 1) + 1 = 2 * 2 ^ (19 - h) - (2 * a + 1) by omega, Nat.mul_sub, t, ← ha]
  unfold plc; omega
theorem hgtN_of {k h c : Nat} (hk : k < 1048576) (hh : h < 20) (e : k + 1 = 2 ^ h * (2 * c + 1)) : hgtN k = h := by
  have t := two20 hh
  have hm : 0 < 2 ^ h := Nat.two_pow_pos _
  have hlt : 2 * c + 1 ≤ 2 * 2 ^ (19 - h) := by
    refine Nat.le_of_mul_le_mul_left (show 2 ^ h * (2 * c + 1) ≤ 2 ^ h * (2 * 2 ^ (19 - h)) from ?_) hm
    rw [← e, t]; omega
  have e2 : plc k = 2 ^ h * (2 * (2 ^ (19 - h) - c - 1) + 1) := by
    rw [show 2 * (2 ^ (19 - h) - c - 1) + 1 = 2 * 2 ^ (19 - h) - (2 * c + 1) by omega, Nat.mul_sub, t, ← e]
    unfold plc; omega
  unfold hgtN
  rw [e2]
  exact hgt_of_form hh
theorem last_one {n h a b : Nat} (ha : IsLast n h a) (hb : IsLast n h b) : a = b := by
  rcases Nat.lt_trichotomy a b with q | q | q
  · exact absurd hb.2.1 (ha.2.2 b q hb.1)
  · exact q
  · exact absurd ha.2.1 (hb.2.2 a q ha.1)
theorem kno_last {n h : Nat} (hn : n ≤ 1048576) (hh : 2 ^ h ≤ n) : IsLast n h (kno n h) := by
  have hm : 0 < 2 ^ h := Nat.two_pow_pos _
  have m1 : 1 ≤ n / 2 ^ h := (Nat.le_div_iff_mul_le hm).2 (by omega)
  have h20 : h ≤ 20 := by
    rcases Nat.lt_or_ge 20 h with q | q
    · have := Nat.pow_le_pow_right (show 0 < 2 by decide) q
      have : (2 : Nat) ^ 21 = 2097152 := by decide
      omega
    · exact q
  obtain ⟨a, ha⟩ : ∃ a, a = (n / 2 ^ h - 1) / 2 := ⟨_, rfl⟩
  have le1 : (2 * a + 1) * 2 ^ h ≤ n := by
    refine Nat.le_trans (Nat.mul_le_mul_right _ (show 2 * a + 1 ≤ n / 2 ^ h by omega)) ?_
    exact Nat.div_mul_le_self n _
  have ge1 : 0 < (2 * a + 1) * 2 ^ h := Nat.mul_pos (by omega) hm
  have ek : kno n h + 1 = 2 ^ h * (2 * a + 1) := by
    unfold kno
    rw [← ha, Nat.mul_comm (2 ^ h)]
    omega
  have ek' : kno n h < n := by rw [Nat.mul_comm] at ek; omega
  refine ⟨ek', ?_, fun k k1 k2 => ?_⟩
  · rcases Nat.lt_or_ge h 20 with q | q
    · exact hgtN_of (by omega) q ek
    · obtain rfl : h = 20 := by omega
      have t : (2 : Nat) ^ 20 = 1048576 := by decide
      rw [t] at *
      have : kno n 20 = 1048575 := by omega
      rw [this]
      decide +kernel
  · intro hk
    rcases Nat.lt_or_ge h 20 with q | q
    · obtain ⟨c, hc⟩ := hgtN_form (by omega) hk q
      have c1 : 2 * a + 1 < 2 * c + 1 := by
        refine Nat.lt_of_mul_lt_mul_left (a := 2 ^ h) ?_
        rw [← hc, ← ek]; omega
      have c2 : 2 * c + 1 ≤ n / 2 ^ h := by
        refine (Nat.le_div_iff_mul_le hm).2 ?_
        rw [Nat.mul_comm, ← hc]; omega
      omega
    · obtain rfl : h = 20 := by omega
      have := plc_20 (n := k) (by omega) hk
      have t : (2 : Nat) ^ 20 = 1048576 := by decide
      rw [t] at *
      omega
theorem last_pow {n h a : Nat} (hn : n ≤ 1048576) (l : IsLast n h a) : 2 ^ h ≤ n := by
  have hl := l.1
  have h20 : h ≤ 20 := by have := hgt_le (plc a); have := l.2.1; unfold hgtN at this; omega
  rcases Nat.lt_or_ge h 20 with q | q
  · obtain ⟨c, hc⟩ := hgtN_form (by omega) l.2.1 q
    have : 2 ^ h * 1 ≤ 2 ^ h * (2 * c + 1) := Nat.mul_le_mul_left _ (by omega)
    omega
  · obtain rfl : h = 20 := by omega
    have := plc_20 (n := a) (by omega) l.2.1
    have t : (2 : Nat) ^ 20 = 1048576 := by decide
    rw [t]; omega
/-- Heights below the length in bits. -/
theorem bit_lt {n h : Nat} (hn : n < 18446744073709551616) : h < Lib.bitLen n ↔ 2 ^ h ≤ n := by
  constructor
  · intro g
    rcases Nat.lt_or_ge n (2 ^ h) with q | q
    · exfalso
      have h64 : h ≤ 64 := by
        have := Lib.bitLen_le n 64 (by decide) (by simpa using hn)
        omega
      have := Lib.bitLen_le n h h64 q
      omega
    · exact q
  · intro g
    have := Lib.bitLen_shift h n g (by simpa using hn)
    have h0 : n / 2 ^ h ≠ 0 := by
      have := (Nat.le_div_iff_mul_le (Nat.two_pow_pos h)).2 (show 1 * 2 ^ h ≤ n by omega)
      omega
    have := Lib.bitLen_half (n / 2 ^ h) h0 (Nat.lt_of_le_of_lt (Nat.div_le_self _ _) (by simpa using hn))
    omega
theorem bit_21 {n : Nat} (hn : n ≤ 1048576) : Lib.bitLen n ≤ 21 := Lib.bitLen_le n 21 (by decide) (Nat.lt_of_le_of_lt hn (by decide))
theorem kno_height {n h : Nat} (hn : n ≤ 1048576) (hh : h < Lib.bitLen n) : hgtN (kno n h) = h := (kno_last hn ((bit_lt (by omega)).1 hh)).2.1
theorem kno_lt {n h : Nat} (hn : n ≤ 1048576) (hh : h < Lib.bitLen n) : kno n h < n := (kno_last hn ((bit_lt (by omega)).1 hh)).1
theorem good_knos {n : Nat} {L : KeptL} (g : Good n L) : L.map (·.1) = (List.range (Lib.bitLen n)).map (kno n) := by
  have up := g.up
  refine rise_ext hgtN _ _ (List.pairwise_map.2 g.rise) ?_ fun x => ⟨fun hx => ?_, fun hx => ?_⟩
  · refine List.pairwise_map.2 ((List.pairwise_lt_range (n := Lib.bitLen n)).imp_of_mem fun ha hb h => ?_)
    rw [kno_height up (List.mem_range.1 ha), kno_height up (List.mem_range.1 hb)]
    exact h
  · obtain ⟨e, he, rfl⟩ := List.mem_map.1 hx
    have la := g.last e he
    have hp := last_pow up la
    exact List.mem_map.2 ⟨hgtN e.1, List.mem_range.2 ((bit_lt (by omega)).2 hp), last_one (kno_last up hp) la⟩
  · obtain ⟨h, hh, rfl⟩ := List.mem_map.1 hx
    have hp := (bit_lt (n := n) (by omega)).1 (List.mem_range.1 hh)
    have la := kno_last up hp
    obtain ⟨e, he, q⟩ := g.all _ la.1
    have lb := g.last e he
    rw [q, la.2.1] at lb
    exact List.mem_map.2 ⟨e, he, last_one lb la⟩
theorem good_len {n : Nat} {L : KeptL} (g : Good n L) : L.length = Lib.bitLen n := by
  have := congrArg List.length (good_knos g)
  simpa using this
theorem good_at {n : Nat} {L : KeptL} (g : Good n L) {h : Nat} (hh : h < Lib.bitLen n) : ∃ x, L[h]? = some (kno n h, x) := by
  have hl : h < L.length := by rw [good_len g]; exact hh
  have e := congrArg (·[h]?) (good_knos g)
  simp only [List.getElem?_map, List.getElem?_range hh, List.getElem?_eq_getElem hl, Option.map_some, Option.some.injEq] at e
  exact ⟨(L[h]).2, by rw [List.getElem?_eq_getElem hl, ← e]⟩
theorem good_no {n : Nat} {L : KeptL} (g : Good n L) {e : Nat × List Nat} (he : e ∈ L) : e.1 = kno n (hgtN e.1) ∧ hgtN e.1 < Lib.bitLen n := by
  have la := g.last e he
  have hp := last_pow g.up la
  exact ⟨last_one la (kno_last g.up hp), (bit_lt (by have := g.up; omega)).2 hp⟩
/-- What the heights below that of the next number's place have. -/
theorem low_bits {n : Nat} (hn : n < 1048576) {h : Nat} (hh : h < hgtN n) : h < Lib.bitLen n := by
  refine (bit_lt (by omega)).2 ?_
  have d := hgt_div (p := plc n) (k := h + 1) hh
  have h20 := hgt_le (plc n)
  have hh' : h < hgt (plc n) := hh
  have t := two20 (h := h) (by omega)
  have e : 2 ^ (h + 1) * (plc n / 2 ^ (h + 1)) = plc n := by have := Nat.div_add_mod (plc n) (2 ^ (h + 1)); omega
  have hm : 0 < 2 ^ h := Nat.two_pow_pos _
  rw [Nat.pow_succ, Nat.mul_assoc] at e
  have hlt : 2 * (plc n / (2 ^ h * 2)) < 2 * 2 ^ (19 - h) := by
    refine Nat.lt_of_mul_lt_mul_left (a := 2 ^ h) ?_
    rw [e, t]; unfold plc; omega
  have : 2 ^ h * (2 * (plc n / (2 ^ h * 2)) + 2) ≤ 2 ^ h * (2 * 2 ^ (19 - h)) := Nat.mul_le_mul_left _ (by omega)
  rw [Nat.mul_add, e, t] at this
  unfold plc at this
  omega
/-! ### The number of noughts, as math/bits tells it -/
theorem ctz_hgt {p : Nat} (hp : p < 1048576) : min (Lib.ctz 64 p) 20 = hgt p := by
  by_cases h0 : p = 0
  · subst h0; decide +kernel
  · have e : Lib.ctz 64 p = Lib.ctzFrom 64 p := if_neg h0
    obtain ⟨m, hm, hk⟩ := Lib.ctzFrom_spec 64 p (by omega) (Nat.lt_trans hp (by decide))
    rw [e]
    generalize Lib.ctzFrom 64 p = k at *
    have hk20 : k < 20 := by
      rcases Nat.lt_or_ge k 20 with q | q
      · exact q
      · exfalso
        have h1 := Nat.pow_le_pow_right (show 0 < 2 by decide) q
        have h2 : 2 ^ k * 1 ≤ 2 ^ k * (2 * m + 1) := Nat.mul_le_mul_left _ (by omega)
        have : (2 : Nat) ^ 20 = 1048576 := by decide
        omega
    rw [hm, hgt_of_form hk20]
    omega
/-- The odd number not above m. -/
theorem or_one (k : Nat) : k ||| 1 = 2 * (k / 2) + 1 := by
  apply Nat.eq_of_testBit_eq
  intro i
  cases i with
  | zero => simp [Nat.testBit_zero]
  | succ i =>
    rw [Nat.testBit_or, Nat.testBit_succ, Nat.testBit_succ, Nat.testBit_succ, show (1 : Nat) / 2 = 0 from rfl, show (2 * (k / 2) + 1) / 2 = k / 2 by omega]
    simp
end Go.Proofs.YtckikgfckihniaaDoor
/- The document's own places, heights, and what one comes to. -/
namespace Go.Proofs.YtckikgfckihniaaDoor
open Go.RowKit Go.HashMath Go.CodeMath

theorem i64_and1 (n : Int) : bits .and .i64 n 1 = n % 2 := by
  have h1 : (BitVec.ofInt 64 1).toNat = 2 ^ 1 - 1 := by decide
  have key : (BitVec.ofInt 64 n &&& BitVec.ofInt 64 1).toNat = (n % ((2 ^ 64 : Nat) : Int)).toNat % 2 ^ 1 := by
    rw [BitVec.toNat_and, BitVec.toNat_ofInt, h1, Nat.and_two_pow_sub_one_eq_mod]
  show IntKind.i64.wrap ((BitVec.ofInt 64 n &&& BitVec.ofInt 64 1).toNat : Nat) = n % 2
  rw [key, IntKind.wrap_i64]
  omega
theorem bit_at (p n : Nat) : bits .and .i64 ((p : Int) / 2 ^ n) 1 = ((p / 2 ^ n % 2 : Nat) : Int) := by
  rw [i64_and1, Int.natCast_emod, Int.natCast_ediv, Int.natCast_pow]; rfl
theorem ref10_place (no : Nat) (h : no ≤ 1048575) (w : World) : Calls Tryd.prog 30 #[.int .i64 (no : Int)] w (fun e w' => e = .returned (.int .i64 (plc no : Int)) ∧ w = w') := by
  have e1 : 1048575 - (no : Int) = ((plc no : Nat) : Int) := by unfold plc; omega
  have n0 : (0 : Int) ≤ (no : Int) := by omega
  have n1 : (no : Int) ≤ 1048575 := by omega
  clear h
  go_enter Tryd.func30, Tryd.ntmps30
  go_wp2_with fail
  go_ret
  exact ⟨by first | rfl | rw [e1], rfl⟩
def HgtAt (p : Nat) (sn : Value) : Prop := ∃ n : Nat, n ≤ hgt p ∧ sn = .int .i64 (n : Int)
theorem hgt_more {p n : Nat} (h : n ≤ hgt p) (h20 : n < 20) (e : p / 2 ^ n % 2 = 0) : n + 1 ≤ hgt p := by
  refine hgt_ge (by omega) ?_
  have := hgt_div h
  rw [Nat.pow_succ, Nat.mod_mul, this, e, Nat.mul_zero]
theorem hgt_end {p n : Nat} (h : n ≤ hgt p) (e : p / 2 ^ n % 2 = 1) : n = hgt p := by
  by_cases g : n = hgt p
  · exact g
  · exfalso
    have := hgt_div (p := p) (k := n + 1) (by omega)
    rw [Nat.pow_succ, Nat.mod_mul, hgt_div h, e] at this
    have : 0 < 2 ^ n := Nat.two_pow_pos _
    omega
set_option maxHeartbeats 1000000 in
theorem ref10_height (p : Nat) (hp : p < 1048576) (w : World) : Calls Tryd.prog 33 #[.int .i64 (p : Int)] w (fun e w' => e = .returned (.int .i64 (hgt p : Int)) ∧ w = w') := by
  have p0 : (0 : Int) ≤ (p : Int) := by omega
  have p1 : (p : Int) ≤ 1048575 := by omega
  clear hp
  go_enter Tryd.func33, Tryd.ntmps33
  go_wp2_with fail
  go_loopw [3] (fun sn wr => HgtAt p sn ∧ w = wr) (fun sn _ => 20 - (intOf sn).toNat)
  case atStart => exact ⟨⟨0, Nat.zero_le _, rfl⟩, rfl⟩
  case round =>
    obtain ⟨⟨n, hn, rfl⟩, rfl⟩ := hrel
    have h20 := hgt_le p
    have n0 : (0 : Int) ≤ (n : Int) := by omega
    have n2 : ¬ (n : Int) < 0 := by omega
    have n3 : min n 64 = n := by omega
    by_cases g : n < 20
    · have g1 : (n : Int) < 20 := by omega
      have BA := bit_at p n
      rcases (show p / 2 ^ n % 2 = 0 ∨ p / 2 ^ n % 2 = 1 by omega) with e | e
      · rw [e] at BA
        have HN := Lib.hid (hgt_more hn g e)
        have GN := Lib.hid g
        clear hn h20 g e
        go_wp2_with fail
        go_roundw
        case rel => exact ⟨⟨n + 1, HN.out, by go_num⟩, by first | trivial | rfl⟩
        case measure => have := GN.out; simp [intOf] <;> omega
      · rw [e] at BA
        have HN := Lib.hid (hgt_end hn e)
        clear hn h20 g e
        go_wp2_with fail
        go_ret
        exact ⟨by rw [← HN.out]; rfl, rfl⟩
    · obtain rfl : n = 20 := by omega
      have HN := Lib.hid (show 20 = hgt p by omega)
      clear hn h20 g
      go_wp2_with fail
      go_ret
      exact ⟨by rw [← HN.out]; rfl, rfl⟩
theorem comesB_is (p q : Nat) : comesP p q = ((p : Int) / 2 ^ hgt p == (q : Int) / 2 ^ hgt p) := by
  have e : ∀ x : Nat, (x : Int) / 2 ^ hgt p = ((x / 2 ^ hgt p : Nat) : Int) := fun x => by rw [Int.natCast_ediv, Int.natCast_pow]; rfl
  rw [e, e]
  unfold comesP
  by_cases h : p / 2 ^ hgt p = q / 2 ^ hgt p
  · rw [decide_eq_true h, h, beq_self_eq_true]
  · rw [decide_eq_false h]; symm; rw [beq_eq_false_iff_ne]; omega
theorem ref10_comes (p q : Nat) (hp : p < 1048576) (hq : q < 1048576) (w : World) : Calls Tryd.prog 36 #[.int .i64 (p : Int), .int .i64 (q : Int)] w (fun e w' => e = .returned (.bool (comesP p q)) ∧ Keeps w w') := by
  have HG := Lib.hid (ref10_height p hp)
  rw [comesB_is]
  have h20 := hgt_le p
  have n0 : (0 : Int) ≤ (hgt p : Int) := by omega
  have n2 : ¬ (hgt p : Int) < 0 := by omega
  have n3 : min (hgt p) 64 = hgt p := by omega
  have p0 : (0 : Int) ≤ (p : Int) := by omega
  have q0 : (0 : Int) ≤ (q : Int) := by omega
  clear hp hq h20
  generalize hgt p = h at *
  go_enter Tryd.func36, Tryd.ntmps36
  go_upto_region 2 with (go_at_call 33; (with_reducible refine (HG.out _).mono ?_); rintro e w' ⟨rfl, rfl⟩)
  go_quiet (fail)
  go_wp2_with fail
  go_ret
  exact ⟨rfl, by first | exact (Keeps.refl w).drewN _ | exact (Keeps.refl w).drew⟩
theorem wp_named10 {P : Program} {c : Code} {Q : Exit → Act → World → Prop} {a : Act} {wr : World} {Z cs : Array Value} {T : TypeId} (h : ∀ W z, Keeps wr W → W.heap[z]? = some (.cells cs T (0, 0)) → z = wr.heap.size → c.wp P Q a W) : c.wp P Q a ((wr.alloc (.cells Z T)).setRow wr.heap.size cs) :=
  h _ _ (below_setRow' ((Keeps.refl wr).alloc _) (Nat.le_refl _) _) (setRow_heap _ _ _ _ T (0, 0) (heap_alloc_new _ _)) rfl
def ToAt (w : World) (z z7 : Nat) (x : List Nat) (h q : Nat) (sk : Value) (wr : World) : Prop := ∃ (j : Nat) (y : List Nat), j ≤ h ∧ sk = .int .i64 ((j : Int) - 1) ∧ ArrN .u8 256 23 wr z7 y ∧ Sum32 y ∧ toS y j q = toS x h q ∧ Below z w wr
set_option maxHeartbeats 2000000 in
set_option maxRecDepth 100000 in
theorem ref10_to (x : List Nat) (h q : Nat) (hx : Sum32 x) (hh : h ≤ 20) (hq : q < 1048576) (w : World) : Calls Tryd.prog 29 #[.agg (vals8 x).toArray, .int .i64 (h : Int), .int .i64 (q : Int)] w (fun e w' => e = .returned (.agg (vals8 (toS x h q)).toArray) ∧ Keeps w w') := by
  have HX := Lib.hid hx
  have HH := Lib.hid hh
  have h0 : (0 : Int) ≤ (h : Int) := by omega
  have h1 : (h : Int) ≤ 20 := by omega
  have q0 : (0 : Int) ≤ (q : Int) := by omega
  have q1 : (q : Int) ≤ 1048575 := by omega
  clear hx hh hq
  go_enter Tryd.func29, Tryd.ntmps29
  go_upto_region 1 with fail
  obtain ⟨W, eW⟩ : ∃ W, W = (w.alloc (.cells (vals8 x).toArray 23)).alloc (.cells (cellsK .u8 (List.replicate 32 0)).toArray 23) := ⟨_, rfl⟩
  have A0 : ArrN .u8 256 23 W w.heap.size x := by rw [eW]; exact (ArrN.new w x HX.out.2).keeps ((Keeps.refl _).alloc _)
  have G0 : ArrN .u8 256 23 W (w.heap.size + 1) (List.replicate 32 0) := by
    rw [eW]
    have q := ArrN.new (k := .u8) (m := 256) (T := 23) (w.alloc (.cells (vals8 x).toArray 23)) (List.replicate 32 0) (noughts_lt 32)
    rw [World.size_alloc] at q
    exact q
  have K0 : Keeps w W := by rw [eW]; exact ((Keeps.refl w).alloc _).alloc _
  have Z := Lib.hid (show W.heap.size = w.heap.size + 2 by rw [eW, World.size_alloc, World.size_alloc])
  change Code.wp _ _ _ _ ((w.alloc (.cells (vals8 x).toArray 23)).alloc (.cells (cellsK .u8 (List.replicate 32 0)).toArray 23))
  rw [← eW]
  clear eW
  have A0 := Lib.hid A0
  go_upto_region 2 with (first
    | (refine wpList_load_sm (L := x) (by rfl) _ (by rfl) (by rfl) (A0.out).range HX.out.1 ?_)
    | (refine wpList_store_arr (k := .u8) (m := 256) (L := x) sizSum rfl _ _ (by rfl) (List.replicate 32 0) (by rfl) (by rfl) (ArrN.new W (List.replicate 32 0) (noughts_lt 32)) (by rw [List.length_replicate]) HX.out.1 ?_))
  refine wp_named10 fun W1 z7 hk1 hb ez => ?_
  rw [← ez]
  have A7 : ArrN .u8 256 23 W1 z7 x := ⟨HX.out.2, hb⟩
  have G1 := Lib.hid (G0.keeps hk1)
  have K1 := Lib.hid (K0.trans hk1)
  have ZZ := Lib.hid (show w.heap.size + 1 < z7 by have := Z.out; omega)
  clear hk1 hb ez A0 G0 K0 Z
  obtain ⟨z6, e6⟩ : ∃ z, z = w.heap.size + 1 := ⟨_, rfl⟩
  rw [← e6] at G1 ZZ ⊢
  have Z6 := Lib.hid e6
  clear e6
  go_wp2_with fail
  go_loopw [8] (fun sk wr => ToAt W1 z7 z7 x h q sk wr) (fun sk _ => (intOf sk + 1).toNat)
  case atStart => exact ⟨h, x, Nat.le_refl _, rfl, A7, HX.out, rfl, Below.refl _ _⟩
  case round =>
    clear A7
    obtain ⟨j, y, hj, rfl, hA, hy, hT, hB⟩ := hrel
    have HA := Lib.hid hA
    have HY := Lib.hid hy
    have HB := Lib.hid hB
    cases j with
    | zero =>
      have e0 : ((0 : Nat) : Int) - 1 = -1 := rfl
      rw [e0]
      have E := Lib.hid (show y = toS x h q from hT)
      have G2 := Lib.hid (show ArrN .u8 256 23 wr z6 (List.replicate 32 0) from ⟨G1.out.1, (Below.block hB z6 ZZ.out).trans G1.out.2⟩)
      have KF := Lib.hid (show Keeps w wr from Below.trans K1.out (Below.mono hB (by have := ZZ.out; have := Z6.out; omega)))
      clear hA hy hB hT hj e0
      go_wp2_with (first
        | (refine wpList_load_sm (L := y) (by rfl) _ (by rfl) (by rfl) HA.out.range HY.out.1 ?_)
        | (refine wpList_store_arr (k := .u8) (m := 256) (L := y) sizSum rfl _ _ (by rfl) (List.replicate 32 0) (by rfl) (by rfl) G2.out (by rw [List.length_replicate]) HY.out.1 ?_))
      exact bodyPost_ret (v := .agg (vals8 y).toArray) (results_arr undHash sizHash rfl _ (by rfl) (G2.out.setRow HY.out.2) HY.out.1) rfl ⟨by rw [E.out], below_setRow' KF.out (by rw [Z6.out]; exact Nat.le_succ _) _⟩
    | succ m =>
      have e0 : ((m + 1 : Nat) : Int) - 1 = (m : Int) := by omega
      rw [e0]
      have MB := Lib.hid (show m < h ∧ m < 20 by have := HH.out; omega)
      have m0 : (0 : Int) ≤ (m : Int) := by omega
      have m1 : (m : Int) ≤ 19 := by have := MB.out; omega
      have m2 : ¬ (m : Int) < 0 := by omega
      have m3 : min m 64 = m := by have := MB.out; omega
      have BA := bit_at q m
      rcases (show q / 2 ^ m % 2 = 1 ∨ q / 2 ^ m % 2 = 0 by omega) with e | e
      · rw [e] at BA
        have HT := Lib.hid (show toS (stepS y m) m q = toS x h q by rw [← hT, to_one e])
        obtain ⟨d, ed⟩ : ∃ d, d = m / 8 := ⟨_, rfl⟩
        obtain ⟨r, er⟩ : ∃ r, r = m % 8 := ⟨_, rfl⟩
        have d1 : (m : Int) / 8 = (d : Int) := by omega
        have d2 : (m : Int).tdiv 8 = (d : Int) := by rw [Int.tdiv_eq_ediv_of_nonneg m0]; exact d1
        have r1 : (m : Int) % 8 = (r : Int) := by omega
        have r2 : (m : Int).tmod 8 = (r : Int) := by rw [Int.tmod_eq_emod_of_nonneg m0]; exact r1
        have d0 : (0 : Int) ≤ (d : Int) := by omega
        have d3 : (d : Int) < 32 := by omega
        have r0 : (0 : Int) ≤ (r : Int) := by omega
        have r3 : ¬ (r : Int) < 0 := by omega
        have r4 : min r 64 = r := by omega
        have wd : IntKind.i64.wrap (d : Int) = (d : Int) := IntWalk.i64_in _ (by omega)
        have ws : IntKind.i64.wrap (r : Int) = (r : Int) := IntWalk.i64_in _ (by omega)
        have VL := Lib.hid (HA.out.lt (by decide) d)
        have FL := Lib.hid (show y.set d (y.getD d 0 ^^^ 2 ^ r) = flipB y m by unfold flipB; rw [ed, er])
        have c7 := HA.out.cell d (by rw [HY.out.1]; omega)
        have OT := Lib.hid (flip_ok HY.out m)
        generalize y.getD d 0 = v at *
        have XO := Lib.hid (show bits .xor .u8 (v : Int) ((2 : Int) ^ r % 256) = ((v ^^^ 2 ^ r : Nat) : Int) by
          have h2 : (2 : Nat) ^ r < 256 := Nat.lt_of_lt_of_le (Nat.pow_lt_pow_right (by decide) (show r < 8 by omega)) (Nat.le_refl _)
          have h3 : ((2 : Int) ^ r) = ((2 ^ r : Nat) : Int) := by rw [Int.natCast_pow]; rfl
          rw [h3]
          have hv := VL.out
          generalize (2 : Nat) ^ r = b at h2 ⊢
          rw [Int.emod_eq_of_lt (Int.natCast_nonneg b) (by omega)]
          exact u8_xor_nat _ _ hv h2)
        have LX := Lib.hid (show v ^^^ 2 ^ r < 256 from Nat.xor_lt_two_pow (n := 8) VL.out (Nat.lt_of_lt_of_le (Nat.pow_lt_pow_right (by decide) (show r < 8 by omega)) (Nat.le_refl _)))
        have DR := Lib.hid (show d < 32 ∧ r < 8 ∧ m / 8 = d ∧ m % 8 = r by omega)
        clear ed er hA hy hB hT hj e e0
        go_upto_region 6 with fail
        go_still_tail 11, (by kernel_rfl)
        change wpList _ _ _ _ _ wr.drew
        obtain ⟨wd2, ed⟩ : ∃ x, x = wr.drew := ⟨_, rfl⟩
        have kd : Keeps wr wd2 := by rw [ed]; exact (Keeps.refl _).drew
        have HA := Lib.hid (HA.out.keeps kd)
        have HB := Lib.hid (show Below z7 W1 wd2 from Below.trans HB.out (by rw [ed]; exact Below.drew (Below.refl _ _)))
        have f7 := HA.out.free d
        have c7 : wd2.cell? ⟨z7, d, none⟩ = some (.int .u8 (v : Int)) := by rw [ed]; exact c7
        rw [← ed]
        clear ed kd
        have SL := run_sliceAll z7
        go_upto_region 7 with fail
        rw [XO.out]
        have HS := HA.out.set d (v ^^^ 2 ^ r) LX.out
        rw [FL.out] at HS
        obtain ⟨W5, eW⟩ : ∃ x, x = wd2.setCell ⟨z7, d, none⟩ (.int .u8 ((v ^^^ 2 ^ r : Nat) : Int)) := ⟨_, rfl⟩
        have HB5 := Lib.hid (show Below z7 W1 W5 by rw [eW]; exact Below.setCell HB.out (Nat.le_refl _) _)
        rw [← eW] at HS ⊢
        have HS := Lib.hid HS
        have RS := Lib.hid (ref_sum _ (flipB y m) W5 (sum_slice HS.out OT.out.1) (by rw [OT.out.1]; decide))
        clear eW c7 f7
        go_wp2_with (first
          | (go_at_call 56; (refine Calls.mono RS.out ?_); rintro e w6 ⟨rfl, hk6⟩)
          | (refine wpList_store_arr (k := .u8) (m := 256) (L := stepS y m) sizSum rfl _ _ (by rfl) (flipB y m) (by rfl) (by rfl) (HS.out.keeps hk6) OT.out.1 (step_ok y m).1 ?_))
        have HN := Lib.hid ((HS.out.keeps hk6).setRow (step_ok y m).2)
        have HB6 := Lib.hid (show Below z7 W1 (w6.setRow z7 (cellsK .u8 (stepS y m)).toArray) from below_setRow' (Below.trans HB5.out (Below.mono hk6 (by have := HS.out.size; omega))) (Nat.le_refl _) _)
        go_roundw
        case rel => exact ⟨m, stepS y m, by have := MB.out; omega, by go_num, HN.out, step_ok y m, HT.out, HB6.out⟩
        case measure => simp [intOf] <;> omega
      · rw [e] at BA
        have HT := Lib.hid (show toS y m q = toS x h q by rw [← hT, to_none (by omega)])
        clear hA hy hB hT hj e e0
        go_wp2_with fail
        go_roundw
        case rel => exact ⟨m, y, by have := MB.out; omega, by go_num, HA.out, HY.out, HT.out, HB.out⟩
        case measure => simp [intOf] <;> omega
end Go.Proofs.YtckikgfckihniaaDoor
/- The document's own secrets. -/
namespace Go.Proofs.YtckikgfckihniaaDoor
open Go.RowKit Go.HashMath Go.CodeMath

theorem results_sec {fn : Func} {p u : Tmp} {w : World} {G : Nat} {L : List Nat} (h : fn.results = #[.cell p 23, .tmp u]) (tmps : Array Value)
    (hp : tmps.getD p undef = .pointer (some ⟨G, 0, none⟩)) {b : Value} (hb : tmps.getD u undef = b) (hA : w.rangeAt G 0 (cellsK .u8 L)) (hl : L.length = 32) : (results fn tmps).run Tryd.prog w = .ok (.tuple #[.agg (cellsK .u8 L).toArray, b]) w := by
  rw [results_cell_tmp h, hp, hb]
  have e := run_loadVar_mid (P := Tryd.prog) w G 0 23 (cellsK .u8 L) _ hA undHash rfl (by rw [cellsK_len, hl]; exact sizHash)
  simp [asAddr, e, Result.andThen]
theorem wpStill_load_sm {ops : Array Oper} {rest : List Oper} {op : Oper} {a : Act} {Q : Act → Prop} {w : World} {G : Nat} {L : List Nat} (hg : op.guard = none) (x : Operand) (ho : op.op = .load 23 x) (hx : a.eval x = .pointer (some ⟨G, 0, none⟩))
    (hA : w.rangeAt G 0 (cellsK .u8 L)) (hl : L.length = 32) (h : wpStill Tryd.prog ops w Q rest (a.put op.dst (.agg (vals8 L).toArray))) : wpStill Tryd.prog ops w Q (op :: rest) a := by
  refine wpStill_step fun K hK => ?_
  rw [if_pos (by unfold Region.wanted; rw [hg])]
  unfold Oper.still execOp
  have e := run_loadVar_mid (P := Tryd.prog) w G 0 23 (cellsK .u8 L) _ hA undHash rfl (by rw [cellsK_len, hl]; exact sizHash)
  simp only [ho, hx, Instr.loadAt, Instr.sureAddr, Sem.run_bind, Sem.run_pure, Result.andThen_ok, e]
  exact ⟨rfl, hK _ h⟩
set_option maxHeartbeats 1000000 in
theorem ref10_secret (seed : List Nat) (no : Int) (w : World) (hs : Sum32 seed) (h0 : -9223372036854775808 ≤ no) (h1 : no ≤ 9223372036854775807) : Calls Tryd.prog 10 #[.agg (vals8 seed).toArray, .int .i64 no] w (GivesSec (secV seed no) (secB no) w) := by
  have HX := Lib.hid hs
  obtain ⟨W, eW⟩ : ∃ W, W = (w.alloc (.cells (vals8 seed).toArray 23)).alloc (.cells (cellsK .u8 (List.replicate 32 0)).toArray 23) := ⟨_, rfl⟩
  have A0 : ArrN .u8 256 23 W w.heap.size seed := by rw [eW]; exact (ArrN.new w seed HX.out.2).keeps ((Keeps.refl _).alloc _)
  have G0 : ArrN .u8 256 23 W (w.heap.size + 1) (List.replicate 32 0) := by
    rw [eW]
    have q := ArrN.new (k := .u8) (m := 256) (T := 23) (w.alloc (.cells (vals8 seed).toArray 23)) (List.replicate 32 0) (noughts_lt 32)
    rw [World.size_alloc] at q
    exact q
  have K0 : Keeps w W := by rw [eW]; exact ((Keeps.refl w).alloc _).alloc _
  obtain ⟨z, ez⟩ : ∃ z, z = w.heap.size + 1 := ⟨_, rfl⟩
  have A0 := Lib.hid A0
  have G0 := Lib.hid G0
  have K0 := Lib.hid K0
  have EW := Lib.hid eW
  have EZ := Lib.hid ez
  clear eW ez hs
  by_cases g : 0 ≤ no ∧ no < 1048576
  · obtain ⟨n, rfl⟩ : ∃ n : Nat, no = (n : Int) := ⟨no.toNat, by omega⟩
    have ET := Lib.hid (show toS seed 20 (plc n) = secV seed (n : Int) from ((if_pos g).trans (by rw [Int.toNat_natCast]; rfl)).symm)
    have EB := Lib.hid (show secB (n : Int) = true from decide_eq_true g)
    have OK := Lib.hid (secV_ok HX.out (n : Int))
    have CP := Lib.hid (ref10_place n (by omega))
    have CT := Lib.hid (fun w => show Calls Tryd.prog 29 #[.agg (vals8 seed).toArray, .int .i64 20, .int .i64 (plc n : Int)] w (fun e w' => e = .returned (.agg (vals8 (secV seed (n : Int))).toArray) ∧ Keeps w w') from by rw [← ET.out]; exact ref10_to seed 20 (plc n) HX.out (by decide) (by unfold plc; omega) w)
    rw [EB.out]
    have g0 : (0 : Int) ≤ (n : Int) := by omega
    have g1 : ¬ (n : Int) < 0 := by omega
    have g2 : (n : Int) < 1048576 := by omega
    have g3 : ¬ 1048576 ≤ (n : Int) := by omega
    clear g h0 h1
    generalize secV seed (n : Int) = t at *
    go_enter Tryd.func10, Tryd.ntmps10
    go_upto_region 1 with fail
    change Code.wp _ _ _ _ ((w.alloc (.cells (vals8 seed).toArray 23)).alloc (.cells (cellsK .u8 (List.replicate 32 0)).toArray 23))
    rw [← EW.out, ← EZ.out]
    have G0 := Lib.hid (show ArrN .u8 256 23 W z (List.replicate 32 0) by rw [EZ.out]; exact G0.out)
    go_upto_region 3 with fail
    refine wp_region_still_tail 3 (by kernel_rfl) (by kernel_rfl) ?_
    simp only [List.take_succ_cons, List.take_zero, List.drop_succ_cons, List.drop_zero]
    refine wpStill_load_sm (L := seed) (by rfl) _ (by rfl) (by rfl) (show World.rangeAt W.drew w.heap.size 0 (cellsK .u8 seed) from (A0.out.keeps (Keeps.refl _).drew).range) HX.out.1 ?_
    still_step
    still_call ((CP.out _).mono (fun e x h => ⟨h.1, h.2.symm⟩))
    refine wpStill_nil ?_
    change wpList _ _ _ _ _ W.drew
    obtain ⟨w2, ed⟩ : ∃ x, x = W.drew := ⟨_, rfl⟩
    have kd : Keeps W w2 := by rw [ed]; exact (Keeps.refl _).drew
    have G0 := Lib.hid (G0.out.keeps kd)
    have K0 := Lib.hid (K0.out.trans kd)
    rw [← ed]
    clear ed kd
    go_wp2_with (first
      | (go_at_call 29; (with_reducible refine (CT.out _).mono ?_); rintro e w6 ⟨rfl, hk6⟩)
      | (refine wpList_store_arr (k := .u8) (m := 256) (L := t) sizSum rfl _ _ (by rfl) (List.replicate 32 0) (by rfl) (by rfl) (G0.out.keeps hk6) (by rw [List.length_replicate]) OK.out.1 ?_))
    exact bodyPost_ret (v := .tuple #[.agg (vals8 t).toArray, .bool true]) (results_sec rfl _ (by rfl) (by rfl) ((G0.out.keeps hk6).setRow OK.out.2).range OK.out.1) rfl ⟨rfl, below_setRow' (K0.out.trans hk6) (by rw [EZ.out]; exact Nat.le_succ _) _⟩
  · have EV := Lib.hid (show secV seed no = List.replicate 32 0 from if_neg g)
    have EB := Lib.hid (show secB no = false from decide_eq_false g)
    rw [EB.out, EV.out]
    have HR := Lib.hid (G0.out.setRow (noughts_lt 32))
    rcases (show no < 0 ∨ ¬ no < 0 ∧ ¬ no < 1048576 by omega) with g1 | ⟨g1, g2⟩
    · clear g
      go_enter Tryd.func10, Tryd.ntmps10
      go_upto_region 1 with fail
      change Code.wp _ _ _ _ ((w.alloc (.cells (vals8 seed).toArray 23)).alloc (.cells (cellsK .u8 (List.replicate 32 0)).toArray 23))
      rw [← EW.out, ← EZ.out]
      have G0 := Lib.hid (show ArrN .u8 256 23 W z (List.replicate 32 0) by rw [EZ.out]; exact G0.out)
      have HR := Lib.hid (G0.out.setRow (noughts_lt 32))
      go_wp2_with (refine wpList_store_arr (k := .u8) (m := 256) (L := List.replicate 32 0) sizSum rfl _ _ (by rfl) (List.replicate 32 0) (by rfl) (by rfl) G0.out (by rw [List.length_replicate]) (by rw [List.length_replicate]) ?_)
      exact bodyPost_ret (v := .tuple #[.agg (vals8 (List.replicate 32 0)).toArray, .bool false]) (results_sec rfl _ (by rfl) (by rfl) HR.out.range (by rw [List.length_replicate])) rfl ⟨rfl, below_setRow' K0.out (by rw [EZ.out]; exact Nat.le_succ _) _⟩
    · clear g
      have g0 : (0 : Int) ≤ no := by omega
      have g3 : (1048576 : Int) ≤ no := by omega
      go_enter Tryd.func10, Tryd.ntmps10
      go_upto_region 1 with fail
      change Code.wp _ _ _ _ ((w.alloc (.cells (vals8 seed).toArray 23)).alloc (.cells (cellsK .u8 (List.replicate 32 0)).toArray 23))
      rw [← EW.out, ← EZ.out]
      have G0 := Lib.hid (show ArrN .u8 256 23 W z (List.replicate 32 0) by rw [EZ.out]; exact G0.out)
      have HR := Lib.hid (G0.out.setRow (noughts_lt 32))
      go_wp2_with (refine wpList_store_arr (k := .u8) (m := 256) (L := List.replicate 32 0) sizSum rfl _ _ (by rfl) (List.replicate 32 0) (by rfl) (by rfl) G0.out (by rw [List.length_replicate]) (by rw [List.length_replicate]) ?_)
      exact bodyPost_ret (v := .tuple #[.agg (vals8 (List.replicate 32 0)).toArray, .bool false]) (results_sec rfl _ (by rfl) (by rfl) HR.out.range (by rw [List.length_replicate])) rfl ⟨rfl, below_setRow' K0.out (by rw [EZ.out]; exact Nat.le_succ _) _⟩
end Go.Proofs.YtckikgfckihniaaDoor
/- math/bits.Len64 and Len: how long a word is. -/
namespace Go.Proofs.YtckikgfckihniaaDoor
open Go.RowKit

theorem len_tab (i : Nat) (h : i < Lib.len8tab.size) : ((Lib.len8tab[i].toNat : Nat) : Int) = Lib.bitLen i ∧ Lib.bitLen i ≤ 8 := by
  have h2 : i < 256 := by rw [Lib.len8tab_size] at h; exact h
  have h3 := Lib.len8_of i (by omega) (by omega)
  have h4 := Lib.bitLen_le8' i (by omega) (by omega)
  simp only [Lib.len8, Int.toNat_natCast, getElem?_pos Lib.len8tab i h, Option.getD_some] at h3
  exact ⟨h3, h4⟩
theorem len_way (c i n : Nat) (h : i < Lib.len8tab.size) (hi : Lib.bitLen n = c + Lib.bitLen i) (hc : c ≤ 56) : wrap64 ((c : Int) + wrap64 ((Lib.len8tab[i].toNat : Nat) : Int)) = (Lib.bitLen n : Int) := by
  obtain ⟨h1, h2⟩ := len_tab i h
  rw [h1, hi, IntWalk.wrap64_in (Lib.bitLen i : Int) ⟨by omega, by omega⟩, IntWalk.wrap64_in _ ⟨by omega, by omega⟩]
  omega
theorem len_last (i : Nat) (h : i < Lib.len8tab.size) : wrap64 (wrap64 ((Lib.len8tab[i].toNat : Nat) : Int)) = (Lib.bitLen i : Int) := by
  obtain ⟨h1, h2⟩ := len_tab i h
  rw [h1, IntWalk.wrap64_in (Lib.bitLen i : Int) ⟨by omega, by omega⟩, IntWalk.wrap64_in _ ⟨by omega, by omega⟩]

set_option maxHeartbeats 4000000 in
theorem len64 (x : Int) (w : World) (h0 : 0 ≤ x) (h1 : x ≤ 18446744073709551615) :
    Calls Tryd.prog 59 #[.int .u64 x] w fun e w' => e = .returned (.int .i64 (Lib.bitLen x.toNat)) ∧ w = w' := by
  have hs : (Lib.len8tab.size : Int) = 256 := rfl
  go_enter Tryd.func59, Tryd.ntmps59
  go_wp2
  all_goals (go_ret; refine ⟨congrArg Ending.returned (congrArg (Value.int IntKind.i64) ?_), rfl⟩)
  · exact len_way 56 _ _ _ (by rw [show (x / 4294967296 / 65536 / 256).toNat = x.toNat / 72057594037927936 from by omega]; exact Lib.bitLen_shift56 _ (by omega) (by omega)) (by omega)
  · exact len_way 48 _ _ _ (by rw [show (x / 4294967296 / 65536).toNat = x.toNat / 281474976710656 from by omega]; exact Lib.bitLen_shift48 _ (by omega) (by omega)) (by omega)
  · exact len_way 40 _ _ _ (by rw [show (x / 4294967296 / 256).toNat = x.toNat / 1099511627776 from by omega]; exact Lib.bitLen_shift40 _ (by omega) (by omega)) (by omega)
  · exact len_way 32 _ _ _ (by rw [show (x / 4294967296).toNat = x.toNat / 4294967296 from by omega]; exact Lib.bitLen_shift32 _ (by omega) (by omega)) (by omega)
  · exact len_way 24 _ _ _ (by rw [show (x / 65536 / 256).toNat = x.toNat / 16777216 from by omega]; exact Lib.bitLen_shift24 _ (by omega) (by omega)) (by omega)
  · exact len_way 16 _ _ _ (by rw [show (x / 65536).toNat = x.toNat / 65536 from by omega]; exact Lib.bitLen_shift16 _ (by omega) (by omega)) (by omega)
  · exact len_way 8 _ _ _ (by rw [show (x / 256).toNat = x.toNat / 256 from by omega]; exact Lib.bitLen_shift8 _ (by omega) (by omega)) (by omega)
  · exact len_last _ _
theorem len_at (x : Int) (w : World) (h0 : 0 ≤ x) (h1 : x ≤ 18446744073709551615) :
    Calls Tryd.prog 34 #[.int .u64 x] w fun e w' => e = .returned (.int .i64 (Lib.bitLen x.toNat)) ∧ w = w' := by
  have T := Lib.hid (len64 x w h0 h1)
  clear h0 h1
  go_enter Tryd.func34, Tryd.ntmps34
  go_wp2_with (go_at_call 59; (with_reducible refine (T.out).mono ?_); rintro e w' ⟨rfl, rfl⟩)
  go_ret
  exact ⟨rfl, rfl⟩
end Go.Proofs.YtckikgfckihniaaDoor
/- Package shachain's own places and heights; math/bits' noughts. -/
namespace Go.Proofs.YtckikgfckihniaaDoor
open Go.RowKit Go.HashMath Go.CodeMath

/-- The tables that the program reads: package hash's, and that of math/bits. -/
def Roots10 (w : World) : Prop := RootsIn w ∧ 2 < w.heap.size ∧ ∀ j, j < 64 → w.cell? ⟨2, j, none⟩ = some (.int .u8 ((Lib.deBruijn64tab.getD j 0 : Nat) : Int))
theorem Roots10.keeps {w w' : World} (h : Roots10 w) (k : Keeps w w') : Roots10 w' := ⟨h.1.keeps k, Nat.lt_of_lt_of_le h.2.1 k.size, fun i hi => (k.cell h.2.1).trans (h.2.2 i hi)⟩
set_option maxHeartbeats 1000000 in
theorem tz64_core (x k idx : Nat) (w : World) (hx0 : ((x : Int) == 0) = false)
    (key : IntKind.u64.wrap (bits BinOp.and IntKind.u64 (x : Int) (IntKind.u64.wrap (-(x : Int))) * 285870213051353865) / 288230376151711744 = (idx : Int))
    (hi : idx < 64) (hk : k < 64) (hcell : w.cell? ⟨2, idx, none⟩ = some (.int .u8 k)) :
    Calls Tryd.prog 76 #[.int .u64 x] w fun e w' => e = .returned (.int .i64 k) ∧ w = w' := by
  go_enter Tryd.func76, Tryd.ntmps76
  go_wp2_with (simp only [key])
  go_ret
  exact ⟨rfl, rfl⟩
theorem tz64_zero (w : World) : Calls Tryd.prog 76 #[.int .u64 0] w fun e w' => e = .returned (.int .i64 64) ∧ w = w' := by
  go_enter Tryd.func76, Tryd.ntmps76
  go_wp2_with fail
  go_ret
  exact ⟨rfl, rfl⟩
theorem tz64_at (x : Nat) (hx : x < 18446744073709551616) (w : World) (R : Roots10 w) : Calls Tryd.prog 76 #[.int .u64 (x : Int)] w fun e w' => e = .returned (.int .i64 (Lib.ctz 64 x : Int)) ∧ w = w' := by
  by_cases hx0 : x = 0
  · subst hx0
    exact tz64_zero w
  · obtain ⟨hlow, hk⟩ := Lib.lowest_bit 64 x hx0 hx
    obtain ⟨hi, htab⟩ := Lib.deBruijn64_at _ hk
    have e1 : IntKind.u64.wrap (-(x : Int)) = ((18446744073709551616 - x : Nat) : Int) := by rw [IntKind.wrap_u64]; omega
    refine tz64_core x (Lib.ctz 64 x) _ w (by simp [hx0]) ?_ hi hk ?_
    · rw [e1, bits_and_u64_nat x _ hx (by omega), show x &&& (18446744073709551616 - x) = 2 ^ Lib.ctz 64 x from hlow, IntKind.wrap_u64]
      generalize 2 ^ Lib.ctz 64 x = a
      omega
    · rw [R.2.2 _ hi, htab]
theorem tz_at (x : Nat) (hx : x < 18446744073709551616) (w : World) (R : Roots10 w) : Calls Tryd.prog 57 #[.int .u64 (x : Int)] w fun e w' => e = .returned (.int .i64 (Lib.ctz 64 x : Int)) ∧ w = w' := by
  have T := Lib.hid (tz64_at x hx w R)
  clear hx R
  go_enter Tryd.func57, Tryd.ntmps57
  go_wp2_with (go_at_call 76; (with_reducible refine (T.out).mono ?_); rintro e w' ⟨rfl, rfl⟩)
  go_ret
  exact ⟨rfl, rfl⟩
/-- Any number's place, as it is reckoned. -/
def plcI (no : Int) : Int := IntKind.i64.wrap (1048575 - no)
theorem plcI_in {no : Nat} (h : no ≤ 1048575) : plcI (no : Int) = (plc no : Int) := by unfold plcI plc; rw [IntKind.wrap_i64]; omega
theorem plcI_out {no : Int} (h0 : -9223372036854775808 ≤ no) (h1 : no ≤ 9223372036854775807) (h : ¬ (0 ≤ no ∧ no ≤ 1048575)) : plcI no < 0 ∨ 1048576 ≤ plcI no := by unfold plcI; rw [IntKind.wrap_i64]; omega
theorem plcI_bounds (no : Int) : -9223372036854775808 ≤ plcI no ∧ plcI no ≤ 9223372036854775807 := by unfold plcI; rw [IntKind.wrap_i64]; omega
theorem own10_place (no : Int) (w : World) : Calls Tryd.prog 28 #[.int .i64 no] w (fun e w' => e = .returned (.int .i64 (plcI no)) ∧ w = w') := by
  have e1 : IntKind.i64.wrap (1048575 - no) = plcI no := rfl
  go_enter Tryd.func28, Tryd.ntmps28
  go_wp2_with fail
  go_ret
  exact ⟨rfl, rfl⟩
theorem own10_height (p : Nat) (hp : p < 1048576) (w : World) (R : Roots10 w) : Calls Tryd.prog 32 #[.int .i64 (p : Int)] w (fun e w' => e = .returned (.int .i64 (hgt p : Int)) ∧ w = w') := by
  have T := Lib.hid (tz_at p (by omega) w R)
  have p0 : (0 : Int) ≤ (p : Int) := by omega
  have p1 : (p : Int) ≤ 1048575 := by omega
  have e1 : IntKind.u64.wrap (p : Int) = (p : Int) := by rw [IntKind.wrap_u64]; omega
  have EH := Lib.hid (ctz_hgt hp)
  clear hp R
  generalize Lib.ctz 64 p = c at *
  rw [← EH.out]
  have e2 : min (c : Int) 20 = ((min c 20 : Nat) : Int) := by omega
  clear EH
  go_enter Tryd.func32, Tryd.ntmps32
  go_wp2_with (go_at_call 57; (with_reducible refine (T.out).mono ?_); rintro e w' ⟨rfl, rfl⟩)
  go_ret
  exact ⟨by first | rfl | rw [e2], rfl⟩
end Go.Proofs.YtckikgfckihniaaDoor
/- Variables of any cells: made, written as a whole, read as a whole or by parts. -/
namespace Go.Proofs.YtckikgfckihniaaDoor
open Go.RowKit

/-- Block z is a variable of type T with these cells. -/
def VarC (T : TypeId) (w : World) (z : Nat) (cs : List Value) : Prop := w.heap[z]? = some (.cells cs.toArray T (0, 0))
section
variable {T : TypeId} {w w' : World} {z : Nat} {cs ds : List Value}
theorem VarC.size (h : VarC T w z cs) : z < w.heap.size := lt_of_block h
theorem VarC.keeps (h : VarC T w z cs) (k : Keeps w w') : VarC T w' z cs := (Below.block k z h.size).trans h
theorem VarC.new (w : World) (cs : List Value) : VarC T (w.alloc (.cells cs.toArray T)) w.heap.size cs := (MapKept.heap_alloc w _).1
theorem VarC.cell (h : VarC T w z cs) (i : Nat) (v : Value) (e : cs[i]? = some v) : w.cell? ⟨z, i, none⟩ = some v := by
  simp only [World.cell?, show w.heap[z]? = _ from h]
  simpa using e
theorem VarC.free (h : VarC T w z cs) (i : Nat) : w.frozen? ⟨z, i, none⟩ = false := by simp [World.frozen?, show w.heap[z]? = _ from h]
theorem VarC.range (h : VarC T w z cs) : w.rangeAt z 0 cs := fun j v hj => by
  rw [Nat.zero_add]; exact h.cell j v hj
/-- A part of the cells. -/
theorem VarC.part (h : VarC T w z (ds ++ cs)) (n : Nat) (hn : ds.length = n) : w.rangeAt z n cs := fun j v hj => by
  subst hn
  refine h.cell _ v ?_
  rw [List.getElem?_append_right (by omega), Nat.add_sub_cancel_left, hj]
theorem VarC.mid {es : List Value} (h : VarC T w z (ds ++ (cs ++ es))) (n : Nat) (hn : ds.length = n) : w.rangeAt z n cs := fun j v hj => by
  subst hn
  refine h.cell _ v ?_
  have hl := (List.getElem?_eq_some_iff.1 hj).1
  rw [List.getElem?_append_right (by omega), Nat.add_sub_cancel_left, List.getElem?_append_left hl, hj]
theorem VarC.setRow (h : VarC T w z cs) : VarC T (w.setRow z ds.toArray) z ds := setRow_heap w z _ _ T (0, 0) h
theorem VarC.other {g : Nat} (h : VarC T w z cs) (c : Array Value) (hn : z ≠ g) : VarC T (w.setRow g c) z cs := (setRow_other w g z c hn).trans h
end
/-- A whole variable is written. -/
theorem wp_store_var {P : Program} {T T' : TypeId} {G : Nat} {cs : List Value} {old : Array Value} {o : Oper} {a : Act} {w : World} {K : Act → World → Prop} {Q : Exit → Act → World → Prop} (hi : (P.info? T).map (·.size) = some cs.length) (h1 : ∀ v ∈ cs, v.oneCell' = true) (x y : Operand) (ho : o.op = .store T x y)
    (hx : a.eval x = .pointer (some ⟨G, 0, none⟩)) (hy : a.eval y = .agg cs.toArray) (hA : w.heap[G]? = some (Obj.cells old T' (0, 0))) (hz : old.size = cs.length) (h : K (a.put o.dst undef) (w.setRow G cs.toArray)) : o.wp P a w K Q := by
  have e := run_storeVar_row (P := P) w G T' T old cs.toArray hA (by simpa using hi) (by simpa using hz) (all_oneCell_toArray h1)
  unfold Oper.wp execOp
  simp only [ho, hx, hy, Instr.storeAt, Instr.sureAddr, Sem.run_bind, Sem.run_pure, Result.andThen_ok, e]
  exact h
theorem putC_size {old : Array Value} {n : Nat} {cs : List Value} (h : old.size = n) (e : cs.length = n) : cs.toArray.size = old.size := by simp [h, e]
/-- A part of many cells is laid into a value that is built. -/
theorem fold_set_from (n : Nat) : ∀ (vs : List Value) (k : Nat) (A Z : List Value), A.length = n + k → Z.length = vs.length → List.foldl (fun cs x => cs.setIfInBounds (n + x.snd) x.fst) (A ++ Z).toArray (vs.zipIdx k) = (A ++ vs).toArray := by
  intro vs
  induction vs with
  | nil => intro k A Z hA hZ; rw [List.eq_nil_of_length_eq_zero hZ]; rfl
  | cons v r ih =>
    intro k A Z hA hZ
    cases Z with
    | nil => simp at hZ
    | cons y Z =>
      rw [List.zipIdx_cons, List.foldl_cons]
      have e : (A ++ y :: Z).toArray.setIfInBounds (n + k) v = ((A ++ [v]) ++ Z).toArray := by
        rw [List.setIfInBounds_toArray, ← hA, List.set_append_right _ _ (Nat.le_refl _), Nat.sub_self, List.set_cons_zero, List.append_assoc]; rfl
      show List.foldl _ ((A ++ y :: Z).toArray.setIfInBounds (n + k) v) _ = _
      rw [e, ih (k + 1) (A ++ [v]) Z (by rw [List.length_append, hA]; rfl) (by simpa using hZ), List.append_assoc]
      rfl
theorem fold_set (A Z vs : List Value) (h : Z.length = vs.length) : List.foldl (fun cs x => cs.setIfInBounds (A.length + x.snd) x.fst) (A ++ Z).toArray vs.zipIdx = (A ++ vs).toArray := fold_set_from A.length vs 0 A Z rfl h
/-- Structs are held against each other, as a whole. -/
theorem exec_eql_row {P : Program} {ρ : Operand → Value} {o : Oper} {T T2 : TypeId} {x y : Operand} {xs ys : Array Value} {b : Bool} {w : World} (ho : o.op = .binOp .eql T x y T2) (hx : ρ x = .agg xs) (hy : ρ y = .agg ys) (hm : P.eqGuardType P.depth T = false) (he : (Op.equalIn 10000 T (.agg xs) (.agg ys)).run P w = .ok b w) :
    (execOp ρ o).run P w = .ok (Next.value (.bool b)) w := by
  unfold execOp
  simp only [ho, hx, hy]
  rw [Sem.run_bind, Sem.run_bind, run_eqGuard_agg w _ _ _ _ _ _ hm, Result.andThen_ok, run_eql_struct, he]
  rfl
theorem exec_neq_row {P : Program} {ρ : Operand → Value} {o : Oper} {T T2 : TypeId} {x y : Operand} {xs ys : Array Value} {b : Bool} {w : World} (ho : o.op = .binOp .neq T x y T2) (hx : ρ x = .agg xs) (hy : ρ y = .agg ys) (hm : P.eqGuardType P.depth T = false) (he : (Op.equalIn 10000 T (.agg xs) (.agg ys)).run P w = .ok b w) :
    (execOp ρ o).run P w = .ok (Next.value (.bool (!b))) w := by
  unfold execOp
  simp only [ho, hx, hy]
  rw [Sem.run_bind, Sem.run_bind, run_eqGuard_agg w _ _ _ _ _ _ hm, Result.andThen_ok, run_neq_struct, he]
  rfl
end Go.Proofs.YtckikgfckihniaaDoor
/- Package shachain's own way from a secret to another one. -/
namespace Go.Proofs.YtckikgfckihniaaDoor
open Go.RowKit Go.HashMath Go.CodeMath

/-- A placed secret's cells. -/
def plcC (p : Nat) (x : List Nat) : List Value := .int .i64 (p : Int) :: vals8 x
theorem plc_len {p : Nat} {x : List Nat} (h : x.length = 32) : (plcC p x).length = 33 := by simp [plcC, vals8, h]
theorem plc_one (p : Nat) (x : List Nat) : ∀ v ∈ plcC p x, v.oneCell' = true := fun v hv => by
  rcases List.mem_cons.1 hv with rfl | h
  · rfl
  · obtain ⟨y, _, rfl⟩ := List.mem_map.1 h; rfl
theorem sizPlc : (Tryd.prog.info? 50).map (·.size) = some 33 := by kernel_rfl
theorem VarC.sec {T : TypeId} {w : World} {z p : Nat} {x : List Nat} (h : VarC T w z (plcC p x)) : w.rangeAt z 1 (cellsK .u8 x) := h.part (ds := [.int .i64 (p : Int)]) (cs := cellsK .u8 x) 1 rfl
theorem VarC.no {T : TypeId} {w : World} {z p : Nat} {x : List Nat} (h : VarC T w z (plcC p x)) : w.cell? ⟨z, 0, none⟩ = some (.int .i64 (p : Int)) := h.cell 0 _ rfl
theorem wpList_load_smP {ops : Array Oper} {rest : List Oper} {op : Oper} {a : Act} {Q : Exit → Act → World → Prop} {w : World} {G o : Nat} {L : List Nat} (hw : Region.wanted op (yielded ops a.tmps) = true) (x : Operand) (ho : op.op = .load 23 x) (hx : a.eval x = .pointer (some ⟨G, o, none⟩))
    (hA : w.rangeAt G o (vals8 L)) (hl : L.length = 32) (h : wpList Tryd.prog ops Q rest (a.put op.dst (.agg (vals8 L).toArray)) w) : wpList Tryd.prog ops Q (op :: rest) a w :=
  wpList_step fun K hK => by
    rw [if_pos hw]
    exact wp_load_mid 23 x ho G o hx (vals8 L) _ hA undSum rfl (by rw [show (vals8 L).length = 32 by rw [vals8, List.length_map, hl]]; exact sizSum) (hK _ _ h)
/-- Does one come from a place to any number? -/
def comesI (p : Nat) (q : Int) : Bool := decide (q / 2 ^ hgt p = (p : Int) / 2 ^ hgt p)
theorem comesI_in (p q : Nat) : comesI p (q : Int) = comesP p q := by
  have e : ∀ x : Nat, (x : Int) / 2 ^ hgt p = ((x / 2 ^ hgt p : Nat) : Int) := fun x => by rw [Int.natCast_ediv, Int.natCast_pow]; rfl
  unfold comesI comesP
  rw [e, e]
  by_cases h : p / 2 ^ hgt p = q / 2 ^ hgt p
  · rw [decide_eq_true h, h, decide_eq_true rfl]
  · rw [decide_eq_false h, decide_eq_false (by omega)]
theorem comesI_out {p : Nat} (hp : p < 1048576) {q : Int} (h : q < 0 ∨ 1048576 ≤ q) : comesI p q = false := by
  refine decide_eq_false fun e => ?_
  have m0 : (0 : Int) < 2 ^ hgt p := Int.pow_pos (by decide)
  have d := hgt_mod p
  have e0 : (p : Int) / 2 ^ hgt p * 2 ^ hgt p = (p : Int) := by
    refine Int.ediv_mul_cancel ?_
    have : (2 ^ hgt p : Nat) ∣ p := Nat.dvd_of_mod_eq_zero d
    have := Int.natCast_dvd_natCast.2 this
    rwa [Int.natCast_pow] at this
  have h20 := hgt_le p
  have e1 := Int.ediv_mul_le q (b := 2 ^ hgt p) (by omega)
  have e2 := Int.lt_ediv_add_one_mul_self q m0
  rw [e] at e1 e2
  rw [e0] at e1
  rw [Int.add_mul, e0, Int.one_mul] at e2
  rcases h with h | h
  · omega
  · have d2 := hgt_div (p := p) (k := hgt p) (Nat.le_refl _)
    have : (p : Int) + 2 ^ hgt p ≤ 1048576 := by
      obtain ⟨c, hc⟩ : ∃ c, p = 2 ^ hgt p * c := ⟨p / 2 ^ hgt p, by have := Nat.div_add_mod p (2 ^ hgt p); omega⟩
      obtain ⟨d, hd⟩ : ∃ d, 20 = hgt p + d := ⟨20 - hgt p, by omega⟩
      have t : 1048576 = 2 ^ hgt p * 2 ^ d := by rw [← Nat.pow_add, ← hd]
      have : c < 2 ^ d := by
        refine Nat.lt_of_mul_lt_mul_left (a := 2 ^ hgt p) ?_
        rw [← hc, ← t]; exact hp
      have : 2 ^ hgt p * (c + 1) ≤ 2 ^ hgt p * 2 ^ d := Nat.mul_le_mul_left _ this
      rw [Nat.mul_add, ← hc, ← t, Nat.mul_one] at this
      have e3 : ((2 ^ hgt p : Nat) : Int) = 2 ^ hgt p := by rw [Int.natCast_pow]; rfl
      rw [← e3]
      omega
    omega
/-- What `to` tells. -/
def toI (p : Nat) (x : List Nat) (q : Int) : List Nat := if comesI p q then toS x (hgt p) q.toNat else zero32
theorem toI_ok {p : Nat} {x : List Nat} (q : Int) (h : Sum32 x) : Sum32 (toI p x q) := by
  unfold toI
  split
  · exact to_ok _ _ h
  · exact zero_sum
def WayAt (w : World) (z7 : Nat) (x : List Nat) (h q : Nat) (si : Value) (wr : World) : Prop := ∃ (i : Nat) (y : List Nat), i ≤ h ∧ si = .int .i64 (i : Int) ∧ ArrN .u8 256 23 wr z7 y ∧ Sum32 y ∧ toS y (h - i) q = toS x h q ∧ Below z7 w wr
set_option maxHeartbeats 2000000 in
theorem own10_to_no (p : Nat) (x : List Nat) (q : Int) (hx : Sum32 x) (hp : p < 1048576) (hc : comesI p q = false) (w : World) (R : Roots10 w) : Calls Tryd.prog 27 #[.agg (plcC p x).toArray, .int .i64 q] w (GivesSec zero32 false w) := by
  have HX := Lib.hid hx
  have HC := Lib.hid (show ¬ q / 2 ^ hgt p = (p : Int) / 2 ^ hgt p from of_decide_eq_false hc)
  have h20 := hgt_le p
  have n0 : (0 : Int) ≤ (hgt p : Int) := by omega
  have n2 : ¬ (hgt p : Int) < 0 := by omega
  have n3 : min (hgt p) 64 = hgt p := by omega
  have CH := Lib.hid (fun w' (k : Keeps w w') => own10_height p hp w' (R.keeps k))
  clear hx hp hc h20 R
  go_enter Tryd.func27, Tryd.ntmps27
  go_upto_region 1 with fail
  obtain ⟨W, eW⟩ : ∃ W, W = (w.alloc (.cells (plcC p x).toArray 50)).alloc (.cells (cellsK .u8 (List.replicate 32 0)).toArray 23) := ⟨_, rfl⟩
  have A0 : VarC 50 W w.heap.size (plcC p x) := by rw [eW]; exact (VarC.new w (plcC p x)).keeps ((Keeps.refl _).alloc _)
  have G0 : ArrN .u8 256 23 W (w.heap.size + 1) (List.replicate 32 0) := by
    rw [eW]
    have q := ArrN.new (k := .u8) (m := 256) (T := 23) (w.alloc (.cells (plcC p x).toArray 50)) (List.replicate 32 0) (noughts_lt 32)
    rw [World.size_alloc] at q
    exact q
  have K0 : Keeps w W := by rw [eW]; exact ((Keeps.refl w).alloc _).alloc _
  change Code.wp _ _ _ _ ((w.alloc (.cells (plcC p x).toArray 50)).alloc (.cells (cellsK .u8 (List.replicate 32 0)).toArray 23))
  rw [← eW]
  obtain ⟨z, ez⟩ : ∃ z, z = w.heap.size + 1 := ⟨_, rfl⟩
  rw [← ez] at G0 ⊢
  have EZ := Lib.hid (show w.heap.size ≤ z by omega)
  have K0 := Lib.hid K0
  have G0 := Lib.hid G0
  have c0 := A0.no
  clear eW ez A0
  go_upto_region 2 with (go_at_call 32; (with_reducible refine (CH.out _ K0.out).mono ?_); rintro e w' ⟨rfl, rfl⟩)
  have hcc := HC.out
  go_quiet (fail)
  have hdd : (q / 2 ^ hgt p == (p : Int) / 2 ^ hgt p) = false := by simpa using hcc
  go_upto_region 3 with fail
  obtain ⟨W2, e2⟩ : ∃ x, x = W.drewN nq := ⟨_, rfl⟩
  have kd : Keeps W W2 := by rw [e2]; exact (Keeps.refl _).drewN _
  have G0 := Lib.hid (G0.out.keeps kd)
  have K0 := Lib.hid (K0.out.trans kd)
  rw [← e2]
  clear e2 kd
  go_wp2_with (refine wpList_store_arr (k := .u8) (m := 256) (L := List.replicate 32 0) sizSum rfl _ _ (by rfl) (List.replicate 32 0) (by rfl) (by rfl) G0.out (by rw [List.length_replicate]) (by rw [List.length_replicate]) ?_)
  exact bodyPost_ret (v := .tuple #[.agg (vals8 (List.replicate 32 0)).toArray, .bool false]) (results_sec rfl _ (by rfl) (by rfl) (G0.out.setRow (noughts_lt 32)).range (by rw [List.length_replicate])) rfl ⟨rfl, below_setRow' K0.out EZ.out _⟩
set_option maxHeartbeats 4000000 in
theorem own10_to_yes (p : Nat) (x : List Nat) (q : Nat) (hx : Sum32 x) (hp : p < 1048576) (hq : q < 1048576) (hc : comesP p q = true) (w : World) (R : Roots10 w) : Calls Tryd.prog 27 #[.agg (plcC p x).toArray, .int .i64 (q : Int)] w (GivesSec (toS x (hgt p) q) true w) := by
  have HX := Lib.hid hx
  have RR := Lib.hid R
  have HC := Lib.hid (show (q : Int) / 2 ^ hgt p = (p : Int) / 2 ^ hgt p from of_decide_eq_true ((comesI_in p q).trans hc))
  have h20 := hgt_le p
  have n0 : (0 : Int) ≤ (hgt p : Int) := by omega
  have n2 : ¬ (hgt p : Int) < 0 := by omega
  have n3 : min (hgt p) 64 = hgt p := by omega
  have n4 : (hgt p : Int) ≤ 20 := by omega
  have q0 : (0 : Int) ≤ (q : Int) := by omega
  have q1 : (q : Int) ≤ 1048575 := by omega
  have CH := Lib.hid (fun w' (k : Keeps w w') => own10_height p hp w' (R.keeps k))
  have H20 := Lib.hid h20
  clear hx hp hc h20 R hq
  generalize hgt p = h at *
  go_enter Tryd.func27, Tryd.ntmps27
  go_upto_region 1 with fail
  obtain ⟨W, eW⟩ : ∃ W, W = (w.alloc (.cells (plcC p x).toArray 50)).alloc (.cells (cellsK .u8 (List.replicate 32 0)).toArray 23) := ⟨_, rfl⟩
  have A0 : VarC 50 W w.heap.size (plcC p x) := by rw [eW]; exact (VarC.new w (plcC p x)).keeps ((Keeps.refl _).alloc _)
  have G0 : ArrN .u8 256 23 W (w.heap.size + 1) (List.replicate 32 0) := by
    rw [eW]
    have q := ArrN.new (k := .u8) (m := 256) (T := 23) (w.alloc (.cells (plcC p x).toArray 50)) (List.replicate 32 0) (noughts_lt 32)
    rw [World.size_alloc] at q
    exact q
  have K0 : Keeps w W := by rw [eW]; exact ((Keeps.refl w).alloc _).alloc _
  change Code.wp _ _ _ _ ((w.alloc (.cells (plcC p x).toArray 50)).alloc (.cells (cellsK .u8 (List.replicate 32 0)).toArray 23))
  rw [← eW]
  have Z := Lib.hid (show W.heap.size = w.heap.size + 2 by rw [eW, World.size_alloc, World.size_alloc])
  obtain ⟨z6, ez⟩ : ∃ z, z = w.heap.size + 1 := ⟨_, rfl⟩
  rw [← ez] at G0 ⊢
  obtain ⟨z5, ez5⟩ : ∃ z, z = w.heap.size := ⟨_, rfl⟩
  rw [← ez5] at A0 ⊢
  have EZ := Lib.hid (show w.heap.size ≤ z6 ∧ z6 + 1 = W.heap.size by have := Z.out; omega)
  have K0 := Lib.hid K0
  have G0 := Lib.hid G0
  have c0 := A0.no
  have A0 := Lib.hid A0
  clear eW ez ez5 Z
  go_upto_region 2 with (go_at_call 32; (with_reducible refine (CH.out _ K0.out).mono ?_); rintro e w' ⟨rfl, rfl⟩)
  have hcc := HC.out
  go_quiet (fail)
  have hdd : ((q : Int) / 2 ^ h != (p : Int) / 2 ^ h) = false := by simpa using hcc
  clear hcc
  obtain ⟨W2, e2⟩ : ∃ x, x = W.drewN nq := ⟨_, rfl⟩
  have kd : Keeps W W2 := by rw [e2]; exact (Keeps.refl _).drewN _
  have G0 := Lib.hid (G0.out.keeps kd)
  have K0 := Lib.hid (K0.out.trans kd)
  have A0 := Lib.hid (A0.out.keeps kd)
  have EZ := Lib.hid (show w.heap.size ≤ z6 ∧ z6 < W2.heap.size from ⟨EZ.out.1, G0.out.size⟩)
  rw [← e2]
  clear e2 kd c0
  go_upto_region 5 with (first
    | (refine wpList_load_smP (L := x) (by rfl) _ (by rfl) (by rfl) (A0.out).sec HX.out.1 ?_)
    | (refine wpList_store_arr (k := .u8) (m := 256) (L := x) sizSum rfl _ _ (by rfl) (List.replicate 32 0) (by rfl) (by rfl) (ArrN.new W2 (List.replicate 32 0) (noughts_lt 32)) (by rw [List.length_replicate]) HX.out.1 ?_))
  refine wp_named10 fun W1 z7 hk1 hb ez => ?_
  rw [← ez]
  have A7 : ArrN .u8 256 23 W1 z7 x := ⟨HX.out.2, hb⟩
  have G1 := Lib.hid (G0.out.keeps hk1)
  have K1 := Lib.hid (K0.out.trans hk1)
  have ZZ := Lib.hid (show z6 < z7 ∧ w.heap.size ≤ z7 by have := EZ.out; omega)
  have Z6 := Lib.hid EZ.out.1
  clear hk1 hb ez A0 G0 K0 EZ
  go_wp2_with fail
  go_loopw [25] (fun si wr => WayAt W1 z7 x h q si wr) (fun si _ => (h - (intOf si).toNat))
  case atStart => exact ⟨0, x, Nat.zero_le _, rfl, A7, HX.out, rfl, Below.refl _ _⟩
  case round =>
    clear A7
    obtain ⟨i, y, hi, rfl, hA, hy, hT, hB⟩ := hrel
    have HA := Lib.hid hA
    have HY := Lib.hid hy
    have HB := Lib.hid hB
    have KF := Lib.hid (show Keeps w wr from Below.trans K1.out (Below.mono hB ZZ.out.2))
    rcases Nat.lt_or_ge i h with hlt | hge
    · obtain ⟨m, em⟩ : ∃ m, m = h - 1 - i := ⟨_, rfl⟩
      have MB := Lib.hid (show m < 20 ∧ i < h ∧ h - i = m + 1 ∧ h - (i + 1) = m by have := H20.out; omega)
      have g1 : (i : Int) < (h : Int) := by omega
      have g2 : (0 : Int) ≤ (i : Int) := by omega
      have g3 : (i : Int) ≤ 20 := by omega
      have e9 : (h : Int) - 1 - (i : Int) = (m : Int) := by omega
      have m0 : (0 : Int) ≤ (m : Int) := by omega
      have m1 : (m : Int) ≤ 19 := by have := MB.out; omega
      have m2 : ¬ (m : Int) < 0 := by omega
      have m3 : min m 64 = m := by have := MB.out; omega
      have BA := bit_at q m
      rw [MB.out.2.2.1] at hT
      clear em hi hlt
      rcases (show q / 2 ^ m % 2 = 1 ∨ q / 2 ^ m % 2 = 0 by omega) with e | e
      · rw [e] at BA
        have HT := Lib.hid (show toS (stepS y m) m q = toS x h q by rw [← hT, to_one e])
        obtain ⟨d, ed⟩ : ∃ d, d = m / 8 := ⟨_, rfl⟩
        obtain ⟨r, er⟩ : ∃ r, r = m % 8 := ⟨_, rfl⟩
        have d1 : (m : Int) / 8 = (d : Int) := by omega
        have d2 : (m : Int).tdiv 8 = (d : Int) := by rw [Int.tdiv_eq_ediv_of_nonneg m0]; exact d1
        have r1 : (m : Int) % 8 = (r : Int) := by omega
        have r2 : (m : Int).tmod 8 = (r : Int) := by rw [Int.tmod_eq_emod_of_nonneg m0]; exact r1
        have d0 : (0 : Int) ≤ (d : Int) := by omega
        have d3 : (d : Int) < 32 := by omega
        have r0 : (0 : Int) ≤ (r : Int) := by omega
        have r3 : ¬ (r : Int) < 0 := by omega
        have r4 : min r 64 = r := by omega
        have wd : IntKind.i64.wrap (d : Int) = (d : Int) := IntWalk.i64_in _ (by omega)
        have ws : IntKind.i64.wrap (r : Int) = (r : Int) := IntWalk.i64_in _ (by omega)
        have VL := Lib.hid (HA.out.lt (by decide) d)
        have FL := Lib.hid (show y.set d (y.getD d 0 ^^^ 2 ^ r) = flipB y m by unfold flipB; rw [ed, er])
        have c7 := HA.out.cell d (by rw [HY.out.1]; omega)
        have OT := Lib.hid (flip_ok HY.out m)
        generalize y.getD d 0 = v at *
        have XO := Lib.hid (show bits .xor .u8 (v : Int) ((2 : Int) ^ r % 256) = ((v ^^^ 2 ^ r : Nat) : Int) by
          have h2 : (2 : Nat) ^ r < 256 := Nat.lt_of_lt_of_le (Nat.pow_lt_pow_right (by decide) (show r < 8 by omega)) (Nat.le_refl _)
          have h3 : ((2 : Int) ^ r) = ((2 ^ r : Nat) : Int) := by rw [Int.natCast_pow]; rfl
          rw [h3]
          have hv := VL.out
          generalize (2 : Nat) ^ r = b at h2 ⊢
          rw [Int.emod_eq_of_lt (Int.natCast_nonneg b) (by omega)]
          exact u8_xor_nat _ _ hv h2)
        have XW := Lib.hid (show bits .xor .u8 (v : Int) (IntKind.u8.wrap ((2 : Int) ^ r)) = ((v ^^^ 2 ^ r : Nat) : Int) from by
          rw [show IntKind.u8.wrap ((2 : Int) ^ r) = (2 : Int) ^ r % 256 from by simp [IntKind.wrap, IntKind.signed, IntKind.bits]]; exact XO.out)
        have LX := Lib.hid (show v ^^^ 2 ^ r < 256 from Nat.xor_lt_two_pow (n := 8) VL.out (Nat.lt_of_lt_of_le (Nat.pow_lt_pow_right (by decide) (show r < 8 by omega)) (Nat.le_refl _)))
        clear ed er hA hy hB hT e
        go_upto_region 10 with fail
        go_still_tail 9, (by kernel_rfl)
        change wpList _ _ _ _ _ wr.drew
        obtain ⟨wd2, ed⟩ : ∃ x, x = wr.drew := ⟨_, rfl⟩
        have kd : Keeps wr wd2 := by rw [ed]; exact (Keeps.refl _).drew
        have HA := Lib.hid (HA.out.keeps kd)
        have HB := Lib.hid (show Below z7 W1 wd2 from Below.trans HB.out (by rw [ed]; exact Below.drew (Below.refl _ _)))
        have KF := Lib.hid (KF.out.trans kd)
        have f7 := HA.out.free d
        have c7 : wd2.cell? ⟨z7, d, none⟩ = some (.int .u8 (v : Int)) := by rw [ed]; exact c7
        rw [← ed]
        clear ed kd
        have SL := run_sliceAll z7
        go_upto_region 11 with fail
        first | rw [XO.out] | rw [XW.out]
        have HS := HA.out.set d (v ^^^ 2 ^ r) LX.out
        rw [FL.out] at HS
        obtain ⟨W5, eW⟩ : ∃ x, x = wd2.setCell ⟨z7, d, none⟩ (.int .u8 ((v ^^^ 2 ^ r : Nat) : Int)) := ⟨_, rfl⟩
        have HB5 := Lib.hid (show Below z7 W1 W5 by rw [eW]; exact Below.setCell HB.out (Nat.le_refl _) _)
        rw [← eW] at HS ⊢
        have HS := Lib.hid HS
        have K5 := Lib.hid (show Keeps w W5 from Below.trans K1.out (Below.mono HB5.out ZZ.out.2))
        have RS := Lib.hid (sum_at _ (flipB y m) W5 (sum_slice HS.out OT.out.1) (by rw [OT.out.1]; decide) (RR.out.keeps K5.out).1)
        clear eW c7 f7
        go_wp2_with (first
          | (go_at_call 25; (refine Calls.mono RS.out ?_); rintro e w6 ⟨rfl, hk6⟩)
          | (refine wpList_store_arr (k := .u8) (m := 256) (L := stepS y m) sizSum rfl _ _ (by rfl) (flipB y m) (by rfl) (by rfl) (HS.out.keeps hk6) OT.out.1 (step_ok y m).1 ?_))
        have HN := Lib.hid ((HS.out.keeps hk6).setRow (step_ok y m).2)
        have HB6 := Lib.hid (show Below z7 W1 (w6.setRow z7 (cellsK .u8 (stepS y m)).toArray) from below_setRow' (Below.trans HB5.out (Below.mono hk6 (by have := HS.out.size; omega))) (Nat.le_refl _) _)
        go_roundw
        case rel => exact ⟨i + 1, stepS y m, MB.out.2.1, by go_num, HN.out, step_ok y m, by rw [MB.out.2.2.2]; exact HT.out, HB6.out⟩
        case measure => have := MB.out; simp [intOf] <;> omega
      · rw [e] at BA
        have HT := Lib.hid (show toS y m q = toS x h q by rw [← hT, to_none (by omega)])
        clear hA hy hB hT e
        go_wp2_with fail
        go_roundw
        case rel => exact ⟨i + 1, y, MB.out.2.1, by go_num, HA.out, HY.out, by rw [MB.out.2.2.2]; exact HT.out, HB.out⟩
        case measure => have := MB.out; simp [intOf] <;> omega
    · obtain rfl : i = h := by omega
      have E := Lib.hid (show y = toS x i q by rw [Nat.sub_self] at hT; exact hT)
      have G2 := Lib.hid (show ArrN .u8 256 23 wr z6 (List.replicate 32 0) from ⟨G1.out.1, (Below.block hB z6 ZZ.out.1).trans G1.out.2⟩)
      clear hA hy hB hT
      go_wp2_with (first
        | (refine wpList_load_sm (L := y) (by rfl) _ (by rfl) (by rfl) HA.out.range HY.out.1 ?_)
        | (refine wpList_store_arr (k := .u8) (m := 256) (L := y) sizSum rfl _ _ (by rfl) (List.replicate 32 0) (by rfl) (by rfl) G2.out (by rw [List.length_replicate]) HY.out.1 ?_))
      exact bodyPost_ret (v := .tuple #[.agg (vals8 y).toArray, .bool true]) (results_sec rfl _ (by rfl) (by rfl) (G2.out.setRow HY.out.2).range HY.out.1) rfl ⟨by rw [E.out], below_setRow' KF.out Z6.out _⟩
/-- What `to` tells, at any number. -/
theorem own10_to (p : Nat) (x : List Nat) (q : Int) (hx : Sum32 x) (hp : p < 1048576) (w : World) (R : Roots10 w) : Calls Tryd.prog 27 #[.agg (plcC p x).toArray, .int .i64 q] w (GivesSec (toI p x q) (comesI p q) w) := by
  by_cases g : 0 ≤ q ∧ q < 1048576
  · obtain ⟨n, rfl⟩ : ∃ n : Nat, q = (n : Int) := ⟨q.toNat, by omega⟩
    cases hc : comesI p (n : Int) with
    | false =>
      rw [show toI p x (n : Int) = zero32 by unfold toI; rw [hc]; rfl]
      exact own10_to_no p x _ hx hp hc w R
    | true =>
      rw [show toI p x (n : Int) = toS x (hgt p) n by unfold toI; rw [hc, if_pos rfl, Int.toNat_natCast]]
      exact own10_to_yes p x n hx hp (by omega) ((comesI_in p n).symm.trans hc) w R
  · have hc := comesI_out hp (show q < 0 ∨ 1048576 ≤ q by omega)
    rw [show toI p x q = zero32 by unfold toI; rw [hc]; rfl, hc]
    exact own10_to_no p x q hx hp hc w R
end Go.Proofs.YtckikgfckihniaaDoor
/- Package code: the number, and the eight bytes, at the front of bytes. -/
namespace Go.Proofs.YtckikgfckihniaaDoor
open Go.RowKit Go.HashMath Go.CodeMath

/-- How many bytes the row at the front has: 0 if there is none. -/
def sizN (xs : List Nat) : Nat := match readN 9 0 1 xs with | none => 0 | some x => xs.length - x.2.length
theorem sizN_none {xs : List Nat} (h : readN 9 0 1 xs = none) : sizN xs = 0 := by unfold sizN; rw [h]
theorem sizN_some {xs r : List Nat} {n : Nat} (h : readN 9 0 1 xs = some (n, r)) : sizN xs = xs.length - r.length := by unfold sizN; rw [h]
/-- Digits that are read: so many, what they are. -/
def RowAt (W : World) (xs : List Nat) (sn si : Value) (wr : World) : Prop := ∃ (i n : Nat), i ≤ 9 ∧ i ≤ xs.length ∧ sn = .int .i64 (n : Int) ∧ si = .int .i64 (i : Int) ∧ n < 128 ^ i ∧ readN (9 - i) n (128 ^ i) (xs.drop i) = readN 9 0 1 xs ∧ W = wr
theorem pow128_2 (i : Nat) : 2 ^ (7 * i) = 128 ^ i := by rw [Nat.pow_mul]
theorem two_in {n q : Int} (h0 : 0 ≤ n) (h1 : n ≤ 72057594037927935) (h2 : 0 ≤ q) (h3 : q ≤ 9151314442816847872) : wrap64 (n + q) = n + q := IntWalk.wrap64_in _ (by omega)
theorem pow128_i (i : Nat) : (2 : Int) ^ (7 * i) = ((128 ^ i : Nat) : Int) := by rw [← pow128_2, Int.natCast_pow]; rfl
set_option maxHeartbeats 2000000 in
set_option maxRecDepth 100000 in
theorem row_next (v : Value) (xs : List Nat) (w : World) (h : Holds8 w v xs) :
    Calls Tryd.prog 63 #[v] w (fun e w' => e = .returned (.tuple #[.int .i64 (natO (readN 9 0 1 xs) : Int), .int .i64 (sizN xs : Int)]) ∧ w = w') := by
  have HH := Lib.hid h
  have hx := h.1
  obtain ⟨_, ao, len, cap, rfl, hlen, hlc, hcm, hcell⟩ := h
  subst hlen
  have hmx : xs.length ≤ 9223372036854775807 := by have := hcm.1; unfold maxLen at this; omega
  go_enter Tryd.func63, Tryd.ntmps63
  go_wp2_with fail
  go_step3
  go_wp2_with fail
  go_step3
  go_wp2_with fail
  go_loopw [2, 8] (fun sn si wr => RowAt w xs sn si wr) (fun _ si _ => xs.length - (intOf si).toNat)
  case atStart => exact ⟨0, 0, by omega, by omega, rfl, rfl, by decide, rfl, rfl⟩
  case round =>
    obtain ⟨i, n, hi, hil, rfl, rfl, hn, hr, rfl⟩ := hrel
    have i0 : (0 : Int) ≤ (i : Int) := by omega
    have i9 : (i : Int) ≤ 9 := by omega
    by_cases g1 : i < xs.length
    · obtain ⟨b, off, rfl, hbs, hcell⟩ : ∃ b off, ao = some ⟨b, off, none⟩ ∧ b < w.heap.size ∧ ∀ i, i < xs.length → w.cell? ⟨b, off + i, none⟩ = some (.int .u8 ((xs.getD i 0 : Nat) : Int)) := by
        rcases hcell with h | h
        · omega
        · exact h
      have cl := hcell i g1
      have hd : xs.getD i 0 < 256 := HH.out.lt i
      have b1 : (i : Int) < (xs.length : Int) := by omega
      have l1 : (xs.length : Int) ≤ 9223372036854775807 := by omega
      by_cases g2 : i < 9
      · rw [readN_at g2 g1] at hr
        generalize xs.getD i 0 = d at *
        have P8 := pow128 g2
        have DL := dig_le (d := d) hn
        obtain ⟨p, ep⟩ : ∃ p, p = 128 ^ i := ⟨_, rfl⟩
        have hp2 : (2 : Int) ^ (7 * i) = (p : Int) := by rw [ep]; exact pow128_i i
        rw [← ep] at hn hr P8 DL
        obtain ⟨q, eq⟩ : ∃ q, q = d % 128 := ⟨_, rfl⟩
        rw [← eq] at hr DL
        have hq : q ≤ 127 := by omega
        obtain ⟨qp, eqp⟩ : ∃ x, x = q * p := ⟨_, rfl⟩
        rw [← eqp] at hr DL
        have hqp : qp ≤ 127 * p := by rw [eqp]; exact Nat.mul_le_mul_right p hq
        have t3 : (q : Int) * (p : Int) = (qp : Int) := by rw [eqp, Int.natCast_mul]
        have n1 : (n : Int) ≤ 72057594037927935 := by omega
        have q1 : (qp : Int) ≤ 9151314442816847872 := by omega
        have w1 : wrap64 ((qp : Nat) : Int) = (qp : Int) := by clear hn hr eqp hqp DL ep; exact IntWalk.wrap64_in _ (by omega)
        have w2 : wrap64 ((n : Int) + (qp : Int)) = (n : Int) + (qp : Int) := two_in (Int.natCast_nonneg _) n1 (Int.natCast_nonneg _) q1
        have d0 : (0 : Int) ≤ (d : Int) := by omega
        have d1 : (d : Int) ≤ 255 := by omega
        have e9 : ((i : Int) == 9) = false := by rw [beq_eq_false_iff_ne]; omega
        have HR := Lib.hid hr
        have EP := Lib.hid ep
        have FR := Lib.hid (show n + qp < p * 128 from DL)
        have GB := Lib.hid (show i < 9 ∧ i < xs.length from ⟨g2, g1⟩)
        by_cases g3 : 128 ≤ d
        · have u4 : (128 : Int) ≤ (d : Int) := by omega
          have dq : (d : Int) - 128 = (q : Int) := by omega
          rw [if_neg (by omega), if_neg (by omega)] at HR
          have KK := Lib.hid (show wrap64 ((n : Int) + wrap64 (((d : Int) - 128) * 2 ^ (7 * i))) = ((n + qp : Nat) : Int) by rw [dq, hp2, t3, w1, w2]; omega)
          clear hcell hr hn hp2 ep eq eqp t3 w1 w2 P8 DL hqp hq dq
          go_wp2_with fail
          go_roundw
          case rel => exact ⟨i + 1, n + qp, by have := GB.out; omega, by have := GB.out; omega, by rw [KK.out], by go_num, by rw [Nat.pow_succ, ← EP.out]; exact FR.out, HR.out, rfl⟩
          case measure => have := GB.out; simp [intOf] <;> omega
        · have u4 : ¬ (128 : Int) ≤ (d : Int) := by omega
          have dq : (d : Int) = (q : Int) := by omega
          by_cases g4 : d = 0 ∧ 0 < i
          · obtain ⟨rfl, g4⟩ := g4
            have g5 : (0 : Int) < (i : Int) := by omega
            have g6 : decide (0 < i) = true := decide_eq_true g4
            rw [if_pos ⟨rfl, g4⟩] at HR
            clear hcell hr hn hp2 ep eq eqp t3 w1 w2 P8 DL hqp hq dq
            go_wp2_with fail
            go_ret2
            exact ⟨by rw [← HR.out, sizN_none HR.out.symm]; rfl, rfl⟩
          · rw [if_neg g4, if_pos (by omega)] at HR
            have KK := Lib.hid (show wrap64 ((n : Int) + wrap64 ((d : Int) * 2 ^ (7 * i))) = ((n + qp : Nat) : Int) by rw [dq, hp2, t3, w1, w2]; omega)
            have SZ := Lib.hid (sizN_some HR.out.symm)
            by_cases g5 : d = 0
            · obtain rfl := g5
              obtain rfl : i = 0 := by omega
              have QP := Lib.hid (show qp = 0 by rw [eqp, eq]; exact Nat.zero_mul p)
              have cl0 : w.cell? ⟨b, off, none⟩ = some (.int .u8 ((0 : Nat) : Int)) := by simpa using cl
              clear hcell hr hn hp2 ep eq eqp t3 w1 w2 P8 DL hqp hq dq g4
              go_wp2_with fail
              go_ret2
              exact ⟨by rw [← HR.out, SZ.out, QP.out, List.length_drop]; have := GB.out; simp [natO]; omega, rfl⟩
            · have z0 : ((d : Int) == 0) = false := by rw [beq_eq_false_iff_ne]; omega
              clear hcell hr hn hp2 ep eq eqp t3 w1 w2 P8 DL hqp hq dq g4
              go_wp2_with fail
              rw [KK.out]
              go_ret2
              exact ⟨by rw [← HR.out, SZ.out, List.length_drop, show xs.length - (xs.length - (i + 1)) = i + 1 by have := GB.out; omega]; rfl, rfl⟩
      · have e9 : ((i : Int) == 9) = true := by rw [beq_iff_eq]; omega
        have hr : readN 9 0 1 xs = none := by rw [← hr, show 9 - i = 0 by omega, readN]
        have HR := Lib.hid hr
        clear hr hn hcell
        go_wp2_with fail
        rw [Exit.noGoto_ret]
        go_ret2
        exact ⟨by rw [HR.out, sizN_none HR.out]; rfl, rfl⟩
    · have b1 : ¬ (i : Int) < (xs.length : Int) := by omega
      have hr : readN 9 0 1 xs = none := by rw [← hr, List.drop_of_length_le (by omega), readN_nil]
      have HR := Lib.hid hr
      clear hr hn hcell hcm hlc hil hi hmx
      go_wp2_with fail
      go_ret2
      exact ⟨by rw [HR.out, sizN_none HR.out]; rfl, rfl⟩
theorem or_next (n d : Nat) (hn : n ≤ 72057594037927935) (hd : d < 256) : bits .or .u64 ((n : Int) * 256) (d : Int) = ((256 * n + d : Nat) : Int) := by
  have h := bits_or_u64_nat (2 ^ 8 * n) d (by omega) (by omega)
  rw [← Nat.two_pow_add_eq_or_of_lt (i := 8) hd n] at h
  rw [show (n : Int) * 256 = ((2 ^ 8 * n : Nat) : Int) by omega]
  exact h
def lenE (xs : List Nat) : Nat := if 8 ≤ xs.length then 8 else 0
end Go.Proofs.YtckikgfckihniaaDoor
/- Package code: a reader in memory; what takes the part that stands next. -/
namespace Go.Proofs.YtckikgfckihniaaDoor
open Go.RowKit Go.HashMath Go.CodeMath

/-- A result variable that lies in memory, of one cell. -/
theorem results_one {P : Program} {fn : Func} {p : Tmp} {ty : TypeId} (h : fn.results = #[.cell p ty]) (tmps : Array Value) (w : World) (a : Addr) (v : Value) (hp : tmps.getD p undef = .pointer (some a)) (ha : ∀ w, (isAgg ty).run P w = .ok false w) (hc : w.cell? a = some v) :
    (results fn tmps).run P w = .ok v w := by
  have hp' : tmps[p]?.getD undef = .pointer (some a) := by simpa using hp
  simp [results, h, hp', asAddr, loadVar, ha, hc]
/-- The reader in block g, whose bytes are sv; s is what is left. -/
def RdG (S : Nat → Prop) (w : World) (g : Nat) (sv : Value) (s : St) : Prop := S g ∧ w.heap[g]? = some (.cells #[sv, .bool (!s.isSome)] 86 (0, 0)) ∧ Holds8 w sv (leftO s) ∧ (∀ a l c, sv = .slice (some a) l c → S a.block ∧ a.block ≠ g) ∧ ∀ i, S i → i < w.heap.size
/-- v is a reader, in blocks of S. -/
def RdH (w : World) (v : Value) (S : Nat → Prop) (s : St) : Prop := ∃ (g : Nat) (sv : Value), v = .pointer (some ⟨g, 0, none⟩) ∧ RdG S w g sv s ∧ (leftO s).length ≤ 140737488355328
section
variable {S T : Nat → Prop} {w w' : World} {g : Nat} {sv : Value} {s : St}
theorem RdG.cell0 (h : RdG S w g sv s) : w.cell? ⟨g, 0, none⟩ = some sv := by simp [World.cell?, h.2.1]
theorem RdG.cell1 (h : RdG S w g sv s) : w.cell? ⟨g, 1, none⟩ = some (.bool (!s.isSome)) := by simp [World.cell?, h.2.1]
theorem RdG.free (h : RdG S w g sv s) (i : Nat) : w.frozen? ⟨g, i, none⟩ = false := by simp [World.frozen?, h.2.1]
theorem RdG.lasts (h : RdG S w g sv s) (k : Mut T w w') (hd : ∀ i, S i → ¬ T i) : RdG S w' g sv s := by
  obtain ⟨h1, h2, h3, h4, h5⟩ := h
  exact ⟨h1, (k.block g (lt_of_block h2) (hd g h1)).trans h2, k.holds8 h3 (Or.inr fun b off l c e => hd b (h4 _ l c e).1), h4, fun i hi => Nat.lt_of_lt_of_le (h5 i hi) k.size⟩
theorem RdG.keeps (h : RdG S w g sv s) (k : Keeps w w') : RdG S w' g sv s := h.lasts (Mut.of k fun _ => False) (fun _ _ q => q)
theorem RdG.wrt {z : Nat} (h : RdG S w g sv s) (k : Wrt z w w') (hz : ¬ S z) : RdG S w' g sv s := h.lasts (T := fun i => i = z) (Mut.wrt k rfl) (fun i hi e => hz (e ▸ hi))
theorem RdG.put {ys : List Nat} {v1 : Value} (h : RdG S w g sv s) (hs : s.isSome = true) (hv : Holds8 w v1 ys) (ho : ∀ a l c, v1 = .slice (some a) l c → S a.block ∧ a.block ≠ g) : RdG S (w.setCell ⟨g, 0, none⟩ v1) g v1 (some ys) ∧ Wrt g w (w.setCell ⟨g, 0, none⟩ v1) := by
  have hW : Wrt g w (w.setCell ⟨g, 0, none⟩ v1) := (Wrt.refl g w).set 0 v1
  refine ⟨⟨h.1, ?_, hW.holds8 hv fun b off l c e => (ho _ l c e).2, ho, fun i hi => Nat.lt_of_lt_of_le (h.2.2.2.2 i hi) hW.size⟩, hW⟩
  simp [World.setCell, Array.getElem?_modify, h.2.1, hs]
/-- Behind a failure. -/
theorem RdG.failed (h : RdG S w g sv s) (hW : Wrt g w w') (hc : w'.heap[g]? = some (.cells #[.slice none 0 0, .bool true] 86 (0, 0))) : RdG S w' g (.slice none 0 0) none :=
  ⟨h.1, hc, Holds8.nil w', (fun a l c e => by cases e), fun i hi => Nat.lt_of_lt_of_le (h.2.2.2.2 i hi) hW.size⟩
end
/-- What is left behind k bytes that were taken. -/
def takenO (k : Nat) (s : St) : St := if k = 0 then none else some ((leftO s).drop k)
set_option maxHeartbeats 1000000 in
set_option maxRecDepth 100000 in
theorem take_at (F : Nat) (EF : ∀ args w, (callFunc F args).run Tryd.prog w = .ok (.enter F args) w) (z g k : Nat) (S : Nat → Prop) (sv : Value) (s : St) (R : World → Prop) (w : World) (h : RdG S w g sv s) (hk : k ≤ (leftO s).length)
    (C : Calls Tryd.prog F #[sv, .pointer (some ⟨z, 0, none⟩)] w (fun e w1 => e = .returned (.int .i64 (k : Int)) ∧ R w1)) (hR : ∀ w1, R w1 → RdG S w1 g sv s) :
    Calls Tryd.prog 61 #[.pointer (some ⟨g, 0, none⟩), .func (.func F) #[] #[.pointer (some ⟨z, 0, none⟩)]] w
      (fun e w' => e = .returned (.tuple #[]) ∧ ∃ w1 sv', R w1 ∧ Wrt g w1 w' ∧ RdG S w' g sv' (takenO k s)) := by
  have HH := Lib.hid h
  have c0 := h.cell0
  have f0 := h.free 0
  obtain ⟨_, ao, len, cap, rfl, hlen, hlc, hcm, hcell⟩ := h.2.2.1
  have HR := Lib.hid hR
  have HK := Lib.hid hk
  have HC := Lib.hid C
  have LN := Lib.hid hlen
  clear h hR C hcell
  by_cases hz : k = 0
  · have e0 : ((k : Int) == 0) = true := by rw [beq_iff_eq]; omega
    rw [show takenO k s = none from if_pos hz]
    clear hz hk
    go_enter Tryd.func61, Tryd.ntmps61
    go_wp2_with ((with_reducible refine HC.out.mono ?_); rintro e w1 ⟨rfl, hr⟩; have GG := Lib.hid (HR.out w1 hr); have d0 := GG.out.cell0; have g0 := GG.out.free 0; have g1 := GG.out.free 1; have d1 := GG.out.cell1; have RR := Lib.hid hr; clear hr)
    (try simp only [Exit.inBlock, Exit.then])
    refine bodyPost_ret (results_none rfl _ _ _) rfl ?_
    have hW : Wrt g w1 ((w1.setCell ⟨g, 0, none⟩ (.slice none 0 0)).setCell ⟨g, 1, none⟩ (.bool true)) := ((Wrt.refl g w1).set 0 _).set 1 _
    exact ⟨rfl, w1, _, RR.out, hW, GG.out.failed hW (by simp [World.setCell, Array.getElem?_modify, GG.out.2.1])⟩
  · have e0 : ((k : Int) == 0) = false := by rw [beq_eq_false_iff_ne]; omega
    rw [show takenO k s = some ((leftO s).drop k) from if_neg hz]
    have HS := Lib.hid (show s.isSome = true from by
      cases s with
      | none => exact absurd (Nat.le_zero.1 HK.out) hz
      | some xs => rfl)
    have CF := fun W => run_cutFrom (P := Tryd.prog) (ao := ao) (len := len) (cap := cap) Tryd.underlying25 elem8s siz8s k (by omega) W
    obtain ⟨va, vn, vc, ev⟩ : ∃ va vn vc, Value.slice va vn vc = sliced ao k len cap 1 := ⟨_, _, _, rfl⟩
    rw [← ev] at CF
    have EV := Lib.hid ev
    clear ev hz hk
    go_enter Tryd.func61, Tryd.ntmps61
    go_wp2_with ((with_reducible refine HC.out.mono ?_); rintro e w1 ⟨rfl, hr⟩; have GG := Lib.hid (HR.out w1 hr); have d0 := GG.out.cell0; have g0 := GG.out.free 0; have RR := Lib.hid hr; clear hr)
    go_end0
    have HP := GG.out.put HS.out (v1 := .slice va vn vc) (ys := (leftO s).drop k) (by rw [EV.out]; have := GG.out.2.2.1; rw [← LN.out] at this ⊢; exact this.cutFrom k HK.out) (fun a l c e => by rw [EV.out] at e; obtain ⟨y, ey, eb⟩ := sliced_at e; have := GG.out.2.2.2.1 y _ _ (by rw [ey]); rw [eb] at this; exact this)
    exact ⟨rfl, w1, _, RR.out, HP.2, HP.1⟩
end Go.Proofs.YtckikgfckihniaaDoor
/- Package code: what reads the part that stands next, and the readers. -/
namespace Go.Proofs.YtckikgfckihniaaDoor
open Go.RowKit Go.HashMath Go.CodeMath

/-- What s[a:b] is. -/
theorem run_cutMid {P : Program} {S T : TypeId} {ao : Option Addr} {len cap : Nat} (hu : P.underlying S = some (.slice T)) (hT : P.elem S = T) (hi : (P.info? T).map (·.size) = some 1) (a b : Nat) (ha : a ≤ b) (hb : b ≤ cap) (w : World) :
    (Instr.sliceAt S (.slice ao len cap) (some (.int .i64 (a : Int))) (some (.int .i64 (b : Int))) none).run P w = .ok (sliced ao a b cap 1) w := by
  subst hT
  have e1 := run_size (P := P) hi w
  rw [run_sliceAt_slice w _ _ _ _ _ hu, run_slice_lh w _ _ _ _ hu _ _ _ _ (by omega) (by omega) (by omega), e1]
  rfl
theorem Holds8.cutMid {w : World} {ao : Option Addr} {len cap : Nat} {xs : List Nat} (h : Holds8 w (.slice ao len cap) xs) (a b : Nat) (ha : a ≤ b) (hb : b ≤ len) : Holds8 w (sliced ao a b cap 1) ((xs.drop a).take (b - a)) := by
  have q := h.cutFrom a (by omega)
  have hl : len ≤ cap := by obtain ⟨_, _, _, _, e, _, h4, _⟩ := h; cases e; exact h4
  exact HoldsN.upto (k := .u8) (m := 256) q (b - a) (by omega)
set_option maxHeartbeats 1000000 in
/-- A copy in memory of the call's own. -/
theorem clone_at (v : Value) (xs : List Nat) (w : World) (h : Holds8 w v xs) (hl : xs.length ≤ 140737488355328) :
    Calls Tryd.prog 60 #[v] w (GivesO w xs) := by
  have HH := Lib.hid h
  have OW := Lib.hid (fun (c : Array Value) (hc : c = (vals8 []).toArray) => own_lit8 w w.heap.size (Nat.le_refl _) [] (by simp) (by simp) hc (n := 0) rfl)
  have HL := Lib.hid (show ([] : List Nat).length + xs.length ≤ 140737488355328 by simpa using hl)
  have q22 : ∀ (w : World) (a : Option Addr) (n c n' c' : Nat), (binOp .eql 25 (.slice a n c) (.slice none n' c')).run Tryd.prog w = .ok (.bool a.isNone) w := fun w a n c n' c' => Lib.run_eql_slice_nil w _ _ a n c n' c' Tryd.underlying25
  obtain ⟨_, ao, len, cap, rfl, hlen, hlc, hcm, hcell⟩ := h
  subst hlen
  clear hl
  cases ao with
  | none =>
    have hx : xs = [] := by
      have := hcm.2 rfl
      exact List.eq_nil_of_length_eq_zero (by omega)
    subst hx
    clear hcell
    go_enter Tryd.func60, Tryd.ntmps60
    go_wp2_with fail
    go_ret
    exact ⟨_, rfl, own8_nil _ _, Keeps.refl w⟩
  | some a =>
    clear hcell
    go_enter Tryd.func60, Tryd.ntmps60
    go_wp2_with (at_builtin; refine wpList_append8h rfl (.tmp 5) (.tmp 6) rfl w.heap.size _ _ [] xs (by rfl) (OW.out _ rfl) (by rfl) (HH.out.keeps ((Keeps.refl w).alloc _)) HL.out ((Keeps.refl w).alloc _).size ?_)
    intro v2 w2 ho2 hb2 hg2
    have K2 := Lib.hid (show Keeps w w2 from Below.trans ((Keeps.refl w).alloc _) hb2)
    have O2 := Lib.hid (show Own8 w2 w.heap.size v2 xs from ho2)
    clear hb2 hg2 ho2
    go_wp2_with fail
    go_ret
    exact ⟨_, rfl, O2.out, K2.out⟩
/-- A variable of its own, of one cell. -/
def Box (T : TypeId) (w : World) (z : Nat) (v : Value) : Prop := w.heap[z]? = some (.cells #[v] T (0, 0))
section
variable {T : TypeId} {w w' : World} {z : Nat} {v u : Value}
theorem Box.cell (h : Box T w z v) : w.cell? ⟨z, 0, none⟩ = some v := by simp [World.cell?, show w.heap[z]? = _ from h]
theorem Box.free (h : Box T w z v) : w.frozen? ⟨z, 0, none⟩ = false := by simp [World.frozen?, show w.heap[z]? = _ from h]
theorem Box.set (h : Box T w z v) (u : Value) : Box T (w.setCell ⟨z, 0, none⟩ u) z u := by simp [Box, World.setCell, Array.getElem?_modify, show w.heap[z]? = _ from h]
theorem Box.lt (h : Box T w z v) : z < w.heap.size := lt_of_block h
theorem Box.wrt {g : Nat} (h : Box T w z v) (k : Wrt g w w') (hz : z ≠ g) : Box T w' z v := (k.block z h.lt hz).trans h
theorem Box.keeps (h : Box T w z v) (k : Keeps w w') : Box T w' z v := (Below.block k z h.lt).trans h
theorem Box.new (w : World) (v : Value) : Box T (w.alloc (.cells #[v] T)) w.heap.size v := (MapKept.heap_alloc w _).1
end
set_option maxHeartbeats 1000000 in
theorem num_part (z : Nat) (u v : Value) (xs : List Nat) (w : World) (hb : Box 3 w z u) (h : Holds8 w v xs) :
    Calls Tryd.prog 62 #[v, .pointer (some ⟨z, 0, none⟩)] w (fun e w' => e = .returned (.int .i64 (sizN xs : Int)) ∧ Box 3 w' z (.int .i64 (natO (readN 9 0 1 xs) : Int)) ∧ Wrt z w w') := by
  have RN := Lib.hid (row_next v xs w h)
  have BB := Lib.hid hb
  have c0 := hb.cell
  have f0 := hb.free
  clear hb h
  go_enter Tryd.func62, Tryd.ntmps62
  go_wp2_with (go_at_call 63; (with_reducible refine RN.out.mono ?_); rintro e w1 ⟨rfl, rfl⟩)
  go_ret
  exact ⟨rfl, BB.out.set _, (Wrt.refl z w).set 0 _⟩
/-- How many bytes the bytes at the front have, with their row: 0 if there are none. -/
def sizB (xs : List Nat) : Nat := match bytO (some xs) with | none => 0 | some x => xs.length - x.2.length
theorem sizN_le (xs : List Nat) : sizN xs ≤ xs.length := by unfold sizN; split <;> omega
theorem sizB_le (xs : List Nat) : sizB xs ≤ xs.length := by unfold sizB; split <;> omega
/-- What a part of bytes leaves behind. -/
def BytAt (w : World) (z : Nat) (xs : List Nat) (w' : World) : Prop := ∃ y, Box 25 w' z y ∧ Own8 w' w.heap.size y (rowO (bytO (some xs))) ∧ Wrt z w w'
theorem bytO_no {xs : List Nat} (h : readN 9 0 1 xs = none) : bytO (some xs) = none := by show (readN 9 0 1 xs).bind _ = none; rw [h]; rfl
theorem bytO_yes {xs r : List Nat} {n : Nat} (h : readN 9 0 1 xs = some (n, r)) : bytO (some xs) = takeO n (some r) := by show (readN 9 0 1 xs).bind _ = _; rw [h]; rfl
def lenH (xs : List Nat) : Nat := if 32 ≤ xs.length then 32 else 0
theorem copy32 (w : World) (z : Nat) (l : List Nat) (hl : l.length = 32) :
    w.setRow z ((cellsK .u8 (List.replicate 32 0)).toArray.toList.take 0 ++ (cellsK .u8 l ++ (cellsK .u8 (List.replicate 32 0)).toArray.toList.drop (0 + (cellsK .u8 l).length))).toArray = w.setRow z (cellsK .u8 l).toArray := by
  congr 2
  rw [cellsK_len, hl, List.take_zero, List.nil_append, Nat.zero_add, List.drop_of_length_le (by simp [cellsK]), List.append_nil]
theorem run_copy32 {w : World} (ty : TypeId) (z : Nat) (ad : Addr) (n c : Nat) (hA : A8 23 w z (List.replicate 32 0)) (l : List Nat) (hl : l.length = 32) (hn : l.length = Nat.min n 32) (hsrc : ∀ j v, (cellsK .u8 l)[j]? = some v → w.cell? (ad.add j) = some v) :
    (Builtin.copy_ #[25, 25] ty #[.slice (some ⟨z, 0, none⟩) 32 32, .slice (some ad) n c]).run Tryd.prog w = .ok (.int .i64 32) (w.setRow z (cellsK .u8 l).toArray) := by
  have h := run_copy_row (P := Tryd.prog) w 25 25 ty 5 z 0 32 32 ad n c (cellsK .u8 (List.replicate 32 0)).toArray 23 (cellsK .u8 l) Tryd.underlying25 siz8s hA.2 (by rw [cellsK_len]; exact hn) hsrc (by rw [cellsK_len, hl]; simp [cellsK]) (fun v hv => by obtain ⟨x, _, rfl⟩ := List.mem_map.1 hv; rfl)
  rw [List.append_assoc, copy32 w z l hl, show goInt ((cellsK .u8 l).length : Nat) = .int .i64 32 by rw [cellsK_len, hl]; rfl] at h
  exact h
set_option maxHeartbeats 1000000 in
set_option maxRecDepth 100000 in
theorem hash_part (z : Nat) (v : Value) (xs : List Nat) (w : World) (hb : A8 23 w z (List.replicate 32 0)) (h : Holds8 w v xs) :
    Calls Tryd.prog 64 #[v, .pointer (some ⟨z, 0, none⟩)] w (fun e w' => e = .returned (.int .i64 (lenH xs : Int)) ∧ A8 23 w' z (sumO (hasO (some xs))) ∧ Wrt z w w') := by
  have HH := Lib.hid h
  have AA := Lib.hid hb
  obtain ⟨_, ao, len, cap, rfl, hlen, hlc, hcm, hcell⟩ := h
  subst hlen
  have hmx : xs.length ≤ 9223372036854775807 := by have := hcm.1; unfold maxLen at this; omega
  unfold lenH
  clear hb
  by_cases g : 32 ≤ xs.length
  · have g1 : ¬ (xs.length : Int) < 32 := by omega
    have SA := run_sliceAll z
    obtain ⟨b, off, rfl, hbs, hc⟩ : ∃ b off, ao = some ⟨b, off, none⟩ ∧ b < w.heap.size ∧ ∀ i, i < xs.length → w.cell? ⟨b, off + i, none⟩ = some (.int .u8 ((xs.getD i 0 : Nat) : Int)) := by
      rcases hcell with h | h
      · omega
      · exact h
    have SRC := Lib.hid (cells_in8 hc (k := 32) g)
    have LT := Lib.hid (show (xs.take 32).length = 32 by rw [List.length_take]; omega)
    have ES : sumO (hasO (some xs)) = xs.take 32 := by
      show sumO (takeO 32 (some xs)) = _
      rw [takeO_some g]; rfl
    have LL := Lib.hid (show (xs.take 32).length = Nat.min xs.length 32 by rw [LT.out]; exact (Nat.min_eq_right g).symm)
    rw [ES, if_pos g]
    have FL := Lib.hid (show ∀ x ∈ xs.take 32, x < 256 from fun x hx => HH.out.1 x (List.mem_of_mem_take hx))
    generalize xs.take 32 = l at *
    clear hcell hc g ES hcm hlc hbs
    go_enter Tryd.func64, Tryd.ntmps64
    have CP := fun ty => run_copy32 (w := w) ty z ⟨b, off, none⟩ xs.length cap AA.out l LT.out LL.out SRC.out
    go_wp2_with fail
    go_ret
    exact ⟨rfl, AA.out.setRow FL.out, (Wrt.refl z w).setRow _⟩
  · have g1 : (xs.length : Int) < 32 := by omega
    have ES : sumO (hasO (some xs)) = List.replicate 32 0 := by
      show sumO (takeO 32 (some xs)) = _
      rw [takeO_none g]; rfl
    rw [ES, if_neg g]
    clear hcell g ES
    go_enter Tryd.func64, Tryd.ntmps64
    go_wp2_with fail
    go_ret
    exact ⟨rfl, AA.out, Wrt.refl z w⟩
end Go.Proofs.YtckikgfckihniaaDoor
/- Package code: its readers. -/
namespace Go.Proofs.YtckikgfckihniaaDoor
open Go.RowKit Go.HashMath Go.CodeMath

theorem enter_fn {P : Program} {f : FuncId} {fn : Func} {c : Code} (hf : P.funcs[f]? = some fn) (hname : (fn.name == "runtime.NumGoroutine") = false) (hb : fn.body = some c) (args : Array Value) (w : World) :
    (callFunc f args).run P w = .ok (.enter f args) w := by
  have h1 : fn.name ≠ "runtime.NumGoroutine" := by simpa using hname
  simp [callFunc, hf, h1, hb]
theorem lenE_le (xs : List Nat) : lenE xs ≤ xs.length := by unfold lenE; split <;> omega
theorem lenH_le (xs : List Nat) : lenH xs ≤ xs.length := by unfold lenH; split <;> omega
theorem taken_num (s : St) (h : Fine s) : takenO (sizN (leftO s)) s = restO (numO s) := by
  rw [numO_left]
  cases e : readN 9 0 1 (leftO s) with
  | none => rw [sizN_none e]; rfl
  | some x =>
    obtain ⟨n, r⟩ := x
    obtain ⟨_, hx⟩ := row_read h e
    have hp := row_pos n
    rw [sizN_some e, takenO, if_neg (by rw [hx, List.length_append]; omega)]
    show some _ = some r
    rw [hx, List.length_append, Nat.add_sub_cancel]
    simp
theorem takeO_left (n : Nat) (hn : 0 < n) (s : St) : takeO n s = if n ≤ (leftO s).length then some ((leftO s).take n, (leftO s).drop n) else none := by
  cases s with
  | none => exact (if_neg (by show ¬ n ≤ 0; omega)).symm
  | some xs => rfl
theorem u64O_left (s : St) : natO (u64O s) = natO (u64O (some (leftO s))) := by
  rw [(u64O_take _).1, (u64O_take _).1, takeO_left 8 (by decide), takeO_left 8 (by decide)]
  rfl
theorem taken_u64 (s : St) (h : Fine s) : takenO (lenE (leftO s)) s = restO (u64O s) := by
  rw [(u64O_take _).2, takeO_left 8 (by decide), lenE, takenO]
  by_cases g : 8 ≤ (leftO s).length
  · rw [if_pos g, if_pos g]; rfl
  · rw [if_neg g, if_neg g]; rfl
theorem taken_hash (s : St) (h : Fine s) : takenO (lenH (leftO s)) s = restO (hasO s) := by
  show _ = restO (takeO 32 s)
  rw [takeO_left 32 (by decide), lenH, takenO]
  by_cases g : 32 ≤ (leftO s).length
  · rw [if_pos g, if_pos g]; rfl
  · rw [if_neg g, if_neg g]; rfl
set_option maxHeartbeats 1000000 in
set_option maxRecDepth 100000 in
theorem read_num (S : Nat → Prop) (g : Nat) (sv : Value) (s : St) (w : World) (h : RdG S w g sv s) :
    Calls Tryd.prog 38 #[.pointer (some ⟨g, 0, none⟩)] w (fun e w' => e = .returned (.int .i64 (natO (numO s) : Int)) ∧ (∃ sv', RdG S w' g sv' (restO (numO s))) ∧ Mut S w w') := by
  have HF := Lib.hid h.2.2.1.1
  have SB := Lib.hid h.2.2.2.2
  have SG := Lib.hid h.1
  rw [show natO (numO s) = natO (readN 9 0 1 (leftO s)) by rw [numO_left]]
  have TK := Lib.hid (let W0 := w.alloc (.cells #[.int .i64 0] 3); take_at 62 (enter_fn Tryd.func62 (by kernel_rfl) rfl) w.heap.size g (sizN (leftO s)) S sv s (fun w1 => Box 3 w1 w.heap.size (.int .i64 (natO (readN 9 0 1 (leftO s)) : Int)) ∧ Wrt w.heap.size W0 w1) W0 (h.keeps ((Keeps.refl w).alloc _)) (sizN_le _)
    (num_part w.heap.size (.int .i64 0) sv (leftO s) W0 (Box.new w _) (h.2.2.1.keeps ((Keeps.refl w).alloc _))) (fun w1 hr => (h.keeps ((Keeps.refl w).alloc _)).wrt hr.2 (fun q => Nat.lt_irrefl _ (h.2.2.2.2 _ q))))
  clear h
  obtain ⟨z, ez⟩ : ∃ z, z = w.heap.size := ⟨_, rfl⟩
  rw [← ez] at TK
  have EZ := Lib.hid ez
  generalize natO (readN 9 0 1 (leftO s)) = n at *
  go_enter Tryd.func38, Tryd.ntmps38
  go_upto_region 1 with fail
  rw [← ez]
  have K0 := Lib.hid ((Keeps.refl w).alloc (.cells #[.int .i64 0] 3))
  clear ez
  go_upto_region 2 with (go_at_call 61; (with_reducible refine TK.out.mono ?_); rintro e w2 ⟨rfl, w1, sv', hr, hw, hg⟩)
  have B2 := Lib.hid (hr.1.wrt hw (fun q => Nat.lt_irrefl z (by have := SB.out g SG.out; have := EZ.out; omega)))
  have W1 := Lib.hid hr.2
  have W2 := Lib.hid hw
  have G2 := Lib.hid hg
  have c2 := B2.out.cell
  have f2 := B2.out.free
  clear hr hw hg
  go_wp2_with fail
  have B3 := B2.out.set (.int .i64 (n : Int))
  refine bodyPost_ret (results_one rfl _ _ ⟨z, 0, none⟩ _ (by rfl) Tryd.isAgg3 B3.cell) rfl ⟨rfl, ⟨sv', ?_⟩, ?_⟩
  · rw [← taken_num s HF.out]
    exact G2.out.wrt ((Wrt.refl z w2).set 0 _) (fun q => by have := SB.out z q; have := EZ.out; omega)
  · exact ((((Mut.of K0.out S).wrtNew W1.out (by have := EZ.out; omega)).trans (Mut.wrt W2.out SG.out)).wrtNew ((Wrt.refl z w2).set 0 _) (by have := EZ.out; omega))
theorem bytO_left (s : St) : bytO s = bytO (some (leftO s)) := by
  cases s with
  | none => rfl
  | some xs => rfl
theorem taken_bytes (s : St) (h : Fine s) : takenO (sizB (leftO s)) s = restO (bytO s) := by
  rw [bytO_left]
  unfold sizB
  cases e : readN 9 0 1 (leftO s) with
  | none => rw [bytO_no e]; rfl
  | some x =>
    obtain ⟨n, r⟩ := x
    obtain ⟨_, hx⟩ := row_read h e
    have hp := row_pos n
    have hl : (leftO s).length = (row n).length + r.length := by rw [hx, List.length_append]
    rw [bytO_yes e]
    by_cases g : n ≤ r.length
    · rw [takeO_some g]
      show takenO ((leftO s).length - (r.drop n).length) s = some (r.drop n)
      rw [List.length_drop, takenO, if_neg (by omega)]
      congr 1
      rw [show (leftO s).length - (r.length - n) = (row n).length + n by omega, ← List.drop_drop, hx]
      simp
    · rw [takeO_none g]; rfl
theorem Own8.wrt {w w' : World} {B g : Nat} {v : Value} {xs : List Nat} (h : Own8 w B v xs) (k : Wrt g w w') (hg : g < B) : Own8 w' B v xs := by
  obtain ⟨⟨h1, h2⟩, h3⟩ := h
  refine ⟨⟨h1, ?_⟩, h3⟩
  rcases h2 with h2 | ⟨q, cap, cur, e, hq, hr, ht⟩
  · exact Or.inl h2
  · exact Or.inr ⟨q, cap, cur, e, hq, (k.block q (lt_of_block hr) (by omega)).trans hr, ht⟩
set_option maxHeartbeats 1000000 in
set_option maxRecDepth 100000 in
theorem read_hash (S : Nat → Prop) (g : Nat) (sv : Value) (s : St) (w : World) (h : RdG S w g sv s) :
    Calls Tryd.prog 39 #[.pointer (some ⟨g, 0, none⟩)] w (fun e w' => e = .returned (.agg (vals8 (sumO (hasO s))).toArray) ∧ (∃ sv', RdG S w' g sv' (restO (hasO s))) ∧ Mut S w w') := by
  have HF := Lib.hid h.2.2.1.1
  have SB := Lib.hid h.2.2.2.2
  have SG := Lib.hid h.1
  rw [show sumO (hasO s) = sumO (hasO (some (leftO s))) by unfold hasO; rw [takeO_left 32 (by decide), takeO_left 32 (by decide)]; rfl]
  have TK := Lib.hid (let W0 := w.alloc (.cells (cellsK .u8 (List.replicate 32 0)).toArray 23); take_at 64 (enter_fn Tryd.func64 (by kernel_rfl) rfl) w.heap.size g (lenH (leftO s)) S sv s (fun w1 => A8 23 w1 w.heap.size (sumO (hasO (some (leftO s)))) ∧ Wrt w.heap.size W0 w1) W0 (h.keeps ((Keeps.refl w).alloc _)) (lenH_le _)
    (hash_part w.heap.size sv (leftO s) W0 (ArrN.new w _ (zeros_lt _ _ (by decide))) (h.2.2.1.keeps ((Keeps.refl w).alloc _))) (fun w1 hr => (h.keeps ((Keeps.refl w).alloc _)).wrt hr.2 (fun q => Nat.lt_irrefl _ (h.2.2.2.2 _ q))))
  clear h
  obtain ⟨z, ez⟩ : ∃ z, z = w.heap.size := ⟨_, rfl⟩
  rw [← ez] at TK
  have EZ := Lib.hid ez
  have LL := Lib.hid (show (sumO (hasO (some (leftO s)))).length = 32 by
    show (sumO (takeO 32 (some (leftO s)))).length = 32
    by_cases q : 32 ≤ (leftO s).length
    · rw [takeO_some q]; show ((leftO s).take 32).length = 32; rw [List.length_take]; omega
    · rw [takeO_none q]; rfl)
  generalize sumO (hasO (some (leftO s))) = L at *
  go_enter Tryd.func39, Tryd.ntmps39
  go_upto_region 1 with fail
  rw [← ez]
  obtain ⟨W0, eW⟩ : ∃ W, W = w.alloc (.cells (cellsK .u8 (List.replicate 32 0)).toArray 23) := ⟨_, rfl⟩
  have K0 := Lib.hid (show Keeps w W0 by rw [eW]; exact (Keeps.refl w).alloc _)
  have TK := Lib.hid TK.out
  simp only [← eW] at TK
  change Code.wp _ _ _ _ (w.alloc (.cells (cellsK .u8 (List.replicate 32 0)).toArray 23))
  rw [← eW]
  clear ez eW
  go_upto_region 2 with (go_at_call 61; (with_reducible refine TK.out.mono ?_); rintro e w2 ⟨rfl, w1, sv', hr, hw, hg⟩)
  have GZ := Lib.hid (show g < z by have := SB.out g SG.out; have := EZ.out; omega)
  have A2 := Lib.hid (hw.arr hr.1 (fun q => by have := GZ.out; omega))
  have W1 := Lib.hid hr.2
  have W2 := Lib.hid hw
  have G2 := Lib.hid hg
  clear hr hw hg
  go_wp2_with (first
    | (refine wpList_load_sm ?w1 _ (by rfl) (by rfl) (G := z) (L := L) A2.out.range LL.out ?_; (case w1 => rfl))
    | (refine wpList_store_arr (k := .u8) (m := 256) (L := L) sizHash rfl _ _ (by rfl) _ (by rfl) (by rfl) A2.out LL.out LL.out ?_))
  refine bodyPost_ret (v := .agg (cellsK .u8 L).toArray) (results_arr undHash sizHash rfl _ (by rfl) (A2.out.setRow A2.out.1) LL.out) rfl ⟨rfl, ⟨sv', ?_⟩, ?_⟩
  · rw [← taken_hash s HF.out]
    exact G2.out.wrt ((Wrt.refl z w2).setRow _) (fun q => by have := SB.out z q; have := EZ.out; omega)
  · exact ((((Mut.of K0.out S).wrtNew W1.out (by have := EZ.out; omega)).trans (Mut.wrt W2.out SG.out)).wrtNew ((Wrt.refl z w2).setRow _) (by have := EZ.out; omega))
end Go.Proofs.YtckikgfckihniaaDoor
/- Package code: what lays numbers, bytes and sums. -/
namespace Go.Proofs.YtckikgfckihniaaDoor
open Go.RowKit Go.HashMath Go.CodeMath

/-- A row that was made with room, however much. -/
theorem own8_room {w : World} {G c : Nat} (B : Nat) (hB : B ≤ G) (cs : Array Value) (h : w.heap[G]? = some (.cells cs 5 (0, 0))) (hs : cs.size = c) (hc : c ≤ maxLen) : Own8 w B (.slice (some ⟨G, 0, none⟩) 0 c) [] := by
  refine ⟨⟨rfl, Or.inr ⟨G, c, _, rfl, hB, h, Nat.zero_le _, hc, by rw [hs, Nat.mul_one], by simp [vals8]⟩⟩, by simp⟩
set_option maxHeartbeats 2000000 in
set_option maxRecDepth 100000 in
/-- Room for n bytes behind none. -/
theorem grow_nil (n : Nat) (w : World) (hn : n ≤ 140737488355328) :
    Calls Tryd.prog 77 #[.slice none 0 0, .int .i64 (n : Int)] w (GivesO w []) := by
  by_cases h0 : n = 0
  · subst h0
    go_enter Tryd.func77, Tryd.ntmps77
    go_wp2_with fail
    go_ret
    exact ⟨_, rfl, own8_nil _ _, Keeps.refl w⟩
  · obtain ⟨i0, hi, hz0, hz1, hz2⟩ := info_parts info8
    have h1 : ¬ ((n : Int) < 0) := by omega
    have h4 : (n : Int) > 0 := by omega
    have h5 : (n : Int) ≤ 140737488355328 := by omega
    have hrz : ∀ ty, (Builtin.append_ #[25, 3] ty #[.slice none 0 0, .int .i64 (n : Int)]).run Tryd.prog w =
        .ok (.slice (some ⟨w.heap.size, 0, none⟩) n (grownCap w n 0 5)) (w.drew.alloc (.cells (#[] ++ Builtin.zeroCells (Value.int .u8 0).cells n ++ Builtin.zeroCells (Value.int .u8 0).cells (grownCap w n 0 5 - n)) 5)) := fun ty => by
      have h := Lib.run_append_grow_zeros w 25 3 ty 5 i0 (.int .u8 0) .i64 .i64 Tryd.underlying25 Tryd.underlying3 hi hz0 none 0 0 [] (run_firstCells_none w.drew i0.size 0 0 0) n (by omega) (by omega) (by omega) (by omega) (by rw [hz2]; omega)
        (by rw [Nat.zero_add]; exact growslice_fits (need := n) (old := 0) (by omega) (by rw [hz2]; omega))
      rw [Nat.zero_add] at h
      exact h
    have hGn : n ≤ grownCap w n 0 5 := grownCap_ge w _ _ _
    have hGm : grownCap w n 0 5 ≤ maxLen := grownCap_le_maxLen w n 0 _ (by unfold maxLen; omega)
    obtain ⟨G, hG⟩ : ∃ G, G = grownCap w n 0 5 := ⟨_, rfl⟩
    rw [← hG] at hrz hGn hGm
    obtain ⟨W1, eW⟩ : ∃ W, W = w.drew.alloc (.cells (#[] ++ Builtin.zeroCells (Value.int .u8 0).cells n ++ Builtin.zeroCells (Value.int .u8 0).cells (G - n)) 5) := ⟨_, rfl⟩
    rw [← eW] at hrz
    have K1 := Lib.hid (show Keeps w W1 by rw [eW]; exact ((Keeps.refl w).drew).alloc _)
    have O1 := Lib.hid (show Own8 W1 w.heap.size (.slice (some ⟨w.heap.size, 0, none⟩) 0 G) [] from own8_room _ (Nat.le_refl _) _ (by rw [eW]; exact (MapKept.heap_alloc w.drew _).1) (by simp [Builtin.zeroCells, show (Value.int .u8 0).cells.size = 1 from rfl]; omega) hGm)
    have hG63 : (G : Int) ≤ 9223372036854775807 := by unfold maxLen at hGm; omega
    clear hG eW hz0 hz1 hz2 hi hGm hn h0
    go_enter Tryd.func77, Tryd.ntmps77
    go_wp2_with (at_builtin; refine Lib.wpList_append_run _ rfl _ _ _ _ rfl _ _ rfl rfl _ _ (hrz _) ?_)
    all_goals (go_ret; exact ⟨_, rfl, O1.out, K1.out⟩)
/-- How long the rows ahead of one are together. -/
def lensP (ls : List (List Nat)) : Nat := (ls.map List.length).sum
theorem lensP_next (ls : List (List Nat)) (k : Nat) (h : k < ls.length) : lensP (ls.take (k + 1)) = lensP (ls.take k) + (ls.getD k []).length := by
  rw [List.take_succ_eq_append_getElem h, lensP, lensP, List.map_append, List.sum_append, List.getD, List.getElem?_eq_getElem h]
  rfl
theorem lensP_flat (ls : List (List Nat)) : ls.flatten.length = lensP ls := by rw [List.length_flatten]; rfl
theorem flat_next (ls : List (List Nat)) (k : Nat) (h : k < ls.length) : (ls.take (k + 1)).flatten = (ls.take k).flatten ++ ls.getD k [] := by
  rw [List.take_succ_eq_append_getElem h, List.flatten_append, List.getD, List.getElem?_eq_getElem h, List.flatten_singleton]
  rfl
theorem lensP_take (ls : List (List Nat)) (k : Nat) : lensP (ls.take k) ≤ lensP ls := by
  have h : lensP ls = lensP (ls.take k) + lensP (ls.drop k) := by
    rw [lensP, lensP, lensP, ← List.sum_append, ← List.map_append, List.take_append_drop]
  omega
def SizeAt (W : World) (ls : List (List Nat)) (ss si : Value) (wr : World) : Prop := ∃ k : Nat, k ≤ ls.length ∧ ss = .int .i64 (lensP (ls.take k) : Int) ∧ si = .int .i64 (k : Int) ∧ W = wr
def CatAt (W : World) (ls : List (List Nat)) (so si : Value) (wr : World) : Prop := ∃ k : Nat, k ≤ ls.length ∧ Own8 wr W.heap.size so (ls.take k).flatten ∧ si = .int .i64 (k : Int) ∧ Keeps W wr
set_option maxHeartbeats 2000000 in
set_option maxRecDepth 100000 in
theorem concat_at (v : Value) (ls : List (List Nat)) (w : World) (h : Parts w v ls) (hl : lensP ls ≤ 1000000000) :
    Calls Tryd.prog 67 #[v] w (GivesO w ls.flatten) := by
  obtain ⟨ao, len, cap, rfl, hlen, hlc, hcm, hcell⟩ := h
  have LEN := Lib.hid hlen
  have LL := Lib.hid hl
  have L0 : (0 : Int) ≤ (len : Int) := by omega
  have L1 : (len : Int) ≤ 9223372036854775807 := by have := hcm.1; unfold maxLen at this; omega
  have GR := Lib.hid (grow_nil (lensP ls) w (by omega))
  have CELL := Lib.hid hcell
  have q1 : (0 : Int) ≤ (lensP ls : Int) := by omega
  have q2 : (lensP ls : Int) ≤ 1000000000 := by omega
  clear hcell hl hlen hcm hlc
  go_enter Tryd.func67, Tryd.ntmps67
  go_wp2_with fail
  go_loopw [3, 11] (fun ss si wr => SizeAt w ls ss si wr) (fun _ si _ => len - (intOf si).toNat)
  case atStart => exact ⟨0, by omega, rfl, rfl, rfl⟩
  case round =>
    obtain ⟨k, hk, rfl, rfl, rfl⟩ := hrel
    have hle := LEN.out
    by_cases g : k < len
    · obtain ⟨b, off, rfl, hbs, u, hu, hpu⟩ : ∃ b off, ao = some ⟨b, off, none⟩ ∧ b < w.heap.size ∧ ∃ u, w.cell? ⟨b, off + k, none⟩ = some u ∧ Holds8 w u (ls.getD k []) := by
        rcases CELL.out with h | ⟨b, off, h1, h2, h3⟩
        · omega
        · obtain ⟨u, h4, h5⟩ := h3 k g
          exact ⟨b, off, h1, h2, u, h4, h5⟩
      have NX := Lib.hid (lensP_next ls k (by omega))
      have TK := lensP_take ls (k + 1)
      rw [NX.out] at TK
      obtain ⟨_, ua, un, uc, rfl, hun, _⟩ := hpu
      subst hun
      generalize lensP (ls.take k) = s at *
      generalize (ls.getD k []).length = d at *
      have KB := Lib.hid g
      have k0 : (0 : Int) ≤ (k : Int) := by omega
      have k1 : (k : Int) < (len : Int) := by omega
      have s0 : (0 : Int) ≤ (s : Int) := by omega
      have s1 : (s : Int) ≤ 1000000000 := by have := LL.out; omega
      have d0 : (0 : Int) ≤ (d : Int) := by omega
      have d1 : (d : Int) ≤ 1000000000 := by have := LL.out; omega
      have n1 : ¬ (s : Int) + (d : Int) < 0 := by omega
      have w1 : wrap64 ((s : Int) + (d : Int)) = (s : Int) + (d : Int) := two_in s0 (by omega) d0 (by omega)
      clear hk g TK hle
      go_wp2_with fail
      go_roundw
      case rel => exact ⟨k + 1, by have := KB.out; have := LEN.out; omega, by rw [NX.out, Int.natCast_add], by go_num, rfl⟩
      case measure => have := KB.out; simp [intOf] <;> omega
    · obtain rfl : k = len := by omega
      have k1 : ¬ (k : Int) < (k : Int) := by omega
      rw [List.take_of_length_le (by omega)]
      clear hk g hle
      go_upto_region 10 with (go_at_call 77; (with_reducible refine GR.out.mono ?_); rintro e w1 ⟨y, rfl, ho, hk1⟩; have O1 := Lib.hid ho; have K1 := Lib.hid hk1; clear ho hk1)
      go_wp2_with fail
      go_loopw [6, 27] (fun so si wr => CatAt w ls so si wr) (fun _ si _ => k - (intOf si).toNat)
      case atStart => exact ⟨0, by omega, O1.out, rfl, K1.out⟩
      case round =>
        obtain ⟨j, hj, hown, rfl, hK⟩ := hrel
        have hle := LEN.out
        by_cases g : j < k
        · obtain ⟨b, off, rfl, hbs, u, hu, hpu⟩ : ∃ b off, ao = some ⟨b, off, none⟩ ∧ b < w.heap.size ∧ ∃ u, w.cell? ⟨b, off + j, none⟩ = some u ∧ Holds8 w u (ls.getD j []) := by
            rcases CELL.out with h | ⟨b, off, h1, h2, h3⟩
            · omega
            · obtain ⟨u, h4, h5⟩ := h3 j g
              exact ⟨b, off, h1, h2, u, h4, h5⟩
          have cu := (hK.cell (o := off + j) hbs).trans hu
          have NX := Lib.hid (flat_next ls j (by omega))
          have LB : (ls.take j).flatten.length + (ls.getD j []).length ≤ 140737488355328 := by
            have h1 := lensP_take ls (j + 1)
            rw [← lensP_flat (ls.take (j + 1)), NX.out, List.length_append] at h1
            have := LL.out
            omega
          have LB := Lib.hid LB
          have HU := Lib.hid (hpu.keeps hK)
          obtain ⟨_, ua, un, uc, rfl, _⟩ := hpu
          have HO := Lib.hid hown
          have HK := Lib.hid hK
          have KB := Lib.hid g
          obtain ⟨_, yo, yn, yc, rfl, _⟩ := hown.holds
          have k0 : (0 : Int) ≤ (j : Int) := by omega
          have k1 : (j : Int) < (k : Int) := by omega
          clear hown hK g hj hle hu
          go_wp2_with (at_builtin; refine wpList_append8h rfl (.tmp 31) (.tmp 32) rfl w.heap.size _ _ _ _ (by rfl) HO.out (by rfl) HU.out LB.out HK.out.size ?_)
          intro v4 w4 ho4 hb4 hg4
          have O4 := Lib.hid (show Own8 w4 w.heap.size v4 (ls.take (j + 1)).flatten by rw [NX.out]; exact ho4)
          have K4 := Lib.hid (show Keeps w w4 from Below.trans HK.out hb4)
          clear ho4 hb4 hg4
          go_wp2_with fail
          go_roundw
          case rel => exact ⟨j + 1, by have := KB.out; have := LEN.out; omega, O4.out, by go_num, K4.out⟩
          case measure => have := KB.out; simp [intOf] <;> omega
        · obtain rfl : j = k := by omega
          have k1 : ¬ (j : Int) < (j : Int) := by omega
          rw [List.take_of_length_le (by omega)] at hown
          have HO := Lib.hid hown
          have HK := Lib.hid hK
          clear hown hK g hj hle
          go_wp2_with fail
          go_ret
          exact ⟨_, rfl, HO.out, HK.out⟩
theorem swap8_next (A B : List Nat) (k : Nat) (hA : k < A.length) (hB : k < B.length) : (A.take k ++ B.drop k).set k (A.getD k 0) = A.take (k + 1) ++ B.drop (k + 1) := by
  have hl : (A.take k).length = k := by rw [List.length_take]; omega
  rw [List.drop_eq_getElem_cons hB, List.set_append, if_neg (by omega), hl, Nat.sub_self, List.set_cons_zero, List.take_succ_eq_append_getElem hA]
  rw [List.append_assoc]
  simp [List.getD, hA]
theorem own8_of_row {w : World} {B G n : Nat} {os : List Nat} (h : Row8 w G os) (hB : B ≤ G) (hn : os.length = n) (hm : n ≤ 1000000) : Own8 w B (.slice (some ⟨G, 0, none⟩) n n) os := by
  subst hn
  exact ⟨⟨by simp [vals8], Or.inr ⟨G, os.length, (vals8 os).toArray, rfl, hB, h.2, Nat.le_refl _, by unfold maxLen; omega, by simp [vals8], by simp only [Nat.mul_one]; exact List.take_of_length_le (by simp [vals8])⟩⟩, h.1⟩
theorem big_at7 (n k : Nat) (h : k < 8) : (big 8 n).getD k 0 = n / 2 ^ (8 * (7 - k)) % 256 := by
  have e := big_next8 n k h
  have hl : k < (big 8 n).length := by rw [big_len]; exact h
  rw [List.take_succ_eq_append_getElem hl, List.append_cancel_left_eq] at e
  rw [List.getD, List.getElem?_eq_getElem hl]
  injection e
def Eight0 (W : World) (z n : Nat) (si : Value) (wr : World) : Prop := ∃ k : Nat, k ≤ 8 ∧ si = .int .i64 (k : Int) ∧ Row8 wr z ((big 8 n).take k ++ (List.replicate 8 0).drop k) ∧ Keeps W wr
/-- A row that is laid: what is laid, and what is left. -/
def RowLaid (W : World) (n : Nat) (sn sd : Value) (wr : World) : Prop := ∃ (k : Nat) (pre : List Nat), sn = .int .i64 (k : Int) ∧ k ≤ n ∧ Own8 wr W.heap.size sd pre ∧ pre ++ row k = row n ∧ Keeps W wr
set_option maxRecDepth 100000 in
theorem make9 (w : World) : (Instr.makeSlice 25 (.int .i64 0) (.int .i64 9)).run Tryd.prog w = .ok (.slice (some ⟨w.heap.size, 0, none⟩) 0 9) (w.alloc (.cells (cellsK .u8 (List.replicate 9 0)).toArray 5)) := by kernel_rfl
set_option maxHeartbeats 1000000 in
set_option maxRecDepth 100000 in
theorem row_at (n : Int) (h0 : -9223372036854775808 ≤ n) (h1 : n < 9223372036854775808) (w : World) : Calls Tryd.prog 68 #[.int .i64 n] w (GivesO w (putN n)) := by
  unfold putN
  by_cases g : 0 ≤ n
  · rw [if_pos g]
    obtain ⟨m, rfl⟩ := Int.eq_ofNat_of_zero_le g
    rw [Int.toNat_natCast]
    have n1 : ¬ (m : Int) < 0 := by omega
    have hmk := make9
    have M1 := Lib.hid (show m < 9223372036854775808 by omega)
    clear h0 h1 g
    go_enter Tryd.func68, Tryd.ntmps68
    go_wp2_with fail
    go_loopw [0, 3] (fun sn sd wr => RowLaid w m sn sd wr) (fun sn _ _ => (intOf sn).toNat)
    case atStart => exact ⟨m, [], rfl, Nat.le_refl _, own8_made _ (Nat.le_refl _) (MapKept.heap_alloc w _).1 (by decide), rfl, (Keeps.refl w).alloc _⟩
    case round =>
      clear hmk
      obtain ⟨k, pre, rfl, hk, hown, hrow, hK⟩ := hrel
      have HO := Lib.hid hown
      have HK := Lib.hid hK
      have k0 : (0 : Int) ≤ (k : Int) := by omega
      have k9 : (k : Int) ≤ 9223372036854775807 := by have := M1.out; omega
      obtain ⟨_, yo, yn, yc, rfl, _⟩ := hown.holds
      have LP := Lib.hid (show pre.length + 1 ≤ 140737488355328 by
        have h1 : (pre ++ row k).length = (row m).length := by rw [hrow]
        rw [List.length_append] at h1
        have h2 := row_len9 M1.out
        have h3 := row_pos k
        omega)
      by_cases g : 128 ≤ k
      · have g1 : (128 : Int) ≤ (k : Int) := by omega
        rw [row_big (by omega)] at hrow
        obtain ⟨q, eq⟩ : ∃ q, q = k % 128 := ⟨_, rfl⟩
        obtain ⟨r, er⟩ : ∃ r, r = k / 128 := ⟨_, rfl⟩
        have hq : q < 128 := by omega
        have RM := Lib.hid (show r < k ∧ r ≤ m by omega)
        rw [← eq, ← er] at hrow
        have HR := Lib.hid hrow
        have t1 : (k : Int) % 128 = (q : Int) := by omega
        have t2 : (k : Int) / 128 = (r : Int) := by omega
        have t3 : (k : Int).tmod 128 = (q : Int) := by rw [Int.tmod_eq_emod_of_nonneg k0]; exact t1
        have t4 : (k : Int).tdiv 128 = (r : Int) := by rw [Int.tdiv_eq_ediv_of_nonneg k0]; exact t2
        have q0 : (0 : Int) ≤ (q : Int) := by omega
        have q1 : (q : Int) ≤ 127 := by omega
        have OO := Lib.hid (fun (c : Array Value) (hc : c = (vals8 [q + 128]).toArray) => own_lit8 wr wr.heap.size (Nat.le_refl _) [q + 128] (by intro x hx; rw [List.mem_singleton] at hx; omega) (by simp) hc (n := 1) rfl)
        clear hown hK hrow eq er g hk hq
        go_wp2_with (at_builtin; refine wpList_append8h rfl (.tmp 11) (.tmp 16) rfl w.heap.size _ _ pre [q + 128] (by rfl) (HO.out.keeps ((Keeps.refl _).alloc _)) (by rfl) (OO.out _ (by first | rfl | simp [vals8])).holds LP.out (HK.out.alloc _).size ?_)
        intro v4 w4 ho4 hb4 hg4
        have O4 := Lib.hid (show Own8 w4 w.heap.size v4 (pre ++ [q + 128]) from ho4)
        have K4 := Lib.hid (show Keeps w w4 from Below.trans (HK.out.alloc _) hb4)
        clear ho4 hb4 hg4
        go_wp2_with fail
        go_roundw
        case rel => exact ⟨r, pre ++ [q + 128], rfl, RM.out.2, O4.out, by rw [List.append_assoc]; exact HR.out, K4.out⟩
        case measure => have := RM.out; simp [intOf] <;> omega
      · have g1 : ¬ (128 : Int) ≤ (k : Int) := by omega
        rw [row_small (by omega)] at hrow
        have HR := Lib.hid hrow
        have t1 : (k : Int) % 256 = (k : Int) := by omega
        have OO := Lib.hid (fun (c : Array Value) (hc : c = (vals8 [k]).toArray) => own_lit8 wr wr.heap.size (Nat.le_refl _) [k] (by intro x hx; rw [List.mem_singleton] at hx; omega) (by simp) hc (n := 1) rfl)
        clear hown hK hrow g hk
        go_wp2_with (at_builtin; refine wpList_append8h rfl (.tmp 18) (.tmp 21) rfl w.heap.size _ _ pre [k] (by rfl) (HO.out.keeps ((Keeps.refl _).alloc _)) (by rfl) (OO.out _ (by first | rfl | simp [vals8])).holds LP.out (HK.out.alloc _).size ?_)
        intro v4 w4 ho4 hb4 hg4
        have O4 := Lib.hid (show Own8 w4 w.heap.size v4 (pre ++ [k]) from ho4)
        have K4 := Lib.hid (show Keeps w w4 from Below.trans (HK.out.alloc _) hb4)
        clear ho4 hb4 hg4
        go_wp2_with fail
        go_ret
        exact ⟨_, rfl, by rw [← HR.out]; exact O4.out, K4.out⟩
  · rw [if_neg g]
    have n1 : n < 0 := by omega
    clear h0 h1 g
    go_enter Tryd.func68, Tryd.ntmps68
    go_wp2_with fail
    go_ret
    exact ⟨_, rfl, own8_nil _ _, Keeps.refl w⟩
set_option maxHeartbeats 1000000 in
theorem put_at (v : Value) (xs : List Nat) (n : Int) (w : World) (h : Holds8 w v xs) (hl : xs.length ≤ 100000000) (h0 : -9223372036854775808 ≤ n) (h1 : n < 9223372036854775808) :
    Calls Tryd.prog 49 #[v, .int .i64 n] w (GivesO w (xs ++ putN n)) := by
  have HH := Lib.hid h
  have RN := Lib.hid (row_at n h0 h1 w)
  have LS := Lib.hid (show lensP [xs, putN n] ≤ 1000000000 by
    show xs.length + ((putN n).length + 0) ≤ 1000000000
    have : (putN n).length ≤ 9 := by
      unfold putN
      split
      · exact row_len9 (by omega)
      · exact Nat.zero_le _
    omega)
  have FL := Lib.hid (show [xs, putN n].flatten = xs ++ putN n by simp)
  obtain ⟨_, ao, len, cap, rfl, _⟩ := h
  clear hl h0 h1
  go_enter Tryd.func49, Tryd.ntmps49
  go_wp2_with (first
    | (go_at_call 68; (with_reducible refine RN.out.mono ?_); rintro e w1 ⟨y, rfl, ho, hk⟩; have HK := Lib.hid hk; have HO := Lib.hid ho; obtain ⟨_, yo, yn, yc, rfl, _⟩ := ho.holds; have CC := Lib.hid (concat_at (.slice (some ⟨w1.heap.size, 0, none⟩) 2 2) [xs, putN n] (w1.alloc (.cells #[.slice ao len cap, .slice yo yn yc] 25)) (parts_lit (vs := [.slice ao len cap, .slice yo yn yc]) ⟨HH.out.keeps HK.out, HO.out.holds, trivial⟩ (by simp) rfl rfl rfl) LS.out); clear ho hk)
    | (go_at_call 67; (with_reducible refine CC.out.mono ?_); rintro e w2 ⟨u, rfl, ho2, hk2⟩))
  go_ret
  rw [FL.out] at ho2
  have KK := (HK.out.alloc (.cells #[.slice ao len cap, .slice yo yn yc] 25))
  exact ⟨_, rfl, own8_down ho2 KK.size, KK.trans hk2⟩
set_option maxHeartbeats 1000000 in
set_option maxRecDepth 100000 in
theorem puth_at (v : Value) (xs l : List Nat) (w : World) (h : Holds8 w v xs) (hl : xs.length ≤ 100000000) (hs : Sum32 l) :
    Calls Tryd.prog 50 #[v, .agg (vals8 l).toArray] w (GivesO w (xs ++ l)) := by
  have HH := Lib.hid h
  have HS := Lib.hid hs
  have LS := Lib.hid (show lensP [xs, l] ≤ 1000000000 by
    show xs.length + (l.length + 0) ≤ 1000000000
    rw [hs.1]; omega)
  have FL := Lib.hid (show [xs, l].flatten = xs ++ l by simp)
  obtain ⟨_, ao, len, cap, rfl, _⟩ := h
  clear hl hs
  go_enter Tryd.func50, Tryd.ntmps50
  go_upto_region 1 with fail
  obtain ⟨W0, eW⟩ : ∃ W, W = w.alloc (.cells (vals8 l).toArray 23) := ⟨_, rfl⟩
  have A0 : A8 23 W0 w.heap.size l := by rw [eW]; exact ArrN.new w l HS.out.2
  have K0 : Keeps w W0 := by rw [eW]; exact (Keeps.refl w).alloc _
  change Code.wp _ _ _ _ (w.alloc (.cells (vals8 l).toArray 23))
  rw [← eW]
  obtain ⟨z, ez⟩ : ∃ z, z = w.heap.size := ⟨_, rfl⟩
  rw [← ez] at A0 ⊢
  have SL := Lib.hid (sum_slice A0 HS.out.1)
  have K0 := Lib.hid K0
  have SA := run_sliceAll z
  clear eW ez A0
  have CC := Lib.hid (concat_at (.slice (some ⟨W0.heap.size, 0, none⟩) 2 2) [xs, l] (W0.alloc (.cells #[.slice ao len cap, .slice (some ⟨z, 0, none⟩) 32 32] 25)) (parts_lit (vs := [.slice ao len cap, .slice (some ⟨z, 0, none⟩) 32 32]) ⟨HH.out.keeps K0.out, SL.out, trivial⟩ (by simp) rfl rfl rfl) LS.out)
  go_wp2_with (go_at_call 67; (with_reducible refine CC.out.mono ?_); rintro e w2 ⟨u, rfl, ho2, hk2⟩)
  go_ret
  rw [FL.out] at ho2
  have KK := (K0.out.alloc (.cells #[.slice ao len cap, .slice (some ⟨z, 0, none⟩) 32 32] 25))
  exact ⟨_, rfl, own8_down ho2 KK.size, KK.trans hk2⟩
end Go.Proofs.YtckikgfckihniaaDoor
/- Package code's contracts. -/
namespace Go.Proofs.YtckikgfckihniaaDoor
open Go.RowKit Go.HashMath Go.CodeMath

theorem open_at (v : Value) (xs : List Nat) (w : World) (h : Holds8 w v xs) (hl : xs.length ≤ 140737488355328) :
    Calls Tryd.prog 37 #[v] w (fun e w' => ∃ g sv S, e = .returned (.pointer (some ⟨g, 0, none⟩)) ∧ RdG S w' g sv (some xs) ∧ Keeps w w' ∧ ∀ i, S i → w.heap.size ≤ i) := by
  have CL := Lib.hid (clone_at v xs w h hl)
  obtain ⟨_, ao, len, cap, rfl, _⟩ := h
  clear hl
  go_enter Tryd.func37, Tryd.ntmps37
  go_wp2_with (go_at_call 60; (with_reducible refine CL.out.mono ?_); rintro e w2 ⟨y, rfl, ho, hk⟩; have K2 := Lib.hid hk; have O2 := Lib.hid ho; obtain ⟨_, yo, yn, yc, rfl, _⟩ := ho.holds; clear ho hk)
  go_ret
  refine ⟨w2.heap.size, .slice yo yn yc, fun i => w.heap.size ≤ i ∧ i < w2.heap.size + 1, rfl, ⟨⟨K2.out.size, by omega⟩, (MapKept.heap_alloc w2 _).1, O2.out.holds.keeps ((Keeps.refl _).alloc _), fun a l c e => ?_, fun i hi => by rw [World.size_alloc]; exact hi.2⟩, K2.out.alloc _, fun i hi => hi.1⟩
  cases e
  have hb := O2.out.1
  have h1 := hb.lt a.block rfl
  exact ⟨⟨h1.1, by omega⟩, by omega⟩
theorem left_at (S : Nat → Prop) (g : Nat) (sv : Value) (s : St) (w : World) (h : RdG S w g sv s) :
    Calls Tryd.prog 41 #[.pointer (some ⟨g, 0, none⟩)] w (fun e w' => e = .returned (.int .i64 ((leftO s).length : Int)) ∧ w = w') := by
  have c0 := h.cell0
  obtain ⟨_, ao, len, cap, rfl, hlen, _⟩ := h.2.2.1
  rw [hlen]
  clear h
  go_enter Tryd.func41, Tryd.ntmps41
  go_wp2_with fail
  go_ret
  exact ⟨rfl, rfl⟩
theorem ok_at (S : Nat → Prop) (g : Nat) (sv : Value) (s : St) (w : World) (h : RdG S w g sv s) :
    Calls Tryd.prog 40 #[.pointer (some ⟨g, 0, none⟩)] w (fun e w' => e = .returned (.bool s.isSome) ∧ w = w') := by
  have c1 := h.cell1
  clear h
  cases s with
  | none =>
    have c1 : w.cell? ⟨g, 1, none⟩ = some (.bool true) := c1
    go_enter Tryd.func40, Tryd.ntmps40
    go_wp2_with fail
    go_ret
    exact ⟨rfl, rfl⟩
  | some xs =>
    have c1 : w.cell? ⟨g, 1, none⟩ = some (.bool false) := c1
    go_enter Tryd.func40, Tryd.ntmps40
    go_wp2_with fail
    go_ret
    exact ⟨rfl, rfl⟩
theorem code_reads : ReadC RdH where
  rlasts := fun S T w w' v s h k hd => by obtain ⟨g, sv, rfl, h1, h2⟩ := h; exact ⟨g, sv, rfl, h1.lasts k hd, h2⟩
  rfine := fun S w v s h => by obtain ⟨g, sv, rfl, h1, h2⟩ := h; exact h1.2.2.1.1
  rbound := fun S w v s h => by obtain ⟨g, sv, rfl, h1, h2⟩ := h; exact h1.2.2.2.2
  rsome := fun S w v s h => by obtain ⟨g, sv, rfl, h1, h2⟩ := h; exact ⟨g, rfl⟩
  copen := fun v xs w h hl => (open_at v xs w h hl).mono fun e w' ⟨g, sv, S, e1, e2, e3, e4⟩ => ⟨_, S, e1, ⟨g, sv, rfl, e2, hl⟩, e3, e4⟩
  cnum := fun S v s w h => by obtain ⟨g, sv, rfl, h1, h2⟩ := h; exact (read_num S g sv s w h1).mono fun e w' ⟨e1, ⟨sv', e2⟩, e3⟩ => ⟨e1, ⟨g, sv', rfl, e2, Nat.le_trans (left_num s h1.2.2.1.1) h2⟩, e3⟩
  chash := fun S v s w h => by obtain ⟨g, sv, rfl, h1, h2⟩ := h; exact (read_hash S g sv s w h1).mono fun e w' ⟨e1, ⟨sv', e2⟩, e3⟩ => ⟨e1, ⟨g, sv', rfl, e2, Nat.le_trans (left_take s) h2⟩, e3⟩
  cleft := fun S v s w h => by obtain ⟨g, sv, rfl, h1, h2⟩ := h; exact (left_at S g sv s w h1).mono fun e w' ⟨e1, e2⟩ => ⟨e1, e2 ▸ Keeps.refl w⟩
  cok := fun S v s w h => by obtain ⟨g, sv, rfl, h1, h2⟩ := h; exact (ok_at S g sv s w h1).mono fun e w' ⟨e1, e2⟩ => ⟨e1, e2 ▸ Keeps.refl w⟩
theorem code_puts : PutC where
  cput := fun v xs n w h hl h0 h1 => put_at v xs n w h hl h0 h1
  cputh := fun v xs l w h hl hs => puth_at v xs l w h hl hs
end Go.Proofs.YtckikgfckihniaaDoor
