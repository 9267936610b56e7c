/- Stores in a walk: what lasts of them, regions in which one is added to. -/
import Derived.Test.YtckikgfckihniaaDoorShaKit
import Derived.Test.YtckikgfckihniaaDoorDrawnS
import Derived.Test.YtckikgfckihniaaDoorStrAll
import Derived.Test.YtckikgfckihniaaDoorSumSlice
import Derived.Laws.BitsAllLaws
set_option linter.unusedVariables false
set_option linter.unusedSimpArgs false
set_option maxRecDepth 10000
namespace Go.Proofs.YtckikgfckihniaaDoor
open Go.RowKit Go.HashMath Go.CodeMath

/-- What a store is in memory, and lasts. -/
structure LastS (St : World → Value → (Nat → Prop) → Nat → KeptL → Prop) : Prop where
  lasts : ∀ (S T : Nat → Prop) (w w' : World) (v : Value) (n : Nat) (L : KeptL), St w v S n L → Mut T w w' → (∀ i, S i → ¬ T i) → St w' v S n L
  good : ∀ (S : Nat → Prop) (w : World) (v : Value) (n : Nat) (L : KeptL), St w v S n L → Good n L
  bound : ∀ (S : Nat → Prop) (w : World) (v : Value) (n : Nat) (L : KeptL), St w v S n L → ∀ i, S i → i < w.heap.size
theorem ShaC.last {R : World → Prop} {St : World → Value → (Nat → Prop) → Nat → KeptL → Prop} (C : ShaC R St) : LastS St := ⟨C.slasts, C.sgood, C.sbound⟩
theorem ShaD.last {St : World → Value → (Nat → Prop) → Nat → KeptL → Prop} (C : ShaD St) : LastS St := ⟨C.slasts, C.sgood, C.sbound⟩
section
variable {St : World → Value → (Nat → Prop) → Nat → KeptL → Prop} {S T : Nat → Prop} {w w' W : World} {v : Value} {n : Nat} {L : KeptL}
theorem LastS.keeps (C : LastS St) (h : St w v S n L) (k : Keeps w w') : St w' v S n L := C.lasts S (fun _ => False) w w' v n L h (Mut.of k _) fun _ _ q => q
theorem LastS.off (C : LastS St) (h : St w v S n L) {z : Nat} (hz : w.heap.size ≤ z) : ¬ S z := fun q => by have := C.bound S w v n L h z q; omega
theorem arr_mut {k : IntKind} {m : Nat} {T : TypeId} {z : Nat} {c : List Nat} (h : ArrN k m T w z c) (hm : Mut S w w') (hz : ¬ S z) : ArrN k m T w' z c := ⟨h.1, (hm.block z h.size hz).trans h.2⟩
/-- What holds in a region in which one call adds to a store: ahead of it, and behind it. -/
def addH (St : World → Value → (Nat → Prop) → Nat → KeptL → Prop) (W : World) (S : Nat → Prop) (v : Value) (n : Nat) (L : KeptL) : Nat → World → Prop
  | 0, x => Keeps W x
  | _ + 1, x => Mut S W x ∧ ∃ S', St x v S' n L ∧ ∀ i, S' i → S i ∨ W.heap.size ≤ i
theorem addH_keeps (C : LastS St) : ∀ (t : Nat) (x y : World), addH St W S v n L t x → Keeps x y → addH St W S v n L t y
  | 0, _, _, h, k => Keeps.trans h k
  | _ + 1, _, _, ⟨h1, S', h2, h3⟩, k => ⟨h1.keeps k, S', C.keeps h2 k, h3⟩
theorem addH_mut : ∀ {t : Nat} {x : World}, addH St W S v n L t x → Mut S W x
  | 0, _, h => Mut.of h S
  | _ + 1, _, h => h.1
theorem addH_arr {k : IntKind} {m : Nat} {T : TypeId} {z : Nat} {c : List Nat} {t : Nat} {x : World} (h : addH St W S v n L t x) (a : ArrN k m T W z c) (hz : ¬ S z) : ArrN k m T x z c := arr_mut a (addH_mut h) hz
/-- What is said of an operation that tells a store, or a store and true. -/
def stA (St : World → Value → (Nat → Prop) → Nat → KeptL → Prop) (B n : Nat) (L : KeptL) : Value → Act → World → Prop := fun v _ w => ∃ (g : Nat) (S : Nat → Prop), v = .pointer (some ⟨g, 0, none⟩) ∧ St w (.pointer (some ⟨g, 0, none⟩)) S n L ∧ ∀ i, S i → B ≤ i
def stB (St : World → Value → (Nat → Prop) → Nat → KeptL → Prop) (B n : Nat) (L : KeptL) : Value → Act → World → Prop := fun v _ w => ∃ (g : Nat) (S : Nat → Prop), v = .tuple #[.pointer (some ⟨g, 0, none⟩), .bool true] ∧ St w (.pointer (some ⟨g, 0, none⟩)) S n L ∧ ∀ i, S i → B ≤ i
theorem stA_lasts (C : LastS St) (B n : Nat) (L : KeptL) : Lasts2 Keeps (stA St B n L) := fun _ _ _ _ h ⟨g, S, e, q, r⟩ => ⟨g, S, e, C.keeps q h, r⟩
theorem stB_lasts (C : LastS St) (B n : Nat) (L : KeptL) : Lasts2 Keeps (stB St B n L) := fun _ _ _ _ h ⟨g, S, e, q, r⟩ => ⟨g, S, e, C.keeps q h, r⟩
theorem stA_leans (ds : List Tmp) (B n : Nat) (L : KeptL) : Leans ds (stA St B n L) := fun _ _ _ _ _ h => h
theorem stB_leans (ds : List Tmp) (B n : Nat) (L : KeptL) : Leans ds (stB St B n L) := fun _ _ _ _ _ h => h
end
/-- The lowest bit of a sum is turned. -/
theorem flip_zero {x : List Nat} : flipB x 0 = x.set 0 (x.getD 0 0 ^^^ 1) := rfl
set_option maxHeartbeats 1000000 in
theorem flipped_at (x : List Nat) (hx : Sum32 x) (w : World) : Calls Tryd.prog 26 #[.agg (vals8 x).toArray] w (fun e w' => ∃ v, e = .returned v ∧ Holds8 w' v (flipB x 0) ∧ Keeps w w') := by
  have HX := Lib.hid hx
  go_enter Tryd.func26, Tryd.ntmps26
  go_upto_region 1 with fail
  obtain ⟨W, eW⟩ : ∃ W, W = w.alloc (.cells (vals8 x).toArray 23) := ⟨_, rfl⟩
  have A0 : ArrN .u8 256 23 W w.heap.size x := by rw [eW]; exact ArrN.new w x HX.out.2
  have K0 : Keeps w W := by rw [eW]; exact (Keeps.refl w).alloc _
  change Code.wp _ _ _ _ (w.alloc (.cells (vals8 x).toArray 23))
  rw [← eW]
  obtain ⟨z, ez⟩ : ∃ z, z = w.heap.size := ⟨_, rfl⟩
  rw [← ez] at A0 ⊢
  have Z := Lib.hid ez
  have c := A0.cell 0 (by rw [HX.out.1]; decide)
  have f := A0.free 0
  have LX := A0.lt (by decide) 0
  have HS := Lib.hid (A0.set 0 (x.getD 0 0 ^^^ 1) (Nat.xor_lt_two_pow (n := 8) LX (by decide)))
  have XO := Lib.hid (show bits .xor .u8 ((x.getD 0 0 : Nat) : Int) 1 = ((x.getD 0 0 ^^^ 1 : Nat) : Int) from u8_xor_nat _ 1 LX (by decide))
  rw [← flip_zero] at HS
  have A0 := Lib.hid A0
  have K0 := Lib.hid K0
  clear eW ez LX hx
  generalize x.getD 0 0 = y at *
  have SL := run_sliceAll z
  go_upto_region 2 with fail
  rw [XO.out]
  go_wp2_with fail
  go_ret
  exact ⟨_, rfl, sum_slice HS.out (flip_ok HX.out 0).1, Below.setCell K0.out (by rw [Z.out]; exact Nat.le_refl _) _⟩
end Go.Proofs.YtckikgfckihniaaDoor
