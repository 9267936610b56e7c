/- Texts of one proof, laid together: ShaOwnF, ShaOwnB, ShaOwnAdd, ShaDReadM, ShaOwnRdM, ShaOwnRead, ShaHere, KeysOwn, DrawnT5. -/
import Derived.Test.YtfdfbpgljiakgaaDoorT9
import Derived.Test.YtfdfbpgljiakgaaDoorT5
import Derived.Test.YtfdfbpgljiakgaaDoorT6
import Derived.LaidHandle
import Derived.Stop.LaidErr
import Derived.Test.YtfdfbpgljiakgaaDoorT8
import Derived.Test.YtfdfbpgljiakgaaDoorT3
set_option linter.unusedVariables false
set_option linter.unusedSimpArgs false
set_option maxRecDepth 10000
/- Package shachain's own store: whether secrets fit. -/
namespace Go.Proofs.YtfdfbpgljiakgaaDoor
open Go.RowKit Go.HashMath Go.CodeMath

theorem wpList_store_var {P : Program} {T T' : TypeId} {G : Nat} {cs : List Value} {old : Array Value} {o : Oper} {ops : Array Oper} {rest : List Oper} {a : Act} {w : World} {Q : Exit → Act → World → Prop} (hi : (P.info? T).map (·.size) = some cs.length) (h1 : ∀ v ∈ cs, v.oneCell' = true) (hgd : o.guard = none) (x y : Operand) (ho : o.op = .store T x y)
    (hx : a.eval x = .pointer (some ⟨G, 0, none⟩)) (hy : a.eval y = .agg cs.toArray) (hA : w.heap[G]? = some (Obj.cells old T' (0, 0))) (hz : old.size = cs.length) (h : wpList P ops Q rest (a.put o.dst undef) (w.setRow G cs.toArray)) : wpList P ops Q (o :: rest) a w :=
  wpList_plain hgd fun _ hK => wp_store_var hi h1 x y ho hx hy hA hz (hK _ _ h)
theorem wpList_load_plc {ops : Array Oper} {rest : List Oper} {op : Oper} {a : Act} {Q : Exit → Act → World → Prop} {w : World} {G p : Nat} {x : List Nat} (hgd : op.guard = none) (o : Operand) (ho : op.op = .load 75 o) (hx : a.eval o = .pointer (some ⟨G, 0, none⟩))
    (hA : VarC 75 w G (plcC p x)) (hl : x.length = 32) (h : wpList Tryd.prog ops Q rest (a.put op.dst (.agg (plcC p x).toArray)) w) : wpList Tryd.prog ops Q (op :: rest) a w :=
  wpList_load_mid hgd _ o ho G 0 hx (plcC p x) _ hA.range Tryd.underlying75 rfl (by rw [plc_len hl]; exact sizPlc) h
theorem VarC.newPlc (w : World) : VarC 75 (w.alloc (.cells (plcC 0 (List.replicate 32 0)).toArray 75)) w.heap.size (plcC 0 (List.replicate 32 0)) := VarC.new w _
/-- Does what is kept below p's height fit? -/
def fitAt (n : Nat) (F : List Nat) (p : Nat) (x : List Nat) (h : Nat) : Prop := comesP p (plc (kno n h)) = true → toS x (hgt p) (plc (kno n h)) = secH F h
def FitsAt (n : Nat) (F : List Nat) (p : Nat) (x : List Nat) (w : World) (si : Value) (wr : World) : Prop := ∃ i : Nat, i ≤ hgt p ∧ si = .int .i64 (i : Int) ∧ (∀ j, j < i → fitAt n F p x j) ∧ Keeps w wr
def FitsP (n : Nat) (F : List Nat) (p : Nat) (x : List Nat) (w : World) (e : Ending) (w' : World) : Prop := ∃ b : Bool, e = .returned (.bool b) ∧ (b = true ↔ ∀ j, j < hgt p → fitAt n F p x j) ∧ Keeps w w'
theorem fitsP_of {n p : Nat} {F x : List Nat} {w w' : World} {e : Ending} (b : Bool) (h1 : e = .returned (.bool b)) (h2 : b = true ↔ ∀ j, j < hgt p → fitAt n F p x j) (h3 : Keeps w w') : FitsP n F p x w e w' := ⟨b, h1, h2, h3⟩
set_option maxHeartbeats 4000000 in
theorem own10_fits (g n p : Nat) (F x : List Nat) (w : World) (hn : n ≤ 1048576) (hF : Row21 F) (hg : VarC 73 w g (stoC n F)) (hp : p < 1048576) (hx : Sum32 x) (hh : ∀ h, h < hgt p → h < Lib.bitLen n) (R : Roots10 w) :
    Calls Tryd.prog 55 #[.pointer (some ⟨g, 0, none⟩), .agg (plcC p x).toArray] w (FitsP n F p x w) := by
  have HX := Lib.hid hx
  have HF := Lib.hid hF
  have HG := Lib.hid hg
  have RR := Lib.hid R
  have HH := Lib.hid hh
  have HP := Lib.hid hp
  have HN := Lib.hid hn
  have h20 := hgt_le p
  have CH := Lib.hid (fun w' (k : Keeps w w') => own10_height p hp w' (R.keeps k))
  obtain ⟨W, eW⟩ : ∃ W, W = w.alloc (.cells (plcC p x).toArray 75) := ⟨_, rfl⟩
  have A0 : VarC 75 W w.heap.size (plcC p x) := by rw [eW]; exact VarC.new w (plcC p x)
  have K0 := Lib.hid (show Keeps w W by rw [eW]; exact (Keeps.refl w).alloc _)
  have EW := Lib.hid eW
  have c0 := A0.no
  have A0 := Lib.hid A0
  have h0 : (0 : Int) ≤ (hgt p : Int) := by omega
  have h1 : (hgt p : Int) ≤ 20 := by omega
  obtain ⟨ht, eh⟩ : ∃ ht, ht = hgt p := ⟨_, rfl⟩
  clear hx hF hg R hh hp hn eW
  go_enter Tryd.func55, Tryd.ntmps55
  go_upto_region 1 with fail
  change Code.wp _ _ _ _ (w.alloc (.cells (plcC p x).toArray 75))
  rw [← EW.out]
  obtain ⟨z, ez⟩ : ∃ z, z = w.heap.size := ⟨_, rfl⟩
  rw [← ez] at A0 c0 ⊢
  have EZ := Lib.hid ez
  clear ez
  go_wp2_with (go_at_call 56; (with_reducible refine (CH.out _ K0.out).mono ?_); rintro e w' ⟨rfl, rfl⟩)
  rw [← eh] at h0 h1 ⊢
  have EH := Lib.hid eh
  have H20 := Lib.hid (show ht ≤ 20 by omega)
  clear eh h20 c0
  go_loopw [12] (fun si wr => FitsAt n F p x W si wr) (fun si _ => ht - (intOf si).toNat)
  case atStart => exact ⟨0, Nat.zero_le _, rfl, fun j q => absurd q (Nat.not_lt_zero _), Keeps.refl _⟩
  case round =>
    obtain ⟨i, hi, rfl, hok, hk⟩ := hrel
    rw [← EH.out] at hi
    have OKS := Lib.hid hok
    have HK := Lib.hid hk
    rcases Nat.lt_or_ge i ht with hlt | hge
    · have IL := Lib.hid (show i < hgt p by rw [← EH.out]; exact hlt)
      have IB := HH.out i IL.out
      have KW := Lib.hid (K0.out.trans hk)
      have CA := Lib.hid (fun w' (k : Keeps w w') => own10_at g n i F w' HN.out HF.out (HG.out.keeps k) IB)
      have PB := Lib.hid (show plc (kno n i) < 1048576 by unfold plc; omega)
      have S1 := Lib.hid (HF.out.sec (show i < 21 by have := H20.out; omega))
      have FE := Lib.hid (show fitAt n F p x i ↔ (comesP p (plc (kno n i)) = true → toS x (hgt p) (plc (kno n i)) = secH F i) from Iff.rfl)
      have CT := Lib.hid (fun w' (k : Keeps w w') => own10_to p x (plc (kno n i) : Int) HX.out HP.out w' (RR.out.keeps k))
      have ET := Lib.hid (show comesP p (plc (kno n i)) = true → toI p x (plc (kno n i) : Int) = toS x (hgt p) (plc (kno n i)) from fun q => by unfold toI; rw [comesI_in, q, if_pos rfl, Int.toNat_natCast])
      rw [comesI_in] at CT
      have OT := Lib.hid (toI_ok (plc (kno n i) : Int) HX.out (p := p))
      generalize secH F i = s at *
      generalize plc (kno n i) = q at *
      have g1 : (i : Int) < (ht : Int) := by omega
      have g2 : (0 : Int) ≤ (i : Int) := by omega
      have g3 : (i : Int) ≤ 20 := by omega
      clear hi hlt IB hok hk
      go_upto_region 5 with (first
        | (go_at_call 58; (with_reducible refine (CA.out _ KW.out).mono ?_); rintro e w5 ⟨rfl, hk5⟩)
        | (refine wpList_store_var (cs := plcC q s) (by rw [plc_len S1.out.1]; exact sizPlc) (plc_one _ _) rfl _ _ rfl (by rfl) (by rfl) (VarC.newPlc w5) (by rw [List.size_toArray, plc_len S1.out.1]; rfl) ?_))
      refine wp_named10 fun W6 z6 hk6 hb6 ez6 => ?_
      rw [← ez6]
      have K6 := Lib.hid (hk5.trans hk6)
      have A6 := Lib.hid (show VarC 75 W6 z6 (plcC q s) from hb6)
      have A3 := Lib.hid (A0.out.keeps (HK.out.trans (hk5.trans hk6)))
      have c6 := A6.out.no
      have KW6 := Lib.hid (KW.out.trans (hk5.trans hk6))
      clear hk5 hk6 hb6 ez6
      generalize comesP p q = cb at *
      generalize toI p x (q : Int) = t at *
      go_upto_region 6 with (first
        | (refine wpList_load_plc rfl _ rfl (by rfl) A3.out HX.out.1 ?_)
        | (go_at_call 53; (with_reducible refine (CT.out _ KW6.out).mono ?_); rintro e w7 ⟨rfl, hk7⟩)
        | (refine wpList_store_arr (k := .u8) (m := 256) (L := t) sizSum rfl _ _ (by rfl) (List.replicate 32 0) (by rfl) (by rfl) (ArrN.new w7 (List.replicate 32 0) (noughts_lt 32)) (by rw [List.length_replicate]) OT.out.1 ?_))
      refine wp_named10 fun W8 z8 hk8 hb8 ez8 => ?_
      rw [← ez8]
      have A7 := Lib.hid (show ArrN .u8 256 23 W8 z8 t from ⟨OT.out.2, hb8⟩)
      have A8 := Lib.hid (A6.out.keeps (hk7.trans hk8))
      have KE := Lib.hid (HK.out.trans (K6.out.trans (hk7.trans hk8)))
      have KF := Lib.hid (K0.out.trans KE.out)
      clear c6 hk7 hk8 hb8 ez8
      cases cb with
      | false =>
        have NX := Lib.hid (show ∀ j, j < i + 1 → fitAt n F p x j from fun j hj => by
          rcases Nat.lt_or_ge j i with h | h
          · exact OKS.out j h
          · obtain rfl : j = i := by omega
            exact FE.out.2 fun r => by cases r)
        go_wp2_with fail
        go_roundw
        case rel => exact ⟨i + 1, by have := IL.out; omega, by go_num, NX.out, KE.out⟩
        case measure => have := IL.out; have := EH.out; simp [intOf] <;> omega
      | true =>
        by_cases he : t = s
        · have EQ : ∀ w, (Op.equalIn 10000 23 (.agg (vals8 t).toArray) (.agg (vals8 s).toArray)).run Tryd.prog w = .ok true w := fun w => by rw [equal8 OT.out S1.out w, decide_eq_true he]
          have NX := Lib.hid (show ∀ j, j < i + 1 → fitAt n F p x j from fun j hj => by
            rcases Nat.lt_or_ge j i with h | h
            · exact OKS.out j h
            · obtain rfl : j = i := by omega
              exact FE.out.2 fun r => (ET.out r).symm.trans he)
          clear he
          go_wp2_with (first
            | (refine wpList_load_smP (L := t) (by rfl) _ (by rfl) (by rfl) A7.out.range OT.out.1 ?_)
            | (refine wpList_load_smP (L := s) (by rfl) _ (by rfl) (by rfl) A8.out.sec S1.out.1 ?_))
          go_roundw
          case rel => exact ⟨i + 1, by have := IL.out; omega, by go_num, NX.out, KE.out⟩
          case measure => have := IL.out; have := EH.out; simp [intOf] <;> omega
        · have EQ : ∀ w, (Op.equalIn 10000 23 (.agg (vals8 t).toArray) (.agg (vals8 s).toArray)).run Tryd.prog w = .ok false w := fun w => by rw [equal8 OT.out S1.out w, decide_eq_false he]
          have NE := Lib.hid he
          clear he
          go_wp2_with (first
            | (refine wpList_load_smP (L := t) (by rfl) _ (by rfl) (by rfl) A7.out.range OT.out.1 ?_)
            | (refine wpList_load_smP (L := s) (by rfl) _ (by rfl) (by rfl) A8.out.sec S1.out.1 ?_))
          go_ret
          exact fitsP_of false rfl ⟨fun r => (by cases r), fun r => absurd ((ET.out (by trivial)).trans (FE.out.1 (r i IL.out) (by trivial))) NE.out⟩ KF.out
    · obtain rfl : i = ht := by omega
      have KF := Lib.hid (K0.out.trans hk)
      clear hi hge hok hk
      go_wp2_with fail
      go_ret
      exact fitsP_of true rfl ⟨fun _ j hj => OKS.out j (by rw [EH.out]; exact hj), fun _ => rfl⟩ KF.out
def WholeAt (n : Nat) (F : List Nat) (w : World) (si : Value) (wr : World) : Prop := ∃ i : Nat, i ≤ Lib.bitLen n ∧ si = .int .i64 (i : Int) ∧ (∀ k, k < i → ∀ j, j < k → fitAt n F (plc (kno n k)) (secH F k) j) ∧ Keeps w wr
def WholeP (n : Nat) (F : List Nat) (w : World) (e : Ending) (w' : World) : Prop := ∃ b : Bool, e = .returned (.bool b) ∧ (b = true ↔ ∀ k, k < Lib.bitLen n → ∀ j, j < k → fitAt n F (plc (kno n k)) (secH F k) j) ∧ Keeps w w'
theorem wholeP_of {n : Nat} {F : List Nat} {w w' : World} {e : Ending} (b : Bool) (h1 : e = .returned (.bool b)) (h2 : b = true ↔ ∀ k, k < Lib.bitLen n → ∀ j, j < k → fitAt n F (plc (kno n k)) (secH F k) j) (h3 : Keeps w w') : WholeP n F w e w' := ⟨b, h1, h2, h3⟩
end Go.Proofs.YtfdfbpgljiakgaaDoor
/- Package shachain's own store: a secret looked up; its bytes. -/
namespace Go.Proofs.YtfdfbpgljiakgaaDoor
open Go.RowKit Go.HashMath Go.CodeMath

theorem get_found {n : Nat} {L : KeptL} {F : List Nat} (g : Good n L) (k : KeptAt F L) {i : Nat} (hi : i < Lib.bitLen n) {no : Int} (h0 : -9223372036854775808 ≤ no) (h1 : no ≤ 9223372036854775807) (hc : comesI (plc (kno n i)) (plcI no) = true) :
    getB n no = true ∧ getV n L no = toI (plc (kno n i)) (secH F i) (plcI no) := by
  have up := g.up
  have kl := kno_lt up hi
  have pb : plc (kno n i) < 1048576 := by unfold plc; omega
  by_cases q : 0 ≤ no ∧ no ≤ 1048575
  · obtain ⟨m, rfl⟩ : ∃ m : Nat, no = (m : Int) := ⟨no.toNat, by omega⟩
    rw [plcI_in (by omega), comesI_in] at hc
    have le := comes_le hc
    have mn : m < n := by unfold plc at le; omega
    have hin : (0 : Int) ≤ (m : Int) ∧ (m : Int) < (n : Int) := by omega
    refine ⟨decide_eq_true hin, ?_⟩
    rw [show getV n L (m : Int) = getL L m from (if_pos hin).trans (by rw [Int.toNat_natCast]), get_of g (kept_at g k hi) hc]
    unfold toI
    rw [plcI_in (by omega), comesI_in, hc, if_pos rfl, Int.toNat_natCast]
    rfl
  · rw [comesI_out pb (plcI_out h0 h1 q)] at hc; cases hc
theorem get_none10 {n : Nat} {L : KeptL} (g : Good n L) {no : Int} (hno : ∀ j, j < Lib.bitLen n → comesI (plc (kno n j)) (plcI no) = false) : getB n no = false ∧ getV n L no = zero32 := by
  have hin : ¬ (0 ≤ no ∧ no < (n : Int)) := fun q => by
    obtain ⟨m, rfl⟩ : ∃ m : Nat, no = (m : Int) := ⟨no.toNat, by omega⟩
    obtain ⟨e, he, hc⟩ := get_cover g _ m rfl (by omega)
    obtain ⟨e1, e2⟩ := good_no g he
    have := hno _ e2
    rw [← e1, plcI_in (by have := g.up; omega), comesI_in, hc] at this
    cases this
  exact ⟨decide_eq_false hin, if_neg hin⟩
def LookAt10 (w : World) (n : Nat) (pi : Int) (si : Value) (wr : World) : Prop := ∃ i : Nat, i ≤ Lib.bitLen n ∧ si = .int .i64 (i : Int) ∧ (∀ j, j < i → comesI (plc (kno n j)) pi = false) ∧ Keeps w wr
set_option maxHeartbeats 4000000 in
theorem own10_get (S : Nat → Prop) (v : Value) (n : Nat) (L : KeptL) (no : Int) (w : World) (h : St10 w v S n L) (h0 : -9223372036854775808 ≤ no) (h1 : no ≤ 9223372036854775807) (R : Roots10 w) : Calls Tryd.prog 30 #[v, .int .i64 no] w (GivesSec (getV n L no) (getB n no) w) := by
  obtain ⟨g, F, rfl, hg, hF, hK, hG, _⟩ := h
  have HF := Lib.hid hF
  have HG := Lib.hid hg
  have RR := Lib.hid R
  have HN := Lib.hid hG.up
  have B21 := bit_21 hG.up
  have CP := Lib.hid (fun w => own10_place no w)
  have FO := Lib.hid (fun i (q : i < Lib.bitLen n) (r : comesI (plc (kno n i)) (plcI no) = true) => get_found hG hK q h0 h1 r)
  have NO := Lib.hid (fun (r : ∀ j, j < Lib.bitLen n → comesI (plc (kno n j)) (plcI no) = false) => get_none10 (no := no) hG r)
  have OK := Lib.hid (get_ok hG no)
  have CS := Lib.hid (fun w' (k : Keeps w w') => own10_sizeN g n F w' (by have := hG.up; omega) (hg.keeps k))
  generalize plcI no = pi at *
  generalize getV n L no = t at *
  generalize getB n no = tb at *
  obtain ⟨W, eW⟩ : ∃ W, W = w.alloc (.cells (cellsK .u8 (List.replicate 32 0)).toArray 23) := ⟨_, rfl⟩
  have K0 := Lib.hid (show Keeps w W by rw [eW]; exact (Keeps.refl w).alloc _)
  obtain ⟨z, ez⟩ : ∃ z, z = w.heap.size := ⟨_, rfl⟩
  have G0 := Lib.hid (show ArrN .u8 256 23 W z (List.replicate 32 0) by rw [eW, ez]; exact ArrN.new w _ (noughts_lt 32))
  obtain ⟨ht, eh⟩ : ∃ ht, ht = Lib.bitLen n := ⟨_, rfl⟩
  have x0 : (0 : Int) ≤ (ht : Int) := by omega
  have x1 : (ht : Int) ≤ 21 := by omega
  have EH := Lib.hid eh
  have H21 := Lib.hid (show ht ≤ 21 by omega)
  rw [← eh] at CS
  have EW := Lib.hid eW
  have EZ := Lib.hid ez
  clear hF hg R B21 eh hG hK h0 h1 eW ez
  go_enter Tryd.func30, Tryd.ntmps30
  go_upto_region 1 with fail
  change Code.wp _ _ _ _ (w.alloc (.cells (cellsK .u8 (List.replicate 32 0)).toArray 23))
  rw [← EW.out, ← EZ.out]
  go_wp2_with (go_at_call 57; (with_reducible refine (CS.out _ K0.out).mono ?_); rintro e w' ⟨rfl, rfl⟩)
  go_loopw [11] (fun si wr => LookAt10 W n pi si wr) (fun si _ => ht - (intOf si).toNat)
  case atStart => exact ⟨0, Nat.zero_le _, rfl, fun j q => absurd q (Nat.not_lt_zero _), Keeps.refl _⟩
  case round =>
    obtain ⟨i, hi, rfl, hok, hk⟩ := hrel
    rw [← EH.out] at hi
    have OKS := Lib.hid hok
    have HK := Lib.hid hk
    have KW := Lib.hid (K0.out.trans hk)
    rcases Nat.lt_or_ge i ht with hlt | hge
    · have IL := Lib.hid (show i < Lib.bitLen n by rw [← EH.out]; exact hlt)
      have CA := Lib.hid (fun w' (k : Keeps w w') => own10_at g n i F w' HN.out HF.out (HG.out.keeps k) IL.out)
      have S1 := HF.out.sec (show i < 21 by have := H21.out; omega)
      have CT := Lib.hid (fun w' (k : Keeps w w') => own10_to (plc (kno n i)) (secH F i) pi S1 (by unfold plc; omega) w' (RR.out.keeps k))
      have FE := Lib.hid (FO.out i IL.out)
      have OT := Lib.hid (toI_ok (p := plc (kno n i)) pi S1)
      have NX := Lib.hid (show comesI (plc (kno n i)) pi = false → ∀ j, j < i + 1 → comesI (plc (kno n j)) pi = false from fun q j hj => by
        rcases Nat.lt_or_ge j i with h | h
        · exact OKS.out j h
        · obtain rfl : j = i := by omega
          exact q)
      generalize toI (plc (kno n i)) (secH F i) pi = s at *
      generalize comesI (plc (kno n i)) pi = cb at *
      generalize secH F i = y at *
      generalize plc (kno n i) = p at *
      have g1 : (i : Int) < (ht : Int) := by omega
      have g2 : (0 : Int) ≤ (i : Int) := by omega
      have g3 : (i : Int) ≤ 20 := by omega
      clear hi hlt hok hk S1
      go_upto_region 5 with (first
        | (go_at_call 58; (with_reducible refine (CA.out _ KW.out).mono ?_); rintro e w5 ⟨rfl, hk5⟩)
        | (go_at_call 54; (with_reducible refine (CP.out _).mono ?_); rintro e w' ⟨rfl, rfl⟩)
        | (go_at_call 53; (with_reducible refine (CT.out _ (KW.out.trans hk5)).mono ?_); rintro e w6 ⟨rfl, hk6⟩)
        | (refine wpList_store_arr (k := .u8) (m := 256) (L := s) sizSum rfl _ _ (by rfl) (List.replicate 32 0) (by rfl) (by rfl) (ArrN.new w6 (List.replicate 32 0) (noughts_lt 32)) (by rw [List.length_replicate]) OT.out.1 ?_))
      refine wp_named10 fun W8 z8 hk8 hb8 ez8 => ?_
      rw [← ez8]
      have A7 := Lib.hid (show ArrN .u8 256 23 W8 z8 s from ⟨OT.out.2, hb8⟩)
      have KE := Lib.hid (HK.out.trans (hk5.trans (hk6.trans hk8)))
      have KF := Lib.hid (K0.out.trans KE.out)
      clear hk5 hk6 hk8 hb8 ez8
      cases cb with
      | false =>
        go_wp2_with fail
        go_roundw
        case rel => exact ⟨i + 1, by have := IL.out; omega, by go_num, NX.out (by trivial), KE.out⟩
        case measure => have := IL.out; have := EH.out; simp [intOf] <;> omega
      | true =>
        obtain ⟨rfl, rfl⟩ := FE.out rfl
        have G8 := Lib.hid (G0.out.keeps KE.out)
        go_wp2_with (first
          | (refine wpList_load_smP (L := t) (by rfl) _ (by rfl) (by rfl) A7.out.range OT.out.1 ?_)
          | (refine wpList_store_arr (k := .u8) (m := 256) (L := t) sizSum rfl _ _ (by rfl) (List.replicate 32 0) (by rfl) (by rfl) G8.out (by rw [List.length_replicate]) OT.out.1 ?_))
        exact bodyPost_ret (v := .tuple #[.agg (vals8 t).toArray, .bool true]) (results_sec rfl _ (by rfl) (by rfl) (G8.out.setRow OT.out.2).range OT.out.1) rfl ⟨rfl, below_setRow' KF.out (by rw [EZ.out]; exact Nat.le_refl _) _⟩
    · obtain rfl : i = ht := by omega
      have KF := Lib.hid (K0.out.trans hk)
      have G8 := Lib.hid (G0.out.keeps hk)
      obtain ⟨rfl, rfl⟩ := NO.out (by rw [← EH.out]; exact OKS.out)
      clear hi hge hok hk
      go_wp2_with (refine wpList_store_arr (k := .u8) (m := 256) (L := List.replicate 32 0) sizSum rfl _ _ (by rfl) (List.replicate 32 0) (by rfl) (by rfl) G8.out (by rw [List.length_replicate]) (by rw [List.length_replicate]) ?_)
      exact bodyPost_ret (v := .tuple #[.agg (vals8 (List.replicate 32 0)).toArray, .bool false]) (results_sec rfl _ (by rfl) (by rfl) (G8.out.setRow (noughts_lt 32)).range (by rw [List.length_replicate])) rfl ⟨rfl, below_setRow' KF.out (by rw [EZ.out]; exact Nat.le_refl _) _⟩
theorem own8_lower {w : World} {B B' : Nat} {v : Value} {xs : List Nat} (h : Own8 w B v xs) (hB : B' ≤ B) : Own8 w B' v xs := by
  obtain ⟨⟨h1, h2⟩, h3⟩ := h
  refine ⟨⟨h1, ?_⟩, h3⟩
  rcases h2 with h2 | ⟨g, cap, cur, e, hg0, hr⟩
  · exact Or.inl h2
  · exact Or.inr ⟨g, cap, cur, e, Nat.le_trans hB hg0, hr⟩
theorem sums_step {L : KeptL} {i : Nat} {e : Nat × List Nat} (h : L[i]? = some e) : sumsL (L.take (i + 1)) = sumsL (L.take i) ++ e.2 := by
  unfold sumsL
  rw [List.take_add_one, h, Option.toList_some, List.map_append, List.flatten_append]
  simp
theorem kept_get {n : Nat} {L : KeptL} {F : List Nat} (g : Good n L) (k : KeptAt F L) {h : Nat} (hh : h < Lib.bitLen n) : L[h]? = some (kno n h, secH F h) := by
  obtain ⟨x, hx⟩ := good_at g hh
  have e := k _ (List.mem_of_getElem? hx)
  rw [show hgtN (kno n h, x).1 = h from kno_height g.up hh] at e
  rw [hx, e]
def LaidAt10 (w0 : World) (n : Nat) (L : KeptL) (su si : Value) (wr : World) : Prop := ∃ i : Nat, i ≤ L.length ∧ si = .int .i64 (i : Int) ∧ Own8 wr w0.heap.size su (row n ++ sumsL (L.take i)) ∧ Keeps w0 wr
end Go.Proofs.YtfdfbpgljiakgaaDoor
/- Package shachain's own store: a secret added. -/
namespace Go.Proofs.YtfdfbpgljiakgaaDoor
open Go.RowKit Go.HashMath Go.CodeMath

/-- A step behind which a variable that held these cells holds them. -/
def StayV (T : TypeId) (g : Nat) (cs : List Value) (w w' : World) : Prop := VarC T w g cs → VarC T w' g cs
theorem StayV.of {T : TypeId} {g : Nat} {cs : List Value} {w w' : World} (h : Keeps w w') : StayV T g cs w w' := fun q => q.keeps h
theorem set_twice {F : List Nat} (h : Row21 F) {k : Nat} (hk : k < 21) {x : List Nat} (hx : Sum32 x) : setH (setH F k x) k x = setH F k x := by
  have hl := h.len
  have h1 := hx.1
  unfold setH splice
  rw [List.take_append_of_le_length (by rw [List.length_take]; omega), List.take_take, Nat.min_self]
  congr 2
  rw [List.drop_append, List.length_take, List.drop_of_length_le (by rw [List.length_take]; omega), List.nil_append, List.drop_append, List.drop_of_length_le (by omega), List.nil_append, List.drop_drop]
  congr 1
  omega
theorem add_fits {n : Nat} {L : KeptL} {F : List Nat} (g : Good n L) (k : KeptAt F L) (hn : n < 1048576) (x : List Nat) : addOk L n x = true ↔ ∀ j, j < hgt (plc n) → fitAt n F (plc n) x j := by
  constructor
  · intro ok j hj _
    have hb := low_bits hn (h := j) hj
    have e := addOk_at ok (kept_at g k hb) (by rw [kno_height g.up hb]; exact hj)
    exact e
  · intro h
    refine List.all_eq_true.2 fun e he => ?_
    by_cases hl : hgtN e.1 < hgtN n
    · rw [Bool.or_eq_true]
      refine Or.inr (decide_eq_true ?_)
      obtain ⟨e1, e2⟩ := good_no g he
      have q := h (hgtN e.1) hl
      unfold fitAt at q
      rw [← e1, k e he] at q
      exact q (low_in g hn he hl)
    · rw [decide_eq_false hl]; rfl
def AddP (w : World) (v : Value) (S : Nat → Prop) (n : Nat) (L : KeptL) (no : Int) (x : List Nat) (e : Ending) (w' : World) : Prop := e = .returned (.int .i64 (addE n L no x : Int)) ∧ Mut S w w' ∧ ∃ S', St10 w' v S' (addN n L no x) (addK n L no x) ∧ ∀ i, S' i → S i ∨ w.heap.size ≤ i
theorem addP_same {w w' : World} {v : Value} {S : Nat → Prop} {n : Nat} {L : KeptL} {no : Int} {x : List Nat} {c : Nat} (h : St10 w v S n L) (he : addE n L no x = c) (hc : c ≠ 0) (k : Keeps w w') {e : Ending} (ee : e = .returned (.int .i64 (c : Int))) : AddP w v S n L no x e w' := by
  refine ⟨by rw [ee, he], Mut.of k S, S, ?_, fun i q => Or.inl q⟩
  have h1 : addE n L no x ≠ 0 := by rw [he]; exact hc
  rw [show addN n L no x = n from if_neg h1, show addK n L no x = L from if_neg h1]
  exact st10_lasts S (fun _ => False) w w' v n L h (Mut.of k _) fun _ _ q => q
theorem roots_apart {w : World} {g n : Nat} {F : List Nat} {T : TypeId} (h : VarC T w g (stoC n F)) (R : Roots10 w) : g ≠ 4 ∧ g ≠ 3 := by
  have c := h.count
  constructor
  · intro e
    have := R.1.2 0 (by decide)
    rw [e, this] at c
    cases c
  · intro e
    have := R.2.2 0 (by decide)
    rw [e, this] at c
    cases c
theorem Roots10.mut {w w' : World} {g : Nat} (R : Roots10 w) (m : Mut (fun i => i = g) w w') (h : g ≠ 4 ∧ g ≠ 3) : Roots10 w' :=
  ⟨⟨Nat.lt_of_lt_of_le R.1.1 m.size, fun i hi => (m.cell R.1.1 fun q => h.1 q.symm).trans (R.1.2 i hi)⟩, Nat.lt_of_lt_of_le R.2.1 m.size, fun i hi => (m.cell R.2.1 fun q => h.2 q.symm).trans (R.2.2 i hi)⟩
theorem addP_done {w w5 w6 : World} {g n k : Nat} {F x : List Nat} {S : Nat → Prop} {L : KeptL} {e : Ending} (gk : Good n L ∧ KeptAt F L ∧ S g ∧ ∀ i, S i → i < w.heap.size) (hF : Row21 F) (hx : Sum32 x) (hn : n < 1048576) (hk : k = hgtN n) (ok : addOk L n x = true)
    (k5 : Keeps w w5) (m : Mut (fun i => i = g) w5 w6) (hv : VarC 73 w6 g (stoC n (setH F k x))) (ee : e = .returned (.int .i64 0)) : AddP w (.pointer (some ⟨g, 0, none⟩)) S n L (n : Int) x e (w6.setCell ⟨g, 0, none⟩ (.int .i64 ((n : Int) + 1))) := by
  obtain ⟨hG, hK, sg, sb⟩ := gk
  have k21 : k < 21 := by have := hgt_le (plc n); unfold hgtN at hk; omega
  have he := addE_yes hn ok
  have hw : Wrt g w6 (w6.setCell ⟨g, 0, none⟩ (.int .i64 ((n : Int) + 1))) := (Wrt.refl g w6).set 0 _
  have hm : Mut S w (w6.setCell ⟨g, 0, none⟩ (.int .i64 ((n : Int) + 1))) := ((Mut.of k5 S).trans (m.more fun i q => by rw [q]; exact sg)).trans (Mut.wrt hw sg)
  refine ⟨by rw [ee, he]; rfl, hm, S, ?_, fun i q => Or.inl q⟩
  rw [show addN n L (n : Int) x = n + 1 from if_pos he, show addK n L (n : Int) x = addL L n x from if_pos he]
  have hv2 := hv.setCount (m := n + 1)
  rw [show (((n + 1 : Nat) : Int)) = (n : Int) + 1 from by omega] at hv2
  subst hk
  exact ⟨g, _, rfl, hv2, hF.set k21 hx, kept_addL hF hK hx fun e' _ => (by have := hgt_le (plc e'.1); unfold hgtN; omega), good_add hG hn hx ok, sg, fun i q => Nat.lt_of_lt_of_le (sb i q) hm.size⟩
set_option maxHeartbeats 4000000 in
theorem own10_add_arg (S : Nat → Prop) (v : Value) (n : Nat) (L : KeptL) (no : Int) (x : List Nat) (w : World) (h : St10 w v S n L) (hx : Sum32 x) (hno : ¬ (no = (n : Int) ∧ n < 1048576)) : Calls Tryd.prog 29 #[v, .int .i64 no, .agg (vals8 x).toArray] w (AddP w v S n L no x) := by
  have HH := Lib.hid h
  obtain ⟨g, F, rfl, hg, hF, hK, hG, _⟩ := h
  have EE := Lib.hid (show addE n L no x = 1 from if_neg hno)
  have up := hG.up
  have u0 : (n : Int) ≤ 1048576 := by omega
  obtain ⟨W, eW⟩ : ∃ W, W = w.alloc (.cells (vals8 x).toArray 23) := ⟨_, rfl⟩
  have KW := Lib.hid (show Keeps w W by rw [eW]; exact (Keeps.refl w).alloc _)
  have c0 := (hg.keeps KW.out).count
  have EW := Lib.hid eW
  clear hg hF hK hG eW up
  by_cases hq : no = (n : Int)
  · subst hq
    have hc : (1048576 : Int) ≤ (n : Int) := by omega
    clear hno
    go_enter Tryd.func29, Tryd.ntmps29
    go_upto_region 1 with fail
    change Code.wp _ _ _ _ (w.alloc (.cells (vals8 x).toArray 23))
    rw [← EW.out]
    go_wp2_with fail
    go_ret
    exact addP_same HH.out EE.out (by decide) KW.out rfl
  · have hq2 : (no == (n : Int)) = false := by simpa using hq
    clear hno
    go_enter Tryd.func29, Tryd.ntmps29
    go_upto_region 1 with fail
    change Code.wp _ _ _ _ (w.alloc (.cells (vals8 x).toArray 23))
    rw [← EW.out]
    go_wp2_with fail
    go_ret
    exact addP_same HH.out EE.out (by decide) KW.out rfl
set_option maxHeartbeats 4000000 in
theorem own10_add_go (S : Nat → Prop) (v : Value) (n : Nat) (L : KeptL) (x : List Nat) (w00 : World) (h : St10 w00 v S n L) (hx : Sum32 x) (hn : n < 1048576) (R : Roots10 w00) : Calls Tryd.prog 29 #[v, .int .i64 (n : Int), .agg (vals8 x).toArray] w00 (AddP w00 v S n L (n : Int) x) := by
  have HH := Lib.hid h
  obtain ⟨g, F, rfl, hg, hF, hK, hG, sg, sb⟩ := h
  have HS := Lib.hid hx
  have HF := Lib.hid hF
  have HG := Lib.hid hg
  have RR := Lib.hid R
  have HN := Lib.hid hn
  have GK := Lib.hid (show Good n L ∧ KeptAt F L ∧ S g ∧ ∀ i, S i → i < w00.heap.size from ⟨hG, hK, sg, sb⟩)
  have FE := Lib.hid (add_fits hG hK hn x)
  have EP := Lib.hid (plcI_in (no := n) (by omega))
  have PB := Lib.hid (show plc n < 1048576 by unfold plc; omega)
  have h20 := hgt_le (plc n)
  have CF := Lib.hid (fun w' (k : Keeps w00 w') => own10_fits g n (plc n) F x w' (by omega) hF (hg.keeps k) PB.out hx (fun h q => low_bits hn q) (R.keeps k))
  have CH := Lib.hid (fun w' (r : Roots10 w') => own10_height (plc n) PB.out w' r)
  have n0 : (0 : Int) ≤ (n : Int) := by omega
  have n1 : ¬ (1048576 : Int) ≤ (n : Int) := by omega
  have n2 : (n : Int) ≤ 1048575 := by omega
  have EH := Lib.hid (show hgt (plc n) = hgtN n from rfl)
  rw [EH.out] at CH h20
  obtain ⟨k, ek⟩ : ∃ k, k = hgtN n := ⟨_, rfl⟩
  rw [← ek] at CH h20
  have EK := Lib.hid ek
  have k0 : (0 : Int) ≤ (k : Int) := by omega
  have k1 : (k : Int) < 21 := by omega
  have K21 := Lib.hid (show k < 21 by omega)
  clear hx hg hF hK hG sg sb R hn h20 ek
  obtain ⟨W, eW⟩ : ∃ W, W = w00.alloc (.cells (vals8 x).toArray 23) := ⟨_, rfl⟩
  have KW := Lib.hid (show Keeps w00 W by rw [eW]; exact (Keeps.refl w00).alloc _)
  obtain ⟨z, ez⟩ : ∃ z, z = w00.heap.size := ⟨_, rfl⟩
  have A0 := Lib.hid (show ArrN .u8 256 23 W z x by rw [eW, ez]; exact ArrN.new w00 x HS.out.2)
  have NR := Lib.hid (roots_apart HG.out RR.out)
  have ZG := Lib.hid (show z ≠ g ∧ w00.heap.size ≤ z by have := HG.out.size; omega)
  have c0 := (HG.out.keeps KW.out).count
  have EW := Lib.hid eW
  have EZ := Lib.hid ez
  clear eW ez
  go_enter Tryd.func29, Tryd.ntmps29
  go_upto_region 1 with fail
  change Code.wp _ _ _ _ (w00.alloc (.cells (vals8 x).toArray 23))
  rw [← EW.out, ← EZ.out]
  go_upto_region 3 with fail
  clear c0
  refine region_drawn2 (N := 41) (fix := ([(0, .pointer (some ⟨g, 0, none⟩)), (1, .int .i64 (n : Int)), (5, .pointer (some ⟨z, 0, none⟩)), (6, .int .i64 0)] : List (Tmp × Value)).map (·.1)) (Fix := FixOf [(0, .pointer (some ⟨g, 0, none⟩)), (1, .int .i64 (n : Int)), (5, .pointer (some ⟨z, 0, none⟩)), (6, .int .i64 0)]) (H := Keeps W) (R := StepM W.heap.size) (deps := fun gi => ([[], [], [], [], [], [7]] : List (List Tmp)).getD gi []) (Good := goodOf2 [valA (.int .i64 (n : Int)), valA (.int .i64 (plc n : Int)), valA (.agg (vals8 x).toArray), valA (.agg (plcC (plc n) x).toArray), ptrA W.heap.size 33 75, putA W.heap.size 7 (plcC (plc n) x).toArray 75])
    (by kernel_rfl) (fix_all _) (fun gi gv ga gw gx hl => good_lasts2 (R := StepM W.heap.size) (gs := [valA (.int .i64 (n : Int)), valA (.int .i64 (plc n : Int)), valA (.agg (vals8 x).toArray), valA (.agg (plcC (plc n) x).toArray), ptrA W.heap.size 33 75, putA W.heap.size 7 (plcC (plc n) x).toArray 75]) (k := 0) ⟨Or.inr (valA_lasts _), Or.inr (valA_lasts _), Or.inr (valA_lasts _), Or.inr (valA_lasts _), Or.inr (ptrA_lasts2 _ _ _), Or.inl (by kernel_rfl), trivial⟩ gi gv ga gw gx (by rw [Nat.zero_add]; exact hl)) (fun gi gv ga gb gw hd => good_leans (dss := [[], [], [], [], [], [7]]) (gs := [valA (.int .i64 (n : Int)), valA (.int .i64 (plc n : Int)), valA (.agg (vals8 x).toArray), valA (.agg (plcC (plc n) x).toArray), ptrA W.heap.size 33 75, putA W.heap.size 7 (plcC (plc n) x).toArray 75]) (k := 0) ⟨valA_leans _ _, valA_leans _ _, valA_leans _ _, valA_leans _ _, ptrA_leans _ _ _ _, putA_leans _ _ _ _ (by simp), trivial⟩ gi gv ga gb gw (by rw [Nat.zero_add]; exact hd))
    (by kernel_rfl) (by kernel_rfl) (by kernel_rfl) (by kernel_rfl) rfl ?_ ((Keeps.refl _).drew) ?_ ?_
  · refine ⟨rfl, fun x hx => ?_⟩
    simp only [List.mem_cons, List.not_mem_nil, or_false] at hx
    rcases hx with rfl | rfl | rfl | rfl
    · rfl
    · rfl
    · rfl
    · rfl
  · intro fa w hN hF hH hG'
    obtain ⟨_, _, z7, s7, b7, m7⟩ := hG' 5 _ rfl
    have A7 := Lib.hid (show VarC 75 w z7 (plcC (plc n) x) from m7)
    have B7 := Lib.hid b7
    have A5 := Lib.hid (A0.out.keeps hH)
    have K3 := Lib.hid (KW.out.trans hH)
    have ZG7 := Lib.hid (show z7 ≠ g by have := HG.out.size; have := KW.out.size; omega)
    obtain ⟨tm, df⟩ := fa
    obtain rfl : df = [] := hF.1
    have s0 : Slot ⟨tm, []⟩ 0 (.pointer (some ⟨g, 0, none⟩)) := hF.2 (0, .pointer (some ⟨g, 0, none⟩)) (by simp)
    have s1 : Slot ⟨tm, []⟩ 1 (.int .i64 (n : Int)) := hF.2 (1, .int .i64 (n : Int)) (by simp)
    have s5 : Slot ⟨tm, []⟩ 5 (.pointer (some ⟨z, 0, none⟩)) := hF.2 (5, .pointer (some ⟨z, 0, none⟩)) (by simp)
    have s6 : Slot ⟨tm, []⟩ 6 (.int .i64 0) := hF.2 (6, .int .i64 0) (by simp)
    have ht : tm = #[tm.getD 0 undef, tm.getD 1 undef, tm.getD 2 undef, tm.getD 3 undef, tm.getD 4 undef, tm.getD 5 undef, tm.getD 6 undef, tm.getD 7 undef, tm.getD 8 undef, tm.getD 9 undef, tm.getD 10 undef, tm.getD 11 undef, tm.getD 12 undef, tm.getD 13 undef, tm.getD 14 undef, tm.getD 15 undef, tm.getD 16 undef, tm.getD 17 undef, tm.getD 18 undef, tm.getD 19 undef, tm.getD 20 undef, tm.getD 21 undef, tm.getD 22 undef, tm.getD 23 undef, tm.getD 24 undef, tm.getD 25 undef, tm.getD 26 undef, tm.getD 27 undef, tm.getD 28 undef, tm.getD 29 undef, tm.getD 30 undef, tm.getD 31 undef, tm.getD 32 undef, tm.getD 33 undef, tm.getD 34 undef, tm.getD 35 undef, tm.getD 36 undef, tm.getD 37 undef, tm.getD 38 undef, tm.getD 39 undef, tm.getD 40 undef] := arr_all 41 tm hN
    have g0 : tm.getD 0 undef = .pointer (some ⟨g, 0, none⟩) := s0.getD
    have g1 : tm.getD 1 undef = .int .i64 (n : Int) := s1.getD
    have g5 : tm.getD 5 undef = .pointer (some ⟨z, 0, none⟩) := s5.getD
    have g6 : tm.getD 6 undef = .int .i64 0 := s6.getD
    have g7 : tm.getD 7 undef = .pointer (some ⟨z7, 0, none⟩) := s7.getD
    rw [g0, g1, g5, g6, g7] at ht
    clear s0 g0 s1 g1 s5 g5 s6 g6 s7 g7 hF hG' hN
    generalize tm.getD 2 undef = y2 at ht
    generalize tm.getD 3 undef = y3 at ht
    generalize tm.getD 4 undef = y4 at ht
    generalize tm.getD 8 undef = y8 at ht
    generalize tm.getD 9 undef = y9 at ht
    generalize tm.getD 10 undef = y10 at ht
    generalize tm.getD 11 undef = y11 at ht
    generalize tm.getD 12 undef = y12 at ht
    generalize tm.getD 13 undef = y13 at ht
    generalize tm.getD 14 undef = y14 at ht
    generalize tm.getD 15 undef = y15 at ht
    generalize tm.getD 16 undef = y16 at ht
    generalize tm.getD 17 undef = y17 at ht
    generalize tm.getD 18 undef = y18 at ht
    generalize tm.getD 19 undef = y19 at ht
    generalize tm.getD 20 undef = y20 at ht
    generalize tm.getD 21 undef = y21 at ht
    generalize tm.getD 22 undef = y22 at ht
    generalize tm.getD 23 undef = y23 at ht
    generalize tm.getD 24 undef = y24 at ht
    generalize tm.getD 25 undef = y25 at ht
    generalize tm.getD 26 undef = y26 at ht
    generalize tm.getD 27 undef = y27 at ht
    generalize tm.getD 28 undef = y28 at ht
    generalize tm.getD 29 undef = y29 at ht
    generalize tm.getD 30 undef = y30 at ht
    generalize tm.getD 31 undef = y31 at ht
    generalize tm.getD 32 undef = y32 at ht
    generalize tm.getD 33 undef = y33 at ht
    generalize tm.getD 34 undef = y34 at ht
    generalize tm.getD 35 undef = y35 at ht
    generalize tm.getD 36 undef = y36 at ht
    generalize tm.getD 37 undef = y37 at ht
    generalize tm.getD 38 undef = y38 at ht
    generalize tm.getD 39 undef = y39 at ht
    generalize tm.getD 40 undef = y40 at ht
    subst ht
    clear hH m7 b7
    go_upto_region 5 with (first
      | (refine wpList_load_plc rfl _ rfl (by rfl) A7.out HS.out.1 ?_)
      | (go_at_call 55; (with_reducible refine (CF.out _ K3.out).mono ?_); rintro e w5 ⟨b, rfl, hb, hk5⟩; cases b))
    · have EE := Lib.hid (show addE n L (n : Int) x = 23 from by
        unfold addE
        rw [if_pos ⟨rfl, HN.out⟩, if_neg]
        intro q
        have := hb.2 (FE.out.1 q)
        cases this)
      have K5 := Lib.hid (K3.out.trans hk5)
      clear hb hk5
      go_wp2_with fail
      go_ret
      exact addP_same HH.out EE.out (by decide) K5.out rfl
    · have OK := Lib.hid (FE.out.2 (hb.1 (by trivial)))
      have K5 := Lib.hid (K3.out.trans hk5)
      have A75 := Lib.hid (A7.out.keeps hk5)
      have A55 := Lib.hid (A5.out.keeps hk5)
      have HG5 := Lib.hid (HG.out.keeps K5.out)
      have RM := Lib.hid (fun y (m : Mut (fun i => i = g) w5 y) => (RR.out.keeps K5.out).mut m NR.out)
      clear hb hk5
      have HP : ∀ a y, (Mut (fun i => i = g) w5 a ∧ ∃ F9 : List Nat, VarC 73 a g (stoC n F9) ∧ Row21 F9 ∧ setH F9 k x = setH F k x) → Keeps a y → (Mut (fun i => i = g) w5 y ∧ ∃ F9 : List Nat, VarC 73 y g (stoC n F9) ∧ Row21 F9 ∧ setH F9 k x = setH F k x) := fun a y h q => by
        obtain ⟨h1, F9, h2, h3⟩ := h
        exact ⟨h1.keeps q, F9, h2.keeps q, h3⟩
      refine region_drawn2 (N := 41) (fix := ([(0, .pointer (some ⟨g, 0, none⟩)), (1, .int .i64 (n : Int)), (5, .pointer (some ⟨z, 0, none⟩)), (6, .int .i64 0), (7, .pointer (some ⟨z7, 0, none⟩))] : List (Tmp × Value)).map (·.1)) (Fix := FixOf [(0, .pointer (some ⟨g, 0, none⟩)), (1, .int .i64 (n : Int)), (5, .pointer (some ⟨z, 0, none⟩)), (6, .int .i64 0), (7, .pointer (some ⟨z7, 0, none⟩))]) (H := (fun y => Mut (fun i => i = g) w5 y ∧ ∃ F9 : List Nat, VarC 73 y g (stoC n F9) ∧ Row21 F9 ∧ setH F9 k x = setH F k x)) (R := StayV 73 g (stoC n (setH F k x))) (deps := fun gi => ([[], [], [], [], [], [], [], [], []] : List (List Tmp)).getD gi []) (Good := goodOf2 [valA (.pointer (some ⟨g, 0, none⟩)), valA (.pointer (some ⟨z7, 0, none⟩)), valA (.int .i64 (plc n : Int)), valA (.int .i64 (k : Int)), valA (.agg (vals8 x).toArray), valA (.pointer (some ⟨g, 0, none⟩)), valA (.pointer (some ⟨g, 1, none⟩)), valA (.pointer (some ⟨g, 1 + k * 32, none⟩)), (fun _ _ w => VarC 73 w g (stoC n (setH F k x)))])
        (by kernel_rfl) (fix_all _) (fun gi gv ga gw gx hl => good_lasts2 (R := StayV 73 g (stoC n (setH F k x))) (gs := [valA (.pointer (some ⟨g, 0, none⟩)), valA (.pointer (some ⟨z7, 0, none⟩)), valA (.int .i64 (plc n : Int)), valA (.int .i64 (k : Int)), valA (.agg (vals8 x).toArray), valA (.pointer (some ⟨g, 0, none⟩)), valA (.pointer (some ⟨g, 1, none⟩)), valA (.pointer (some ⟨g, 1 + k * 32, none⟩)), (fun _ _ w => VarC 73 w g (stoC n (setH F k x)))]) (k := 0) ⟨Or.inr (valA_lasts _), Or.inr (valA_lasts _), Or.inr (valA_lasts _), Or.inr (valA_lasts _), Or.inr (valA_lasts _), Or.inr (valA_lasts _), Or.inr (valA_lasts _), Or.inr (valA_lasts _), Or.inr (fun _ _ _ _ h q => h q), trivial⟩ gi gv ga gw gx (by rw [Nat.zero_add]; exact hl)) (fun gi gv ga gb gw hd => good_leans (dss := [[], [], [], [], [], [], [], [], []]) (gs := [valA (.pointer (some ⟨g, 0, none⟩)), valA (.pointer (some ⟨z7, 0, none⟩)), valA (.int .i64 (plc n : Int)), valA (.int .i64 (k : Int)), valA (.agg (vals8 x).toArray), valA (.pointer (some ⟨g, 0, none⟩)), valA (.pointer (some ⟨g, 1, none⟩)), valA (.pointer (some ⟨g, 1 + k * 32, none⟩)), (fun _ _ w => VarC 73 w g (stoC n (setH F k x)))]) (k := 0) ⟨valA_leans _ _, valA_leans _ _, valA_leans _ _, valA_leans _ _, valA_leans _ _, valA_leans _ _, valA_leans _ _, valA_leans _ _, fun _ _ _ _ _ q => q, trivial⟩ gi gv ga gb gw (by rw [Nat.zero_add]; exact hd))
        (by kernel_rfl) (by kernel_rfl) (by kernel_rfl) (by kernel_rfl) rfl ?_ (⟨(Mut.refl _ _).keeps (Keeps.refl _).drew, F, HG5.out.keeps (Keeps.refl _).drew, HF.out, rfl⟩) ?_ ?_
      · refine ⟨rfl, fun x hx => ?_⟩
        simp only [List.mem_cons, List.not_mem_nil, or_false] at hx
        rcases hx with rfl | rfl | rfl | rfl | rfl
        · rfl
        · rfl
        · rfl
        · rfl
        · rfl
      · intro fa w hN hF hH hG'
        obtain ⟨v99, _, hz⟩ := hG' 8 _ rfl
        obtain ⟨tm, df⟩ := fa
        obtain rfl : df = [] := hF.1
        have s0 : Slot ⟨tm, []⟩ 0 (.pointer (some ⟨g, 0, none⟩)) := hF.2 (0, .pointer (some ⟨g, 0, none⟩)) (by simp)
        have ht : tm = #[tm.getD 0 undef, tm.getD 1 undef, tm.getD 2 undef, tm.getD 3 undef, tm.getD 4 undef, tm.getD 5 undef, tm.getD 6 undef, tm.getD 7 undef, tm.getD 8 undef, tm.getD 9 undef, tm.getD 10 undef, tm.getD 11 undef, tm.getD 12 undef, tm.getD 13 undef, tm.getD 14 undef, tm.getD 15 undef, tm.getD 16 undef, tm.getD 17 undef, tm.getD 18 undef, tm.getD 19 undef, tm.getD 20 undef, tm.getD 21 undef, tm.getD 22 undef, tm.getD 23 undef, tm.getD 24 undef, tm.getD 25 undef, tm.getD 26 undef, tm.getD 27 undef, tm.getD 28 undef, tm.getD 29 undef, tm.getD 30 undef, tm.getD 31 undef, tm.getD 32 undef, tm.getD 33 undef, tm.getD 34 undef, tm.getD 35 undef, tm.getD 36 undef, tm.getD 37 undef, tm.getD 38 undef, tm.getD 39 undef, tm.getD 40 undef] := arr_all 41 tm hN
        have g0 : tm.getD 0 undef = .pointer (some ⟨g, 0, none⟩) := s0.getD
        rw [g0] at ht
        clear s0 g0 hF hG' hN
        generalize tm.getD 1 undef = y1 at ht
        generalize tm.getD 2 undef = y2 at ht
        generalize tm.getD 3 undef = y3 at ht
        generalize tm.getD 4 undef = y4 at ht
        generalize tm.getD 5 undef = y5 at ht
        generalize tm.getD 6 undef = y6 at ht
        generalize tm.getD 7 undef = y7 at ht
        generalize tm.getD 8 undef = y8 at ht
        generalize tm.getD 9 undef = y9 at ht
        generalize tm.getD 10 undef = y10 at ht
        generalize tm.getD 11 undef = y11 at ht
        generalize tm.getD 12 undef = y12 at ht
        generalize tm.getD 13 undef = y13 at ht
        generalize tm.getD 14 undef = y14 at ht
        generalize tm.getD 15 undef = y15 at ht
        generalize tm.getD 16 undef = y16 at ht
        generalize tm.getD 17 undef = y17 at ht
        generalize tm.getD 18 undef = y18 at ht
        generalize tm.getD 19 undef = y19 at ht
        generalize tm.getD 20 undef = y20 at ht
        generalize tm.getD 21 undef = y21 at ht
        generalize tm.getD 22 undef = y22 at ht
        generalize tm.getD 23 undef = y23 at ht
        generalize tm.getD 24 undef = y24 at ht
        generalize tm.getD 25 undef = y25 at ht
        generalize tm.getD 26 undef = y26 at ht
        generalize tm.getD 27 undef = y27 at ht
        generalize tm.getD 28 undef = y28 at ht
        generalize tm.getD 29 undef = y29 at ht
        generalize tm.getD 30 undef = y30 at ht
        generalize tm.getD 31 undef = y31 at ht
        generalize tm.getD 32 undef = y32 at ht
        generalize tm.getD 33 undef = y33 at ht
        generalize tm.getD 34 undef = y34 at ht
        generalize tm.getD 35 undef = y35 at ht
        generalize tm.getD 36 undef = y36 at ht
        generalize tm.getD 37 undef = y37 at ht
        generalize tm.getD 38 undef = y38 at ht
        generalize tm.getD 39 undef = y39 at ht
        generalize tm.getD 40 undef = y40 at ht
        subst ht
        have hm6 := hH.1
        have c0 := VarC.count hz
        have f0 := VarC.free hz 0
        clear hH
        go_wp2_with fail
        go_ret
        exact addP_done GK.out HF.out HS.out HN.out EK.out OK.out K5.out hm6 hz rfl
      · refine ⟨?_, ?_, ?_, ?_, ?_, ?_, ?_, ?_, ?_, trivial⟩
        · as_aux_lemma =>
          intro fa w K9 hN hF hH hG' hK
          have s0 : Slot fa 0 (.pointer (some ⟨g, 0, none⟩)) := hF.2 (0, .pointer (some ⟨g, 0, none⟩)) (by simp)
          have e0 := s0.at
          rw [if_pos (wanted_none rfl)]
          refine wp_value (.pointer (some ⟨g, 0, none⟩)) ?_ (hK _ _ hH (StayV.of (Keeps.refl _)) rfl)
          go_simp
        · as_aux_lemma =>
          intro fa w K9 hN hF hH hG' hK
          have s7 : Slot fa 7 (.pointer (some ⟨z7, 0, none⟩)) := hF.2 (7, .pointer (some ⟨z7, 0, none⟩)) (by simp)
          have e7 := s7.at
          rw [if_pos (wanted_none rfl)]
          refine wp_value (.pointer (some ⟨z7, 0, none⟩)) ?_ (hK _ _ hH (StayV.of (Keeps.refl _)) rfl)
          go_simp
        · as_aux_lemma =>
          intro fa w K9 hN hF hH hG' hK
          obtain ⟨x27, s27, rfl⟩ := good_slot hG' 1 _ 27 rfl rfl rfl
          have e27 := s27.at
          rw [if_pos (wanted_none rfl)]
          have c7 : w.cell? ⟨z7, 0, none⟩ = some (.int .i64 (plc n : Int)) := (hH.1.cell A75.out.size ZG7.out).trans A75.out.no
          refine wp_value (.int .i64 (plc n : Int)) ?_ (hK _ _ hH (StayV.of (Keeps.refl _)) rfl)
          go_simp
        · as_aux_lemma =>
          intro fa w K9 hN hF hH hG' hK
          obtain ⟨x28, s28, rfl⟩ := good_slot hG' 2 _ 28 rfl rfl rfl
          have e28 := s28.at
          rw [if_pos (wanted_none rfl)]
          go_simp
          (go_at_call 56; (refine (CH.out _ (RM.out _ hH.1)).mono ?_); rintro e w' ⟨rfl, rfl⟩; have hk := Keeps.refl w)
          exact hK _ _ (HP _ _ hH hk) (StayV.of hk) rfl
        · as_aux_lemma =>
          intro fa w K9 hN hF hH hG' hK
          have s5 : Slot fa 5 (.pointer (some ⟨z, 0, none⟩)) := hF.2 (5, .pointer (some ⟨z, 0, none⟩)) (by simp)
          have e5 := s5.eval
          rw [if_pos (wanted_none rfl)]
          exact wp_load_mid 23 (.tmp 5) rfl z 0 e5 (vals8 x) _ ((show ArrN .u8 256 23 w z x from ⟨A55.out.1, (hH.1.block z A55.out.size ZG.out.1).trans A55.out.2⟩).range) undSum rfl (by rw [show (vals8 x).length = 32 by rw [vals8, List.length_map]; exact HS.out.1]; exact sizSum) (hK _ _ hH (StayV.of (Keeps.refl _)) rfl)
        · as_aux_lemma =>
          intro fa w K9 hN hF hH hG' hK
          obtain ⟨x26, s26, rfl⟩ := good_slot hG' 0 _ 26 rfl rfl rfl
          have e26 := s26.at
          rw [if_pos (wanted_none rfl)]
          refine wp_value (.pointer (some ⟨g, 0, none⟩)) ?_ (hK _ _ hH (StayV.of (Keeps.refl _)) rfl)
          go_simp
        · as_aux_lemma =>
          intro fa w K9 hN hF hH hG' hK
          obtain ⟨x31, s31, rfl⟩ := good_slot hG' 5 _ 31 rfl rfl rfl
          have e31 := s31.at
          rw [if_pos (wanted_none rfl)]
          refine wp_value (.pointer (some ⟨g, 1, none⟩)) ?_ (hK _ _ hH (StayV.of (Keeps.refl _)) rfl)
          go_simp
        · as_aux_lemma =>
          intro fa w K9 hN hF hH hG' hK
          obtain ⟨x32, s32, rfl⟩ := good_slot hG' 6 _ 32 rfl rfl rfl
          have e32 := s32.at
          obtain ⟨x29, s29, rfl⟩ := good_slot hG' 3 _ 29 rfl rfl rfl
          have e29 := s29.at
          rw [if_pos (wanted_none rfl)]
          refine wp_value (.pointer (some ⟨g, 1 + k * 32, none⟩)) ?_ (hK _ _ hH (StayV.of (Keeps.refl _)) rfl)
          go_simp
        · as_aux_lemma =>
          intro fa w K9 hN hF hH hG' hK
          obtain ⟨x33, s33, rfl⟩ := good_slot hG' 7 _ 33 rfl rfl rfl
          have e33 := s33.eval
          obtain ⟨x30, s30, rfl⟩ := good_slot hG' 4 _ 30 rfl rfl rfl
          have e30 := s30.eval
          rw [if_pos (wanted_none rfl)]
          obtain ⟨F9, hv, hF9, h9⟩ := hH.2
          refine wp_store_mid 23 _ _ rfl g (1 + k * 32) (cellsK .u8 x).toArray e33 e30 (by rw [List.size_toArray, cellsK_len, HS.out.1]; exact hv.thereSec hF9 K21.out) (by rw [List.size_toArray, cellsK_len, HS.out.1]; exact sizSum) (cellsK_one _ _) ?_
          have hv2 := hv.setSec hF9 K21.out HS.out
          rw [h9] at hv2
          exact hK _ _ ⟨hH.1.trans (Mut.wrt ((Wrt.refl g w).setCells _ _) rfl), _, hv2, HF.out.set K21.out HS.out, set_twice HF.out K21.out HS.out⟩ (fun _ => hv2) hv2
  · refine ⟨?_, ?_, ?_, ?_, ?_, ?_, trivial⟩
    · as_aux_lemma =>
      intro fa w K9 hN hF hH hG' hK
      have s1 : Slot fa 1 (.int .i64 (n : Int)) := hF.2 (1, .int .i64 (n : Int)) (by simp)
      have e1 := s1.at
      rw [if_pos (wanted_none rfl)]
      refine wp_value (.int .i64 (n : Int)) ?_ (hK _ _ hH (StepM.of (Keeps.refl _)) rfl)
      go_simp
    · as_aux_lemma =>
      intro fa w K9 hN hF hH hG' hK
      obtain ⟨x18, s18, rfl⟩ := good_slot hG' 0 _ 18 rfl rfl rfl
      have e18 := s18.at
      rw [if_pos (wanted_none rfl)]
      go_simp
      (go_at_call 54; (refine (own10_place (n : Int) w).mono ?_); rw [EP.out]; rintro e w' ⟨rfl, rfl⟩; have hk := Keeps.refl w)
      exact hK _ _ (hH.trans hk) (StepM.of hk) rfl
    · as_aux_lemma =>
      intro fa w K9 hN hF hH hG' hK
      have s5 : Slot fa 5 (.pointer (some ⟨z, 0, none⟩)) := hF.2 (5, .pointer (some ⟨z, 0, none⟩)) (by simp)
      have e5 := s5.eval
      rw [if_pos (wanted_none rfl)]
      exact wp_load_mid 23 (.tmp 5) rfl z 0 e5 (vals8 x) _ ((A0.out.keeps hH).range) undSum rfl (by rw [show (vals8 x).length = 32 by rw [vals8, List.length_map]; exact HS.out.1]; exact sizSum) (hK _ _ hH (StepM.of (Keeps.refl _)) rfl)
    · as_aux_lemma =>
      intro fa w K9 hN hF hH hG' hK
      obtain ⟨x19, s19, rfl⟩ := good_slot hG' 1 _ 19 rfl rfl rfl
      have e19 := s19.at
      obtain ⟨x20, s20, rfl⟩ := good_slot hG' 2 _ 20 rfl rfl rfl
      have e20 := s20.at
      rw [if_pos (wanted_none rfl)]
      refine wp_value (.agg (plcC (plc n) x).toArray) ?_ (hK _ _ hH (StepM.of (Keeps.refl _)) rfl)
      have hl : (vals8 (x)).length = 32 := by rw [vals8, List.length_map]; exact HS.out.1
      have hf : List.foldl (fun cs x => cs.setIfInBounds (1 + x.snd) x.fst) #[.int .i64 (plc n : Int), .int .u8 0, .int .u8 0, .int .u8 0, .int .u8 0, .int .u8 0, .int .u8 0, .int .u8 0, .int .u8 0, .int .u8 0, .int .u8 0, .int .u8 0, .int .u8 0, .int .u8 0, .int .u8 0, .int .u8 0, .int .u8 0, .int .u8 0, .int .u8 0, .int .u8 0, .int .u8 0, .int .u8 0, .int .u8 0, .int .u8 0, .int .u8 0, .int .u8 0, .int .u8 0, .int .u8 0, .int .u8 0, .int .u8 0, .int .u8 0, .int .u8 0, .int .u8 0] (vals8 (x)).zipIdx = (plcC (plc n) (x)).toArray := fold_set [.int .i64 (plc n : Int)] (List.replicate 32 (.int .u8 0)) (vals8 (x)) (by rw [hl]; rfl)
      go_simp
    · as_aux_lemma =>
      intro fa w K9 hN hF hH hG' hK
      rw [if_pos (wanted_none rfl)]
      go_simp
      exact hK _ _ (hH.alloc _) (StepM.of ((Keeps.refl _).alloc _)) ⟨_, _, rfl, hH.size, (MapKept.heap_alloc w _).1, rfl⟩
    · as_aux_lemma =>
      intro fa w K9 hN hF hH hG' hK
      obtain ⟨x7, s7, g7, cs7, rfl, b7, m7, n7⟩ := good_slot hG' 4 _ 7 rfl rfl rfl
      have e7 := s7.eval
      obtain ⟨x21, s21, rfl⟩ := good_slot hG' 3 _ 21 rfl rfl rfl
      have e21 := s21.eval
      rw [if_pos (wanted_none rfl)]
      refine wp_store_var (cs := plcC (plc n) x) (by rw [plc_len HS.out.1]; exact sizPlc) (plc_one _ _) _ _ rfl e7 e21 m7 (by rw [n7, plc_len HS.out.1]) ?_
      exact hK _ _ (below_setRow' hH b7 _) (StepM.row m7 b7 (by rw [n7, List.size_toArray, plc_len HS.out.1])) ⟨_, s7.put_other (by simp) _, b7, setRow_heap _ _ _ _ _ _ m7⟩
end Go.Proofs.YtfdfbpgljiakgaaDoor
/- The document's own Read: what it finds, as numbers. -/
namespace Go.Proofs.YtfdfbpgljiakgaaDoor
open Go.RowKit Go.HashMath Go.CodeMath

/-- So many heights were looked at: of each the last number below n is there, with a sum. -/
structure NosOk (n h : Nat) (K : KeptL) : Prop where
  rise : K.Pairwise fun e f => hgtN e.1 < hgtN f.1
  last : ∀ e ∈ K, IsLast n (hgtN e.1) e.1
  low : ∀ e ∈ K, hgtN e.1 < h
  all : ∀ no, no < n → hgtN no < h → ∃ e ∈ K, hgtN e.1 = hgtN no
  sums : ∀ e ∈ K, Sum32 e.2
theorem nos_none (n : Nat) : NosOk n 0 [] := ⟨List.Pairwise.nil, fun _ q => absurd q List.not_mem_nil, fun _ q => absurd q List.not_mem_nil, fun _ _ q => absurd q (Nat.not_lt_zero _), fun _ q => absurd q List.not_mem_nil⟩
theorem nos_some {n h : Nat} {K : KeptL} {no : Nat} {x : List Nat} (g : NosOk n h K) (hl : IsLast n h no) (hx : Sum32 x) : NosOk n (h + 1) (K ++ [(no, x)]) := by
  refine ⟨List.pairwise_append.2 ⟨g.rise, List.pairwise_singleton _ _, fun e he f hf => ?_⟩, fun e he => ?_, fun e he => ?_, fun k hk hh => ?_, fun e he => ?_⟩
  · rw [List.mem_singleton] at hf; rw [hf, hl.2.1]; exact g.low e he
  · rcases List.mem_append.1 he with q | q
    · exact g.last e q
    · rw [List.mem_singleton] at q; rw [q]; show IsLast n (hgtN no) no; rw [hl.2.1]; exact hl
  · rcases List.mem_append.1 he with q | q
    · exact Nat.lt_succ_of_lt (g.low e q)
    · rw [List.mem_singleton] at q; rw [q]; show hgtN no < h + 1; rw [hl.2.1]; exact Nat.lt_succ_self h
  · by_cases e : hgtN k < h
    · obtain ⟨f, hf, q⟩ := g.all k hk e
      exact ⟨f, List.mem_append_left _ hf, q⟩
    · exact ⟨(no, x), List.mem_append_right _ (List.mem_singleton.2 rfl), by show hgtN no = hgtN k; rw [hl.2.1]; omega⟩
  · rcases List.mem_append.1 he with q | q
    · exact g.sums e q
    · rw [List.mem_singleton] at q; rw [q]; exact hx
theorem nos_skip {n h : Nat} {K : KeptL} (g : NosOk n h K) (hl : ∀ k, k < n → hgtN k ≠ h) : NosOk n (h + 1) K :=
  ⟨g.rise, g.last, fun e he => Nat.lt_succ_of_lt (g.low e he), fun k hk hh => g.all k hk (by have := hl k hk; omega), g.sums⟩
theorem nos_few {n h : Nat} {K : KeptL} (g : NosOk n h K) : K.length ≤ h := by
  have := rise_len K 0 h g.rise (fun _ _ => Nat.zero_le _) g.low (Nat.zero_le _)
  omega
/-- What is left of R behind the sums that were read. -/
def RestOk (R : List Nat) (K : KeptL) (s : St) : Prop := (∃ xs, s = some xs ∧ sumsL K ++ xs = R) ∨ (s = none ∧ R.length < 32 * K.length)
theorem sums_snoc (K : KeptL) (e : Nat × List Nat) : sumsL (K ++ [e]) = sumsL K ++ e.2 := by simp [sumsL]
theorem sum_has {s : St} (h : Fine s) : Sum32 (sumO (hasO s)) := by
  cases s with
  | none => exact zero_sum
  | some xs =>
    show Sum32 (sumO (takeO 32 (some xs)))
    by_cases g : 32 ≤ xs.length
    · rw [show takeO 32 (some xs) = some (xs.take 32, xs.drop 32) from if_pos g]
      exact ⟨by show (xs.take 32).length = 32; rw [List.length_take]; omega, fun x hx => h x (List.mem_of_mem_take hx)⟩
    · rw [show takeO 32 (some xs) = none from if_neg g]; exact zero_sum
theorem rest_next {R : List Nat} {K : KeptL} {s : St} (h : RestOk R K s) (hs : ∀ e ∈ K, Sum32 e.2) (no : Nat) : RestOk R (K ++ [(no, sumO (hasO s))]) (restO (hasO s)) := by
  rw [RestOk, sums_snoc, List.length_append]
  rcases h with ⟨xs, rfl, e⟩ | ⟨rfl, e⟩
  · show (∃ ys, restO (takeO 32 (some xs)) = some ys ∧ (sumsL K ++ sumO (takeO 32 (some xs))) ++ ys = R) ∨ (restO (takeO 32 (some xs)) = none ∧ _)
    by_cases g : 32 ≤ xs.length
    · rw [show takeO 32 (some xs) = some (xs.take 32, xs.drop 32) from if_pos g]
      exact Or.inl ⟨xs.drop 32, rfl, by show (sumsL K ++ xs.take 32) ++ xs.drop 32 = R; rw [List.append_assoc, List.take_append_drop]; exact e⟩
    · rw [show takeO 32 (some xs) = none from if_neg g]
      refine Or.inr ⟨rfl, ?_⟩
      rw [← e, List.length_append, sums_len hs]
      simp
      omega
  · exact Or.inr ⟨rfl, by simp; omega⟩
theorem nos_same {n : Nat} {K L : KeptL} (g : NosOk n 21 K) (g' : Good n L) : K.map (·.1) = L.map (·.1) := by
  have h21 : ∀ k, hgtN k < 21 := fun k => Nat.lt_succ_of_le (hgt_le _)
  refine rise_ext hgtN _ _ (List.pairwise_map.2 g.rise) (List.pairwise_map.2 g'.rise) fun x => ⟨fun hx => ?_, fun hx => ?_⟩
  · obtain ⟨e, he, rfl⟩ := List.mem_map.1 hx
    have le := g.last e he
    obtain ⟨f, hf, hh⟩ := g'.all e.1 le.1
    have lf := g'.last f hf
    have : f.1 = e.1 := by
      rcases Nat.lt_trichotomy f.1 e.1 with q | q | q
      · exact absurd hh.symm (lf.2.2 e.1 q le.1)
      · exact q
      · exact absurd hh (le.2.2 f.1 q lf.1)
    exact List.mem_map.2 ⟨f, hf, this⟩
  · obtain ⟨e, he, rfl⟩ := List.mem_map.1 hx
    have le := g'.last e he
    obtain ⟨f, hf, hh⟩ := g.all e.1 le.1 (h21 _)
    have lf := g.last f hf
    have : f.1 = e.1 := by
      rcases Nat.lt_trichotomy f.1 e.1 with q | q | q
      · exact absurd hh.symm (lf.2.2 e.1 q le.1)
      · exact q
      · exact absurd hh (le.2.2 f.1 q lf.1)
    exact List.mem_map.2 ⟨f, hf, this⟩
/-- What one comes to from the one is the other. -/
def Pair (e f : Nat × List Nat) : Prop := comesP (plc e.1) (plc f.1) = true → toS e.2 (hgtN e.1) (plc f.1) = f.2
theorem good_read {n : Nat} {K : KeptL} (g : NosOk n 21 K) (hn : n ≤ 1048576) (h : ∀ (i k : Nat) (e f : Nat × List Nat), k < i → K[i]? = some e → K[k]? = some f → Pair e f) : Good n K := by
  refine ⟨hn, g.rise, g.last, fun no q => g.all no q (Nat.lt_succ_of_le (hgt_le _)), g.sums, fun e he f hf hc => ?_⟩
  obtain ⟨i, hi⟩ := List.getElem?_of_mem he
  obtain ⟨k, hk⟩ := List.getElem?_of_mem hf
  rcases Nat.lt_trichotomy k i with q | q | q
  · exact h i k e f q hi hk hc
  · subst q
    rw [hi] at hk
    obtain rfl := Option.some.inj hk
    exact to_nought _ _ (hgt_mod _)
  · exfalso
    have hr : hgtN e.1 < hgtN f.1 := by
      obtain ⟨q1, q2⟩ := List.getElem?_eq_some_iff.1 hi
      obtain ⟨q3, q4⟩ := List.getElem?_eq_some_iff.1 hk
      have := List.pairwise_iff_getElem.1 g.rise i k q1 q3 q
      rw [q2, q4] at this
      exact this
    have hle := comes_le hc
    rcases Nat.eq_or_lt_of_le hle with z | z
    · unfold hgtN at hr; rw [z] at hr; exact Nat.lt_irrefl _ hr
    · have := hgt_between z hc
      unfold hgtN at hr
      omega
/-- Bytes that are some store's. -/
theorem isRead_of {b R : List Nat} {n m : Nat} {L : KeptL} (hb : ∀ x ∈ b, x < 256) (er : readN 9 0 1 b = some (m, R)) (h : IsRead b n L) : n = m ∧ sumsL L = R := by
  have r1 := read_row (n := n) (by have := h.1.up; omega) (sumsL L)
  rw [show row n ++ sumsL L = b from h.2, er] at r1
  simp only [Option.some.injEq, Prod.mk.injEq] at r1
  exact ⟨r1.1.symm, r1.2.symm⟩
theorem isRead_none {b : List Nat} (er : readN 9 0 1 b = none) (n : Nat) (L : KeptL) : ¬ IsRead b n L := fun h => by
  have r1 := read_row (n := n) (by have := h.1.up; omega) (sumsL L)
  rw [show row n ++ sumsL L = b from h.2, er] at r1
  cases r1
theorem isRead_yes {b : List Nat} {n : Nat} {K : KeptL} (hb : ∀ x ∈ b, x < 256) (er : readN 9 0 1 b = some (n, sumsL K)) (g : Good n K) : IsRead b n K := ⟨g, ((row_read hb er).2).symm⟩
theorem isRead_same {b R : List Nat} {n m : Nat} {K L : KeptL} (hb : ∀ x ∈ b, x < 256) (er : readN 9 0 1 b = some (m, R)) (g : NosOk m 21 K) (h : IsRead b n L) : K.length = L.length ∧ R.length = 32 * K.length ∧ (sumsL K = R → K = L) := by
  obtain ⟨rfl, e⟩ := isRead_of hb er h
  have hn := nos_same g h.1
  have hl : K.length = L.length := by have := congrArg List.length hn; simpa using this
  refine ⟨hl, by rw [← e, sums_len h.1.sums, hl], fun q => sums_same g.sums h.1.sums hn (q.trans e.symm)⟩
end Go.Proofs.YtfdfbpgljiakgaaDoor
/- Package shachain's own Read: what it finds, as numbers and in memory. -/
namespace Go.Proofs.YtfdfbpgljiakgaaDoor
open Go.RowKit Go.HashMath Go.CodeMath

/-- Each that was read is of its height, and stands there. -/
def Stands (n : Nat) (F : List Nat) (K : KeptL) : Prop := ∀ (i : Nat) (e : Nat × List Nat), K[i]? = some e → e = (kno n i, secH F i)
theorem stands_more {n h : Nat} {F x : List Nat} {K : KeptL} (hF : Row21 F) (hh : h < 21) (hx : Sum32 x) (hl : K.length = h) (s : Stands n F K) : Stands n (setH F h x) (K ++ [(kno n h, x)]) := fun i e he => by
  rcases Nat.lt_trichotomy i h with q | q | q
  · rw [List.getElem?_append_left (by omega)] at he
    rw [sec_set_other hF hh (by omega) hx (by omega)]
    exact s i e he
  · subst q
    rw [List.getElem?_append_right (by omega), hl, Nat.sub_self] at he
    rw [sec_set_same hF hh hx]
    exact (Option.some.inj he).symm
  · rw [List.getElem?_eq_none (by simp; omega)] at he; cases he
theorem stands_kept {n : Nat} {F : List Nat} {K : KeptL} (hn : n ≤ 1048576) (hl : K.length ≤ Lib.bitLen n) (s : Stands n F K) : KeptAt F K := fun e he => by
  obtain ⟨i, hi⟩ := List.getElem?_of_mem he
  have hb : i < K.length := (List.getElem?_eq_some_iff.1 hi).1
  have := s i e hi
  rw [this]
  show secH F (hgtN (kno n i)) = secH F i
  rw [kno_height hn (by omega)]
theorem nos_up {n : Nat} {K : KeptL} (hn : n ≤ 1048576) (g : NosOk n (Lib.bitLen n) K) : NosOk n 21 K := by
  have b21 := bit_21 hn
  refine ⟨g.rise, g.last, fun e he => Nat.lt_of_lt_of_le (g.low e he) b21, fun no hno _ => g.all no hno ?_, g.sums⟩
  refine (bit_lt (by omega)).2 ?_
  have h20 := hgt_le (plc no)
  rcases Nat.lt_or_ge (hgtN no) 20 with q | q
  · obtain ⟨c, hc⟩ := hgtN_form (k := no) (by omega) rfl q
    have : 2 ^ hgtN no * 1 ≤ 2 ^ hgtN no * (2 * c + 1) := Nat.mul_le_mul_left _ (by omega)
    omega
  · have e : hgtN no = 20 := by unfold hgtN at q ⊢; omega
    have := plc_20 (n := no) (by omega) e
    have t : (2 : Nat) ^ 20 = 1048576 := by decide
    rw [e, t]; omega
/-- All that is kept fits just if the store can be reached. -/
theorem whole_good {n : Nat} {F : List Nat} {K : KeptL} (hn : n ≤ 1048576) (g : NosOk n (Lib.bitLen n) K) (hl : K.length = Lib.bitLen n) (s : Stands n F K) : (∀ k, k < Lib.bitLen n → ∀ j, j < k → fitAt n F (plc (kno n k)) (secH F k) j) ↔ Good n K := by
  constructor
  · intro h
    refine good_read (nos_up hn g) hn fun i k e f hk hi hf hc => ?_
    have h1 := s i e hi
    have h2 := s k f hf
    have hb : i < K.length := (List.getElem?_eq_some_iff.1 hi).1
    subst h1 h2
    have q := h i (by omega) k hk
    unfold fitAt at q
    exact q hc
  · intro h k hk j hj hc
    have h1 : K[k]? = some (kno n k, secH F k) := by
      rw [List.getElem?_eq_getElem (by omega)]
      exact congrArg some (s k _ (List.getElem?_eq_getElem (by omega)))
    have h2 : K[j]? = some (kno n j, secH F j) := by
      rw [List.getElem?_eq_getElem (by omega)]
      exact congrArg some (s j _ (List.getElem?_eq_getElem (by omega)))
    exact h.one _ (List.mem_of_getElem? h1) _ (List.mem_of_getElem? h2) hc
/-- No store has these bytes. -/
theorem read_bad {b R : List Nat} {n : Nat} {K : KeptL} {s : St} (hb : ∀ x ∈ b, x < 256) (er : readN 9 0 1 b = some (n, R)) (hn : n ≤ 1048576) (g : NosOk n (Lib.bitLen n) K) (r : RestOk R K s) (bad : s = none ∨ (leftO s).length ≠ 0 ∨ ¬ Good n K) : ∀ m M, ¬ IsRead b m M := fun m M h => by
  obtain ⟨h1, h2, h3⟩ := isRead_same hb er (nos_up hn g) h
  obtain ⟨e1, _⟩ := isRead_of hb er h
  subst e1
  rcases r with ⟨xs, rfl, e⟩ | ⟨rfl, e⟩
  · have hx : xs = [] := by
      have := congrArg List.length e
      rw [List.length_append, sums_len g.sums, h2] at this
      exact List.eq_nil_of_length_eq_zero (by omega)
    subst hx
    rcases bad with q | q | q
    · cases q
    · exact q rfl
    · rw [List.append_nil] at e
      rw [h3 e] at q
      exact q h.1
  · omega
theorem read_good {b R : List Nat} {n : Nat} {K : KeptL} {xs : List Nat} (hb : ∀ x ∈ b, x < 256) (er : readN 9 0 1 b = some (n, R)) (r : RestOk R K (some xs)) (hx : xs.length = 0) (g : Good n K) : IsRead b n K := by
  rcases r with ⟨ys, e0, e⟩ | ⟨e, _⟩
  · cases e0
    rw [List.eq_nil_of_length_eq_zero hx, List.append_nil] at e
    subst e
    exact isRead_yes hb er g
  · cases e
end Go.Proofs.YtfdfbpgljiakgaaDoor
/- Package shachain's own Read. -/
namespace Go.Proofs.YtfdfbpgljiakgaaDoor
open Go.RowKit Go.HashMath Go.CodeMath

def ReadEnd10 (w00 : World) (b : List Nat) (e : Ending) (w' : World) : Prop := (∃ n L u S, IsRead b n L ∧ e = .returned (.tuple #[u, .bool true]) ∧ St10 w' u S n L ∧ Keeps w00 w' ∧ ∀ i, S i → w00.heap.size ≤ i) ∨ ((∀ n L, ¬ IsRead b n L) ∧ e = .returned (.tuple #[.pointer none, .bool false]) ∧ Keeps w00 w')
theorem sto_set (n : Nat) (F : List Nat) : (stoC 0 F).set 0 (.int .i64 (n : Int)) = stoC n F := by simp [stoC]
end Go.Proofs.YtfdfbpgljiakgaaDoor
/- Package shachain's contracts, and the tables that come in. -/
namespace Go.Proofs.YtfdfbpgljiakgaaDoor
open Go.RowKit Go.HashMath Go.CodeMath

theorem own10_add (S : Nat → Prop) (v : Value) (n : Nat) (L : KeptL) (no : Int) (x : List Nat) (w : World) (h : St10 w v S n L) (hx : Sum32 x) (R : Roots10 w) : Calls Tryd.prog 29 #[v, .int .i64 no, .agg (vals8 x).toArray] w (AddP w v S n L no x) := by
  by_cases g : no = (n : Int) ∧ n < 1048576
  · obtain ⟨rfl, hn⟩ := g; exact own10_add_go S v n L x w h hx hn R
  · exact own10_add_arg S v n L no x w h hx g
theorem sha_here : ShaC Roots10 St10 where
  slasts := st10_lasts
  sgood := st10_good
  sbound := st10_bound
  ssome := st10_some
  csecret := fun seed no w hs h0 h1 R => own10_secret seed no w hs h0 h1 R
  cnew := fun w _ => own10_new w
  cadd := fun S v n L no x w h hx _ _ R => own10_add S v n L no x w h hx R
  cget := fun S v n L no w h h0 h1 R => own10_get S v n L no w h h0 h1 R
  csize := own10_size
theorem roots_lasting10 : Lasting10 Roots10 := fun _ _ h k => h.keeps k
theorem sums10_here : Sum10 Roots10 where
  csum := fun v bs w h hl R => sum_at v bs w h hl R.1
/-- The tables that the program lays. -/
def laidRoots10 : List (String × DataW Unit) := [("math/bits.deBruijn32tab", Rows.laid_math_bits_deBruijn32tab), ("math/bits.deBruijn64tab", Rows.laid_math_bits_deBruijn64tab), ("corsned/hash.roots", Rows.laid_corsned_hash_roots)]
theorem roots_in10 {w : World} (h : laidMetH Tryd.prog laidRoots10 w) : Roots10 w := by
  rw [MakeChecks.laidMetH_plain _ _ _ (by kernel_rfl)] at h
  have e : laidRoots10 = [("math/bits.deBruijn32tab", Lib.tabData .u8 (Lib.deBruijn32tab.map fun x : Nat => (x : Int))), ("math/bits.deBruijn64tab", Lib.tabData .u8 (Lib.deBruijn64tab.map fun x : Nat => (x : Int))), ("corsned/hash.roots", Lib.tabData .u32 (addW.map fun x : Nat => (x : Int)))] := by kernel_rfl
  rw [e] at h
  have h2 := h.tail
  have h3 := h2.tail
  have t2 := Lib.tabIs_of_head (g := 3) (t := 109) (e := 5) (n := 64) (by kernel_rfl) (by kernel_rfl) Tryd.underlying109 Tryd.underlying5 (by kernel_rfl) (by kernel_rfl) h2
  have t3 := Lib.tabIs_of_head (g := 4) (t := 131) (e := 107) (n := 64) (by kernel_rfl) (by kernel_rfl) Tryd.underlying131 Tryd.underlying107 (by kernel_rfl) (by kernel_rfl) h3
  have c3 : ∀ i, i < 64 → w.cell? ⟨4, i, none⟩ = some (.int .u32 ((addW.getD i 0 : Nat) : Int)) := fun i hi => by
    have hl : addW.length = 64 := by decide
    have := t3.cell (g := 4) (by kernel_rfl) i (by rw [List.length_map, hl]; exact hi)
    rw [this]
    simp [List.getD, hl, hi]
  have c2 : ∀ i, i < 64 → w.cell? ⟨3, i, none⟩ = some (.int .u8 ((Lib.deBruijn64tab.getD i 0 : Nat) : Int)) := fun i hi => by
    have hl : Lib.deBruijn64tab.length = 64 := by decide
    have := t2.cell (g := 3) (by kernel_rfl) i (by rw [List.length_map, hl]; exact hi)
    rw [this]
    simp [List.getD, hl, hi]
  exact ⟨⟨(spot_none (c3 0 (by decide))).2, c3⟩, (spot_none (c2 0 (by decide))).2, c2⟩
end Go.Proofs.YtfdfbpgljiakgaaDoor
/- Package keys: a seed's sums, factors, what is mixed. -/
namespace Go.Proofs.YtfdfbpgljiakgaaDoor
open Go.RowKit Go.FieldMath Go.PointMath Go.HashMath Go.CodeMath

theorem u8_shr11 (n k : Nat) : (n : Int) / 2 ^ k % 256 = ((n / 2 ^ k % 256 : Nat) : Int) := by
  rw [Int.natCast_emod, Int.natCast_ediv, Int.natCast_pow]; rfl
theorem VarC.put11 {T : TypeId} {w : World} {z : Nat} {cs : List Value} (h : VarC T w z cs) (i : Nat) (v : Value) : VarC T (w.setCell ⟨z, i, none⟩ v) z (cs.set i v) := by
  have e : (w.setCell ⟨z, i, none⟩ v).heap[z]? = some (.cells (cs.toArray.setIfInBounds i v) T (0, 0)) := by
    simp [World.setCell, Array.getElem?_modify, show w.heap[z]? = _ from h]
  unfold VarC
  rw [e]
  simp
theorem Row8.other11 {w : World} {G Q i : Nat} {os : List Nat} {v : Value} (h : Row8 w G os) (hn : G ≠ Q) : Row8 (w.setCell ⟨Q, i, none⟩ v) G os := ⟨h.1, (Below.heap_setCell _ _ _ _ hn).trans h.2⟩
def Eight11 (W : World) (z n : Nat) (si : Value) (wr : World) : Prop := ∃ k : Nat, k ≤ 8 ∧ si = .int .i64 (k : Int) ∧ Row8 wr z ((big 8 n).take k ++ (List.replicate 8 0).drop k) ∧ Keeps W wr
set_option maxHeartbeats 1000000 in
theorem own11_eight (n : Nat) (hn : n < 18446744073709551616) (w : World) : Calls Tryd.prog 74 #[.int .u64 (n : Int)] w (fun e w' => ∃ g, e = .returned (.slice (some ⟨g, 0, none⟩) 8 8) ∧ w.heap.size ≤ g ∧ Row8 w' g (big 8 n) ∧ Keeps w w') := by
  have n0 : (0 : Int) ≤ (n : Int) := by omega
  have n1 : (n : Int) ≤ 18446744073709551615 := by omega
  have hmk := run_make_row' (P := Tryd.prog) 83 5 (.int .u8 0) 1 Tryd.underlying83 info8 rfl .i64 .i64 8 (by omega) (by omega)
  rw [show ((8 : Nat) : Int) = 8 from rfl] at hmk
  clear hn
  go_enter Tryd.func74, Tryd.ntmps74
  go_upto_region 2 with fail
  obtain ⟨W, eW⟩ : ∃ W, W = w.alloc (.cells (madeCells #[.int .u8 0] 8) 5) := ⟨_, rfl⟩
  have A0 : Row8 W w.heap.size (List.replicate 8 0) := by rw [eW]; exact row_made8 w 8
  have K0 : Keeps w W := by rw [eW]; exact (Keeps.refl w).alloc _
  change Code.wp _ _ _ _ (w.alloc (.cells (madeCells #[.int .u8 0] 8) 5))
  rw [← eW]
  obtain ⟨z, ez⟩ : ∃ z, z = w.heap.size := ⟨_, rfl⟩
  rw [← ez] at A0 ⊢
  have A0 := Lib.hid A0
  have K0 := Lib.hid K0
  have Z := Lib.hid ez
  clear eW ez hmk
  go_wp2_with fail
  go_loopw [8] (fun si wr => Eight11 w z n si wr) (fun si _ => 8 - (intOf si).toNat)
  case atStart => exact ⟨0, by omega, rfl, A0.out, K0.out⟩
  case round =>
    clear A0
    obtain ⟨k, hk, rfl, hA, hB⟩ := hrel
    by_cases g : k < 8
    · have NX := Lib.hid (swap_next (big 8 n) (List.replicate 8 0) k (by rw [big_len]; exact g) (by rw [List.length_replicate]; exact g))
      rw [big_at8 n k g] at NX
      obtain ⟨L0, eL⟩ : ∃ L0, L0 = (big 8 n).take k ++ (List.replicate 8 0).drop k := ⟨_, rfl⟩
      rw [← eL] at hA NX
      have hl : L0.length = 8 := by rw [eL, List.length_append, List.length_take, List.length_drop, big_len, List.length_replicate]; omega
      have c := hA.cell k (by omega)
      have f := hA.free k
      obtain ⟨s, es⟩ : ∃ s, s = 56 - 8 * k := ⟨_, rfl⟩
      rw [← es] at NX
      have e1 : IntKind.i64.wrap (8 * (k : Int)) = 8 * (k : Int) := IntWalk.i64_in _ (by omega)
      have e2 : IntKind.i64.wrap (56 - 8 * (k : Int)) = (s : Int) := by rw [IntWalk.i64_in _ (by omega)]; omega
      have s0 : (0 : Int) ≤ (s : Int) := by omega
      have s1 : ¬ (s : Int) < 0 := by omega
      have s2 : min s 64 = s := by omega
      have k0 : (0 : Int) ≤ (k : Int) := by omega
      have k1 : (k : Int) < 8 := by omega
      have U := Lib.hid (u8_shr11 n s)
      have HA := Lib.hid hA
      have HB := Lib.hid hB
      have KB := Lib.hid g
      generalize L0.getD k 0 = v0 at *
      clear hA hB g hk es eL hl
      go_wp2_with fail
      rw [U.out]
      have HA2 := Lib.hid (HA.out.set k (n / 2 ^ s % 256) (Nat.mod_lt _ (by decide)))
      rw [NX.out] at HA2
      go_roundw
      case rel => exact ⟨k + 1, KB.out, by go_num, HA2.out, Below.setCell HB.out (by rw [Z.out]; exact Nat.le_refl _) _⟩
      case measure => have := KB.out; simp [intOf] <;> omega
    · obtain rfl : k = 8 := by omega
      have e8 : (big 8 n).take 8 ++ (List.replicate 8 0).drop 8 = big 8 n := by rw [List.take_of_length_le (by rw [big_len]; exact Nat.le_refl _), List.drop_of_length_le (by rw [List.length_replicate]; exact Nat.le_refl _), List.append_nil]
      rw [e8] at hA
      have HH := Lib.hid hA
      have HB := Lib.hid hB
      have ZB := Lib.hid (show w.heap.size ≤ z by rw [Z.out]; exact Nat.le_refl _)
      clear hA hB hk g e8
      go_wp2_with fail
      go_ret
      exact ⟨_, rfl, ZB.out, HH.out, HB.out⟩
theorem infoS11 : (Tryd.prog.info? 83).map (fun i => (i.zero, i.size, i.bytes)) = some (some (.slice none 0 0), 1, 24) := by kernel_rfl
/-- A part that a call made. -/
def In11 (z : Nat) (w : World) (u : Value) (n : Nat) : Prop := ∃ g, u = .slice (some ⟨g, 0, none⟩) 8 8 ∧ z < g ∧ Row8 w g (big 8 n)
theorem In11.keeps {z n : Nat} {w w' : World} {u : Value} (h : In11 z w u n) (k : Keeps w w') : In11 z w' u n := by
  obtain ⟨g, e, l, r⟩ := h
  exact ⟨g, e, l, r.keeps k⟩
theorem In11.put {z n i : Nat} {w : World} {u v : Value} (h : In11 z w u n) : In11 z (w.setCell ⟨z, i, none⟩ v) u n := by
  obtain ⟨g, e, l, r⟩ := h
  exact ⟨g, e, l, r.other11 (by omega)⟩
theorem In11.holds {z n : Nat} {w : World} {u : Value} (h : In11 z w u n) : Holds8 w u (big 8 n) := by
  obtain ⟨g, rfl, l, r⟩ := h
  exact r.holds 8 (big_len 8 n) (by decide)
def Two11 (W : World) (z a b : Nat) (si : Value) (wr : World) : Prop := ∃ (k : Nat) (u v : Value), k ≤ 2 ∧ si = .int .i64 (k : Int) ∧ VarC 83 wr z [u, v] ∧ (1 ≤ k → In11 z wr u a) ∧ (2 ≤ k → In11 z wr v b) ∧ Keeps W wr
theorem two_parts11 {w : World} {z a b : Nat} {u v : Value} (h : VarC 83 w z [u, v]) (h1 : In11 z w u a) (h2 : In11 z w v b) : Parts w (.slice (some ⟨z, 0, none⟩) 2 2) [big 8 a, big 8 b] := by
  refine ⟨_, _, _, rfl, rfl, Nat.le_refl _, ⟨by decide, fun e => by cases e⟩, Or.inr ⟨z, 0, rfl, h.size, fun i hi => ?_⟩⟩
  have hi2 : i = 0 ∨ i = 1 := by omega
  rcases hi2 with rfl | rfl
  · exact ⟨u, h.cell 0 _ rfl, h1.holds⟩
  · exact ⟨v, h.cell 1 _ rfl, h2.holds⟩
set_option maxHeartbeats 2000000 in
theorem own11_factor (nm : ByteArray) (a b g : Nat) (w0 : World) (ha : a < 18446744073709551616) (hb : b < 18446744073709551616) (hn : (strB nm).length ≤ 1000) (hV : VarC 30 w0 g (cellsK .u64 [a, b])) (hR : RootsIn w0) : Calls Tryd.prog 44 #[.string nm, .slice (some ⟨g, 0, none⟩) 2 2] w0 (fun e w' => e = .returned (.int .u64 (facK (strB nm) a b : Int)) ∧ Keeps w0 w') := by
  have HA := Lib.hid ha
  have HB := Lib.hid hb
  have HV := Lib.hid hV
  have HR := Lib.hid hR
  have TG := Lib.hid (fun v w (q : Parts w v [big 8 a, big 8 b]) (R : RootsIn w) => show Calls Tryd.prog 67 #[.string nm, v] w (fun e w' => e = .returned (.agg (vals8 (sha (tagB (strB nm) [big 8 a, big 8 b]))).toArray) ∧ Keeps w w') from tag_at nm v _ w q (by rw [tag_len]; simp only [List.map_cons, List.map_nil, List.sum_cons, List.sum_nil, big_len]; omega) R)
  have FR := Lib.hid (fun w => from_own (sha (tagB (strB nm) [big 8 a, big 8 b])) w (sum32_sha _))
  have EF := Lib.hid (show facK (strB nm) a b = fromF (sha (tagB (strB nm) [big 8 a, big 8 b])) from rfl)
  have hmk := run_make_row' (P := Tryd.prog) 95 83 (.slice none 0 0) 24 Tryd.underlying95 infoS11 rfl .i64 .i64 2 (by omega) (by omega)
  rw [show ((2 : Nat) : Int) = 2 from rfl] at hmk
  clear ha hb hn hV hR
  rw [EF.out]
  generalize sha (tagB (strB nm) [big 8 a, big 8 b]) = D at *
  go_enter Tryd.func44, Tryd.ntmps44
  go_upto_region 2 with fail
  obtain ⟨W, eW⟩ : ∃ W, W = w0.alloc (.cells (madeCells #[.slice none 0 0] 2) 83) := ⟨_, rfl⟩
  have A0 : VarC 83 W w0.heap.size [.slice none 0 0, .slice none 0 0] := by rw [eW, show madeCells #[Value.slice none 0 0] 2 = [Value.slice none 0 0, Value.slice none 0 0].toArray by kernel_rfl]; exact VarC.new w0 _
  have K0 : Keeps w0 W := by rw [eW]; exact (Keeps.refl w0).alloc _
  change Code.wp _ _ _ _ (w0.alloc (.cells (madeCells #[.slice none 0 0] 2) 83))
  rw [← eW]
  obtain ⟨z, ez⟩ : ∃ z, z = w0.heap.size := ⟨_, rfl⟩
  rw [← ez] at A0 ⊢
  have A0 := Lib.hid A0
  have K0 := Lib.hid K0
  have Z := Lib.hid (show w0.heap.size ≤ z by omega)
  clear eW ez hmk
  go_wp2_with fail
  go_loopw [13] (fun si wr => Two11 w0 z a b si wr) (fun si _ => 2 - (intOf si).toNat)
  case atStart => exact ⟨0, _, _, by omega, rfl, A0.out, fun h => absurd h (by decide), fun h => absurd h (by decide), K0.out⟩
  case round =>
    clear A0
    obtain ⟨k, u, v, hk, rfl, hA, h1, h2, hB⟩ := hrel
    have hk3 : k = 0 ∨ k = 1 ∨ k = 2 := by omega
    have A := Lib.hid hA
    have B := Lib.hid hB
    rcases hk3 with rfl | rfl | rfl
    · have c0 : wr.cell? ⟨g, 0, none⟩ = some (.int .u64 (a : Int)) := (HV.out.keeps hB).cell 0 _ rfl
      clear hk hA h1 h2 hB
      go_wp2_with (go_at_call 74; (refine (own11_eight a HA.out _).mono ?_); rintro e w1 ⟨g1, rfl, hg1, hr1, hk1⟩; have A1 := A.out.keeps hk1; have G1 := Lib.hid (show z < g1 from Nat.lt_of_lt_of_le A.out.size hg1); have R1 := Lib.hid hr1; have K1 := Lib.hid hk1; clear hg1 hr1 hk1; have c1 := A1.cell 0 _ rfl; have f1 := A1.free 0; have A1 := Lib.hid A1)
      have P := Lib.hid (A1.out.put11 0 (.slice (some ⟨g1, 0, none⟩) 8 8))
      go_roundw
      case rel => exact ⟨1, _, _, by omega, by go_num, P.out, fun _ => In11.put ⟨g1, rfl, G1.out, R1.out⟩, fun h => absurd h (by decide), keeps_set (B.out.trans K1.out) Z.out⟩
      case measure => simp [intOf]
    · have H1 := Lib.hid (h1 (Nat.le_refl _))
      have c0 : wr.cell? ⟨g, 1, none⟩ = some (.int .u64 (b : Int)) := (HV.out.keeps hB).cell 1 _ rfl
      clear hk hA h1 h2 hB
      go_wp2_with (go_at_call 74; (refine (own11_eight b HB.out _).mono ?_); rintro e w1 ⟨g1, rfl, hg1, hr1, hk1⟩; have A1 := A.out.keeps hk1; have G1 := Lib.hid (show z < g1 from Nat.lt_of_lt_of_le A.out.size hg1); have R1 := Lib.hid hr1; have K1 := Lib.hid hk1; clear hg1 hr1 hk1; have c1 := A1.cell 1 _ rfl; have f1 := A1.free 1; have A1 := Lib.hid A1)
      have P := Lib.hid (A1.out.put11 1 (.slice (some ⟨g1, 0, none⟩) 8 8))
      go_roundw
      case rel => exact ⟨2, _, _, by omega, by go_num, P.out, fun _ => (H1.out.keeps K1.out).put, fun _ => In11.put ⟨g1, rfl, G1.out, R1.out⟩, keeps_set (B.out.trans K1.out) Z.out⟩
      case measure => simp [intOf]
    · have PT := Lib.hid (two_parts11 hA (h1 (by decide)) (h2 (by decide)))
      have R := Lib.hid (HR.out.keeps hB)
      clear hk hA h1 h2 hB
      go_wp2_with (first
        | (go_at_call 67; (refine (TG.out _ _ PT.out R.out).mono ?_); rintro e w3 ⟨rfl, hk3⟩)
        | (go_at_call 35; (refine (FR.out _).mono ?_); rintro e w4 ⟨rfl, hk4⟩))
      go_ret
      exact ⟨rfl, (B.out.trans hk3).trans hk4⟩
theorem own11_factorL {nm : ByteArray} {L : List Nat} (hL : strB nm = L) (a b g : Nat) (w0 : World) (ha : a < 18446744073709551616) (hb : b < 18446744073709551616) (hn : (strB nm).length ≤ 1000) (hV : VarC 30 w0 g (cellsK .u64 [a, b])) (hR : RootsIn w0) : Calls Tryd.prog 44 #[.string nm, .slice (some ⟨g, 0, none⟩) 2 2] w0 (fun e w' => e = .returned (.int .u64 (facK L a b : Int)) ∧ Keeps w0 w') := by
  subst hL
  exact own11_factor nm a b g w0 ha hb hn hV hR
theorem str_rev11 : strB { data := #[114, 101, 118, 111, 107, 101] } = nRev := by rfl
theorem str_mix11 : strB { data := #[109, 105, 120] } = nMix := by rfl
set_option maxHeartbeats 1000000 in
set_option maxRecDepth 100000 in
theorem own11_ofseed (seed : List Nat) (n : Nat) (w : World) (hm : Sum32 seed) (hn : n < 256) (hR : RootsIn w) : Calls Tryd.prog 36 #[.agg (vals8 seed).toArray, .int .i64 (n : Int)] w (fun e w' => e = .returned (.agg (vals8 (partK seed n)).toArray) ∧ Keeps w w') := by
  have HM := Lib.hid hm
  have TG := Lib.hid (fun v w (q : Parts w v [seed, [n]]) (R : RootsIn w) => show Calls Tryd.prog 67 #[.string { data := #[107, 105, 116] }, v] w (fun e w' => e = .returned (.agg (vals8 (partK seed n)).toArray) ∧ Keeps w w') from tag_at _ v _ w q (by rw [tag_len]; have := HM.out.1; have e3 : (strB { data := #[107, 105, 116] }).length = 3 := rfl; simp only [List.map_cons, List.map_nil, List.sum_cons, List.sum_nil, List.length_cons, List.length_nil, this, e3]; decide) R)
  have SM := Lib.hid (part_ok seed n)
  have BN := Lib.hid (show ∀ x ∈ [n], x < 256 by intro x hx; rw [List.mem_singleton] at hx; omega)
  have em : (n : Int) % 256 = (n : Int) := by omega
  generalize partK seed n = D at *
  clear hm hn
  go_enter Tryd.func36, Tryd.ntmps36
  go_upto_region 1 with fail
  obtain ⟨W, eW⟩ : ∃ W, W = (w.alloc (.cells (vals8 seed).toArray 23)).alloc (.cells (cellsK .u8 (List.replicate 32 0)).toArray 23) := ⟨_, rfl⟩
  have A0 : ArrN .u8 256 23 W w.heap.size seed := by rw [eW]; exact (ArrN.new w seed HM.out.2).keeps ((Keeps.refl _).alloc _)
  have G0 : ArrN .u8 256 23 W (w.heap.size + 1) (List.replicate 32 0) := by rw [eW]; have h := ArrN.new (k := .u8) (m := 256) (T := 23) (w.alloc (.cells (vals8 seed).toArray 23)) (List.replicate 32 0) (noughts_lt 32); rw [World.size_alloc] at h; exact h
  have K0 : Keeps w W := by rw [eW]; exact ((Keeps.refl w).alloc _).alloc _
  change Code.wp _ _ _ _ ((w.alloc (.cells (vals8 seed).toArray 23)).alloc (.cells (cellsK .u8 (List.replicate 32 0)).toArray 23))
  rw [← eW]
  obtain ⟨z, ez⟩ : ∃ z, z = w.heap.size := ⟨_, rfl⟩
  rw [← ez] at A0 G0 ⊢
  obtain ⟨G, eG⟩ : ∃ G, G = z + 1 := ⟨_, rfl⟩
  rw [← eG] at G0 ⊢
  have GB := Lib.hid (show w.heap.size ≤ G by omega)
  have A0 := Lib.hid A0
  have G0 := Lib.hid G0
  have R0 := Lib.hid (hR.keeps K0)
  have K0 := Lib.hid K0
  have sq := run_sliceAll z W
  clear eW ez eG hR
  go_wp2_with (first
    | (go_at_call 67; (refine Calls.mono (TG.out _ _ (parts_lit (vs := [.slice (some ⟨z, 0, none⟩) 32 32, .slice (some ⟨W.heap.size, 0, none⟩) 1 1]) (ls := [seed, [n]]) ⟨(sum_slice A0.out HM.out.1).keeps ((Keeps.refl _).alloc _), (own_lit8 W W.heap.size (Nat.le_refl _) [n] BN.out (by simp) rfl rfl).holds, trivial⟩ (by simp) rfl rfl (by first | rfl | simp [World.size_alloc])) (R0.out.keeps (((Keeps.refl _).alloc _).alloc _))) ?_); rintro e w3 ⟨rfl, hk3⟩)
    | (refine wpList_store_arr (k := .u8) (m := 256) (L := D) sizSum rfl _ _ (by rfl) (List.replicate 32 0) (by rfl) (by rfl) (G0.out.keeps ((((Keeps.refl W).alloc _).alloc _).trans hk3)) (by rw [List.length_replicate]) SM.out.1 ?_))
  have K3 := Lib.hid (show Keeps W w3 from (((Keeps.refl W).alloc _).alloc _).trans hk3)
  exact bodyPost_ret (results_arr undSum sizSum rfl _ (by rfl) ((G0.out.keeps K3.out).setRow SM.out.2) SM.out.1) rfl ⟨rfl, below_setRow' (K0.out.trans K3.out) GB.out _⟩
set_option maxHeartbeats 1000000 in
theorem own11_perof (s : List Nat) (w : World) (hm : Sum32 s) : Calls Tryd.prog 16 #[.agg (vals8 s).toArray] w (fun e w' => e = .returned (.int .u64 (perK s : Int)) ∧ Keeps w w') := by
  have HM := Lib.hid hm
  have FR := Lib.hid (fun w => from_own s w hm)
  have BS := Lib.hid (fun w => show Calls Tryd.prog 13 #[.int .u64 (fromF s : Int)] w (fun e w' => e = .returned (.int .u64 (perK s : Int)) ∧ Keeps w w') from base6_own (fromF s) (Nat.lt_of_lt_of_le (from_lt s) (by decide)) w)
  clear hm
  generalize perK s = p at *
  generalize fromF s = f at *
  go_enter Tryd.func16, Tryd.ntmps16
  go_upto_region 1 with fail
  refine wp_boxed HM.out fun W z A0 K0 ez => ?_
  rw [← ez]
  have RG := Lib.hid A0.range
  clear A0 ez
  go_wp2_with (first
    | (refine wpList_load_sm (L := s) rfl (.tmp 1) rfl (by rfl) RG.out HM.out.1 ?_)
    | (go_at_call 35; (refine (FR.out _).mono ?_); rintro e w1 ⟨rfl, hk1⟩)
    | (go_at_call 13; (refine (BS.out _).mono ?_); rintro e w2 ⟨rfl, hk2⟩))
  go_ret
  exact ⟨rfl, (K0.trans hk1).trans hk2⟩
set_option maxHeartbeats 1000000 in
theorem own11_mix (b p : Nat) (w : World) (hb : inG b) (hp : inG p) (hR : RootsIn w) : Calls Tryd.prog 18 #[.int .u64 (b : Int), .int .u64 (p : Int)] w (fun e w' => e = .returned (.int .u64 (mixP b p : Int)) ∧ Keeps w w') := by
  have R0 := Lib.hid hR
  have FA := Lib.hid (fun w g (q : VarC 30 w g (cellsK .u64 [p, b])) (R : RootsIn w) => show Calls Tryd.prog 44 #[.string { data := #[109, 105, 120] }, .slice (some ⟨g, 0, none⟩) 2 2] w (fun e w' => e = .returned (.int .u64 (facK nMix p b : Int)) ∧ Keeps w w') from own11_factorL str_mix11 p b g w (in_up hp) (in_up hb) (by decide) q R)
  have BS := Lib.hid (fun w => base6_own (facK nMix p b) (Nat.lt_of_lt_of_le (fac_lt _ _ _) (by decide)) w)
  have AD := Lib.hid (fun w => show Calls Tryd.prog 43 #[.int .u64 (b : Int), .int .u64 (baseP (facK nMix p b) : Int)] w (fun e w' => e = .returned (.int .u64 (mixP b p : Int)) ∧ Keeps w w') from add6_own b _ (in_up hb) (in_up (baseP_in _)) w)
  clear hb hp hR
  generalize mixP b p = m at *
  generalize baseP (facK nMix p b) = q at *
  generalize facK nMix p b = f at *
  go_enter Tryd.func18, Tryd.ntmps18
  go_wp2_with (first
    | (go_at_call 44; (refine (FA.out _ _ (VarC.new w _) (R0.out.keeps ((Keeps.refl _).alloc _))).mono ?_); rintro e w1 ⟨rfl, hk1⟩)
    | (go_at_call 13; (refine (BS.out _).mono ?_); rintro e w2 ⟨rfl, hk2⟩)
    | (go_at_call 43; (refine (AD.out _).mono ?_); rintro e w3 ⟨rfl, hk3⟩))
  go_ret
  exact ⟨rfl, ((((Keeps.refl w).alloc _).trans hk1).trans hk2).trans hk3⟩
set_option maxHeartbeats 1000000 in
theorem own11_mixs (k p : Nat) (w : World) (hk : k < 18446744073709551616) (hp : inG p) (hR : RootsIn w) : Calls Tryd.prog 20 #[.int .u64 (k : Int), .int .u64 (p : Int)] w (fun e w' => e = .returned (.int .u64 (mixS k p : Int)) ∧ Keeps w w') := by
  have R0 := Lib.hid hR
  have BS := Lib.hid (fun w => base6_own k hk w)
  have FA := Lib.hid (fun w g (q : VarC 30 w g (cellsK .u64 [p, baseP k])) (R : RootsIn w) => show Calls Tryd.prog 44 #[.string { data := #[109, 105, 120] }, .slice (some ⟨g, 0, none⟩) 2 2] w (fun e w' => e = .returned (.int .u64 (facK nMix p (baseP k) : Int)) ∧ Keeps w w') from own11_factorL str_mix11 p _ g w (in_up hp) (in_up (baseP_in k)) (by decide) q R)
  have AD := Lib.hid (fun w => show Calls Tryd.prog 34 #[.int .u64 (k : Int), .int .u64 (facK nMix p (baseP k) : Int)] w (fun e w' => e = .returned (.int .u64 (mixS k p : Int)) ∧ w = w') from add_own k _ hk (Nat.lt_of_lt_of_le (fac_lt _ _ _) (by decide)) w)
  clear hk hp hR
  generalize mixS k p = m at *
  generalize facK nMix p (baseP k) = f at *
  generalize baseP k = q at *
  go_enter Tryd.func20, Tryd.ntmps20
  go_wp2_with (first
    | (go_at_call 13; (refine (BS.out _).mono ?_); rintro e w2 ⟨rfl, hk2⟩)
    | (go_at_call 44; (refine (FA.out _ _ (VarC.new w2 _) (R0.out.keeps (hk2.trans ((Keeps.refl _).alloc _)))).mono ?_); rintro e w1 ⟨rfl, hk1⟩)
    | (go_at_call 34; (refine (AD.out _).mono ?_); rintro e w3 ⟨rfl, rfl⟩))
  go_ret
  exact ⟨rfl, hk2.trans (((Keeps.refl w2).alloc _).trans hk1)⟩
set_option maxHeartbeats 1000000 in
theorem own11_shares (b p : Nat) (w : World) (hb : b < 18446744073709551616) (hp : p < 18446744073709551616) (hR : RootsIn w) : Calls Tryd.prog 48 #[.int .u64 (b : Int), .int .u64 (p : Int)] w (fun e w' => e = .returned (.tuple #[.int .u64 (facK nRev b p : Int), .int .u64 (facK nRev p b : Int)]) ∧ Keeps w w') := by
  have R0 := Lib.hid hR
  have FA := Lib.hid (fun w g (q : VarC 30 w g (cellsK .u64 [b, p])) (R : RootsIn w) => show Calls Tryd.prog 44 #[.string { data := #[114, 101, 118, 111, 107, 101] }, .slice (some ⟨g, 0, none⟩) 2 2] w (fun e w' => e = .returned (.int .u64 (facK nRev b p : Int)) ∧ Keeps w w') from own11_factorL str_rev11 b p g w hb hp (by decide) q R)
  have FB := Lib.hid (fun w g (q : VarC 30 w g (cellsK .u64 [p, b])) (R : RootsIn w) => show Calls Tryd.prog 44 #[.string { data := #[114, 101, 118, 111, 107, 101] }, .slice (some ⟨g, 0, none⟩) 2 2] w (fun e w' => e = .returned (.int .u64 (facK nRev p b : Int)) ∧ Keeps w w') from own11_factorL str_rev11 p b g w hp hb (by decide) q R)
  clear hb hp hR
  generalize facK nRev b p = f at *
  generalize facK nRev p b = g at *
  go_enter Tryd.func48, Tryd.ntmps48
  go_upto_region 1 with fail
  go_wp2_with (first
    | (go_at_call 44; (refine (FB.out _ _ (VarC.new w1 _) (R0.out.keeps ((((Keeps.refl _).alloc _).trans hk1).trans ((Keeps.refl _).alloc _)))).mono ?_); rintro e w2 ⟨rfl, hk2⟩)
    | (go_at_call 44; (refine (FA.out _ _ (VarC.new w _) (R0.out.keeps ((Keeps.refl _).alloc _))).mono ?_); rintro e w1 ⟨rfl, hk1⟩))
  go_ret2
  exact ⟨rfl, (((Keeps.refl w).alloc _).trans hk1).trans (((Keeps.refl w1).alloc _).trans hk2)⟩
set_option maxHeartbeats 1000000 in
theorem own11_rev (b p : Nat) (w : World) (hb : inG b) (hp : inG p) (hR : RootsIn w) : Calls Tryd.prog 22 #[.int .u64 (b : Int), .int .u64 (p : Int)] w (fun e w' => e = .returned (.int .u64 (revP b p : Int)) ∧ Keeps w w') := by
  have u := fun nm a b => Nat.lt_of_lt_of_le (fac_lt nm a b) (show 2305843009213688669 ≤ 18446744073709551616 by decide)
  have SH := Lib.hid (own11_shares b p w (in_up hb) (in_up hp) hR)
  have SA := Lib.hid (fun w => scale6_own b (facK nRev b p) (in_up hb) (u _ _ _) w)
  have SB := Lib.hid (fun w => scale6_own p (facK nRev p b) (in_up hp) (u _ _ _) w)
  have AD := Lib.hid (fun w => show Calls Tryd.prog 43 #[.int .u64 (scaleP b (facK nRev b p) : Int), .int .u64 (scaleP p (facK nRev p b) : Int)] w (fun e w' => e = .returned (.int .u64 (revP b p : Int)) ∧ Keeps w w') from add6_own _ _ (in_up (scaleP_in _ _)) (in_up (scaleP_in _ _)) w)
  clear hb hp u hR
  generalize revP b p = m at *
  generalize scaleP b (facK nRev b p) = x at *
  generalize scaleP p (facK nRev p b) = y at *
  generalize facK nRev b p = f at *
  generalize facK nRev p b = g at *
  go_enter Tryd.func22, Tryd.ntmps22
  go_upto_region 2 with (go_at_call 48; (refine SH.out.mono ?_); rintro e w1 ⟨rfl, hk1⟩)
  go_wp2_with (first
    | (go_at_call 49; (refine (SA.out _).mono ?_); rintro e w2 ⟨rfl, hk2⟩)
    | (go_at_call 49; (refine (SB.out _).mono ?_); rintro e w3 ⟨rfl, hk3⟩)
    | (go_at_call 43; (refine (AD.out _).mono ?_); rintro e w5 ⟨rfl, hk5⟩))
  go_ret
  exact ⟨rfl, ((hk1.trans hk2).trans hk3).trans hk5⟩
set_option maxHeartbeats 1000000 in
theorem own11_per (K : KitN) (no : Int) (w : World) (hK : KitOk K) (h0 : -9223372036854775808 ≤ no) (h1 : no ≤ 9223372036854775807) (hR : Roots10 w) : Calls Tryd.prog 11 #[.agg (kitC K).toArray, .int .i64 no] w (fun e w' => e = .returned (.tuple #[.int .u64 (perV K no : Int), .bool (secB no)]) ∧ Keeps w w') := by
  have R0 := Lib.hid hR
  have HM := Lib.hid hK.2.2.2.2.2
  have SV := Lib.hid (secV_ok hK.2.2.2.2.2 no)
  have SC := Lib.hid (fun w (R : Roots10 w) => own10_secret K.chain no w hK.2.2.2.2.2 h0 h1 R)
  have PO := Lib.hid (fun w => own11_perof (secV K.chain no) w SV.out)
  have EV := Lib.hid (show perV K no = if secB no then perK (secV K.chain no) else 0 from rfl)
  rw [EV.out]
  clear hK h0 h1 EV hR
  unfold GivesSec at SC
  generalize perK (secV K.chain no) = p at *
  generalize secV K.chain no = X at *
  generalize secB no = b at *
  go_enter Tryd.func11, Tryd.ntmps11
  go_upto_region 1 with fail
  refine wp_boxedC fun W z A0 K0 ez => ?_
  rw [← ez]
  have RG := Lib.hid (VarC.part A0 5 rfl)
  have R1 := Lib.hid (R0.out.keeps K0)
  have K0 := Lib.hid K0
  clear ez A0
  go_upto_region 2 with (first
    | (refine wpList_load_mid rfl 23 (.tmp 9) rfl z 5 (by rfl) (vals8 K.chain) _ RG.out undSum rfl (siz8_sum HM.out) ?_)
    | (go_at_call 28; (refine (SC.out _ R1.out).mono ?_); rintro e w1 ⟨rfl, hk1⟩)
    | (refine wpList_store_arr (k := .u8) (m := 256) (L := X) sizSum rfl _ _ (by rfl) (List.replicate 32 0) (by rfl) (by rfl) (ArrN.new w1 (List.replicate 32 0) (noughts_lt 32)) (by rw [List.length_replicate]) SV.out.1 ?_))
  refine wp_named11 fun W2 y hk2 hb2 ey => ?_
  have K2 := Lib.hid (K0.out.trans (hk1.trans hk2))
  have RG2 := Lib.hid (show ArrN .u8 256 23 W2 y X from ⟨SV.out.2, hb2⟩).range
  rw [← ey]
  clear hk1 hk2 hb2 ey RG
  cases b
  · go_wp2_with fail
    go_ret2
    exact ⟨rfl, K2.out⟩
  · go_wp2_with (first
      | (refine wpList_load_sm (L := X) rfl (.tmp 6) rfl (by rfl) RG2.out SV.out.1 ?_)
      | (go_at_call 16; (refine (PO.out _).mono ?_); rintro e w3 ⟨rfl, hk3⟩))
    go_ret2
    exact ⟨rfl, K2.out.trans hk3⟩
end Go.Proofs.YtfdfbpgljiakgaaDoor
/- Regions told in short (as DrawnM's). -/
namespace Go.Proofs.YtfdfbpgljiakgaaDoor
open Go.RowKit

section
variable {P : Program} {l : List Oper} {Q : Exit → Act → World → Prop} {N : Nat} {fx : List (Tmp × Value)} {gs : List (Value → Act → World → Prop)} {dss : List (List Tmp)}
variable {R : World → World → Prop} {H : World → Prop}
theorem lasts0 (hl : AllLast2 R (lastB .any l) gs 0) (gi : Nat) (gv : Value) (ga : Act) (gw gx : World) (h : lastB .any l gi = false) : R gw gx → goodOf2 gs gi gv ga gw → goodOf2 gs gi gv ga gx :=
  good_lasts2 (k := 0) hl gi gv ga gw gx (by rw [Nat.zero_add]; exact h)
theorem region_drawn5 {id : Nat} {a : Act} {w : World} (hl : AllLast2 R (lastB .any l) gs 0) (hle : AllLean dss gs 0) (hm : P.follows .mixedOrders = true)
    (hd : dstsOk l N (fx.map (·.1)) = true) (ha : dstsApart l = true) (hw : waitsOk .any l 0 = true) (hdp : depsOk .any l (fun gi => dss.getD gi []) = true) (hN : a.tmps.size = N) (hF : FixOf fx a) (hH : H w.drew)
    (hs : EachOp (StepOk2 P l Q .any N (FixOf fx) H R (goodOf2 gs)) l 0)
    (hfin : ∀ (a : Act) (w : World), a.tmps.size = N → FixOf fx a → H w → (∀ i o, l[i]? = some o → ∃ v, (∀ d, o.dst = some d → Slot a d v) ∧ goodOf2 gs i v a w) → Q .normal a w) : (Code.region id l.toArray true).wp P Q a w :=
  region_drawn2 hm (fix_all _) (lasts0 hl) (leans0 hle) hd ha hw hdp hN hF hH hfin hs
theorem region_plain5 {id : Nat} {a : Act} {w : World} (hl : AllLast2 R (lastB .any l) gs 0) (hle : AllLean dss gs 0)
    (hd : dstsOk l N (fx.map (·.1)) = true) (ha : dstsApart l = true) (hw : waitsOk .any l 0 = true) (hdp : depsOk .any l (fun gi => dss.getD gi []) = true) (hN : a.tmps.size = N) (hF : FixOf fx a) (hH : H w)
    (hs : EachOp (StepOk2 P l Q .any N (FixOf fx) H R (goodOf2 gs)) l 0)
    (hfin : ∀ (a : Act) (w : World), a.tmps.size = N → FixOf fx a → H w → (∀ i o, l[i]? = some o → ∃ v, (∀ d, o.dst = some d → Slot a d v) ∧ goodOf2 gs i v a w) → Q .normal a w) : (Code.region id l.toArray false).wp P Q a w :=
  region_plain2 (fix_all _) (lasts0 hl) (leans0 hle) hd ha hw hdp hN hF hH hfin hs
theorem gw2 {b : Bool} {x : Value} : b = true ∨ Lasts2 R (valA x) := Or.inr (valA_lasts x)
end
end Go.Proofs.YtfdfbpgljiakgaaDoor
