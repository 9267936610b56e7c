/- Texts of one proof, laid together: SignSmall, SigIn, HashRoots, ArgInts, Args. -/
import Derived.Test.YtkpjpocokbmlbaaDoorB1
import Derived.Test.YtkpjpocokbmlbaaDoorB2
import Derived.Test.YtkpjpocokbmlbaaDoorB3
import Derived.Test.YtkpjpocokbmlbaaDoorB4
import Derived.Test.YtkpjpocokbmlbaaDoorB5
import Derived.Test.YtkpjpocokbmlbaaDoorB6
import Derived.OpenShut
import Derived.Lib.SmallJoins
import Derived.Test.YtkpjpocokbmlbaaDoorRows
import Derived.Lib.LaidTab
import Derived.MakeChecks
import Derived.LaidHandle
set_option linter.unusedVariables false
set_option linter.unusedSimpArgs false
/- The laws' small case on signatures. -/
namespace Go.Proofs.YtkpjpocokbmlbaaDoor
open Go.RowKit Go.FieldMath Go.PointMath Go.HashMath

def seedOne : List Nat := 1 :: List.replicate 31 0
def sumTwo : List Nat := 2 :: List.replicate 31 0
theorem seed_one : Sum32 seedOne := ⟨by decide, by decide⟩
theorem sum_two : Sum32 sumTwo := ⟨by decide, by decide⟩
theorem holdsB_of {p : Nat} {m : List Nat} {t r s : Nat} (h : Holds7 p m t r s) : holdsB p m t r s = true := decide_eq_true h
theorem holdsB_not {p : Nat} {m : List Nat} {t r s : Nat} (h : ¬ Holds7 p m t r s) : holdsB p m t r s = false := decide_eq_false h
theorem add_one_not {s : Nat} (h : s < 2305843009213688669) : ¬ addF s 1 = s := by unfold addF; omega
theorem not_78 {p : Nat} {m : List Nat} {r s : Nat} (h : Holds7 p m (baseP 77) r s) (q : Holds7 p m (baseP 78) r s) : False := by
  have e := (holds_iff h (baseP_in 78) h.2.2.2.1).1 q
  rw [addP_comm, addP_comm (baseP s)] at e
  have := addP_cancel (baseP_in _) (baseP_in _) e
  exact absurd ((base_iff (by decide) (by decide)).1 this) (by decide)
set_option maxHeartbeats 2000000 in
set_option maxRecDepth 100000 in
theorem sign_small {R : World → Prop} (hR : Stable R) (K : SignC R) (P : PointC) (F : FieldC) (w : World) (hw : R w) : Calls Tryd.prog 8 #[] w fun e w' => e = .returned (.bool true) ∧ Keeps w w' := by
  have RW := Lib.hid (fun w' (q : Keeps w w') => hR w w' hw q)
  have S2 := Lib.hid sum_two
  obtain ⟨k, ek⟩ : ∃ k, k = keyS seedOne := ⟨_, rfl⟩
  have hk : isKey k := by rw [ek]; exact key_is _
  have C1 := Lib.hid (show ∀ w', Keeps w w' → Calls Tryd.prog 9 #[.agg #[.int .u8 1, .int .u8 0, .int .u8 0, .int .u8 0, .int .u8 0, .int .u8 0, .int .u8 0, .int .u8 0, .int .u8 0, .int .u8 0, .int .u8 0, .int .u8 0, .int .u8 0, .int .u8 0, .int .u8 0, .int .u8 0, .int .u8 0, .int .u8 0, .int .u8 0, .int .u8 0, .int .u8 0, .int .u8 0, .int .u8 0, .int .u8 0, .int .u8 0, .int .u8 0, .int .u8 0, .int .u8 0, .int .u8 0, .int .u8 0, .int .u8 0, .int .u8 0]] w' (fun e wz => e = .returned (.int .u64 (k : Int)) ∧ Keeps w' wz) from fun w' q => by rw [ek]; exact K.ckey seedOne w' seed_one (RW.out _ q))
  have k0 : (0 : Int) < (k : Int) := by have := hk.2; omega
  have k1 : (k : Int) < 2305843009213688669 := by have := hk.1; omega
  have k3 : decide ((k : Int) > 0) = true := decide_eq_true k0
  have k4 : decide ((k : Int) < 2305843009213688669) = true := decide_eq_true k1
  have k5 : 0 < k := by omega
  have k6 : k < 2305843009213688669 := hk.1
  have h77 : (77 : Nat) < 2305843009213688669 := by decide
  have HS := sign_holds hk sumTwo
  have HA := pre_holds hk (baseP_in 77) sumTwo
  have LS := Lib.hid (sg_lt (signR_lt k sumTwo) (u7 (signT_lt k sumTwo)))
  have LA := Lib.hid (sg_lt (preR_lt k sumTwo (baseP 77)) (u7 (preT_lt k sumTwo (baseP 77))))
  have LB := Lib.hid (sg_lt (preR_lt k sumTwo (baseP 77)) (u7 (add_lt (preT k sumTwo (baseP 77)) 77)))
  have C2 := Lib.hid (show ∀ w', Keeps w w' → Calls Tryd.prog 23 #[.int .u64 (k : Int)] w' (fun e wz => e = .returned (.int .u64 (baseP k : Int)) ∧ Keeps w' wz) from fun w' _ => P.cbase k w' (u7 hk.1))
  have C3 := Lib.hid (show ∀ w', Keeps w w' → Calls Tryd.prog 11 #[.int .u64 (k : Int), .agg (vals8 sumTwo).toArray] w' (fun e wz => e = .returned (.agg #[.int .u64 (signR k sumTwo : Int), .int .u64 (signT k sumTwo : Int)]) ∧ Keeps w' wz) from fun w' q => K.csign k _ w' (u7 hk.1) sum_two (RW.out _ q))
  have C4 := Lib.hid (show ∀ w', Keeps w w' → Calls Tryd.prog 23 #[.int .u64 77] w' (fun e wz => e = .returned (.int .u64 (baseP 77 : Int)) ∧ Keeps w' wz) from fun w' _ => P.cbase 77 w' (by decide))
  have C5 := Lib.hid (show ∀ w', Keeps w w' → Calls Tryd.prog 13 #[.int .u64 (k : Int), .agg (vals8 sumTwo).toArray, .int .u64 (baseP 77 : Int)] w' (fun e wz => e = .returned (.agg #[.int .u64 (preR k sumTwo (baseP 77) : Int), .int .u64 (preT k sumTwo (baseP 77) : Int)]) ∧ Keeps w' wz) from fun w' q => K.cpre k _ _ w' (u7 hk.1) sum_two (in_up (baseP_in _)) (RW.out _ q))
  have C6 := Lib.hid (show ∀ w', Keeps w w' → Calls Tryd.prog 19 #[.agg #[.int .u64 (preR k sumTwo (baseP 77) : Int), .int .u64 (preT k sumTwo (baseP 77) : Int)], .int .u64 77] w' (fun e wz => e = .returned (.agg #[.int .u64 (preR k sumTwo (baseP 77) : Int), .int .u64 (addF (preT k sumTwo (baseP 77)) 77 : Int)]) ∧ Keeps w' wz) from fun w' _ => by have q := K.cadapt (preR k sumTwo (baseP 77)) (preT k sumTwo (baseP 77)) 77 w' (preR_lt _ _ _) (u7 (preT_lt _ _ _)) (by decide); rw [(adapt_is (preT_lt _ _ _) h77 _).1, (adapt_is (preT_lt _ _ _) h77 (preR k sumTwo (baseP 77))).2] at q; exact q)
  have C7 := Lib.hid (show ∀ w', Keeps w w' → Calls Tryd.prog 11 #[.int .u64 0, .agg (vals8 sumTwo).toArray] w' (fun e wz => e = .returned (.agg #[.int .u64 0, .int .u64 0]) ∧ Keeps w' wz) from fun w' q => by have z := K.csign 0 sumTwo w' (by decide) sum_two (RW.out _ q); rw [(sign_none (fun h => h.2 rfl) sumTwo).1, (sign_none (fun h => h.2 rfl) sumTwo).2] at z; exact z)
  have C8 := Lib.hid (show ∀ w', Keeps w w' → Calls Tryd.prog 15 #[.int .u64 (baseP k : Int), .agg (vals8 sumTwo).toArray, .agg #[.int .u64 (signR k sumTwo : Int), .int .u64 (signT k sumTwo : Int)]] w' (fun e wz => e = .returned (.bool true) ∧ Keeps w' wz) from fun w' q => by have z := K.cverify (baseP k) sumTwo (signR k sumTwo) (signT k sumTwo) w' (in_up (baseP_in _)) sum_two (signR_lt _ _) (u7 (signT_lt _ _)) (RW.out _ q); rw [holdsB_of HS] at z; exact z)
  have C9 := Lib.hid (show ∀ w', Keeps w w' → Calls Tryd.prog 26 #[.int .u64 (signT k sumTwo : Int), .int .u64 1] w' (fun e wz => e = .returned (.int .u64 (addF (signT k sumTwo) 1 : Int)) ∧ Keeps w' wz) from fun w' _ => F.cadd _ 1 w' (u7 (signT_lt _ _)) (by decide))
  have CA := Lib.hid (show ∀ w', Keeps w w' → Calls Tryd.prog 15 #[.int .u64 (baseP k : Int), .agg (vals8 sumTwo).toArray, .agg #[.int .u64 (signR k sumTwo : Int), .int .u64 (addF (signT k sumTwo) 1 : Int)]] w' (fun e wz => e = .returned (.bool false) ∧ Keeps w' wz) from fun w' q => by have z := K.cverify (baseP k) sumTwo (signR k sumTwo) (addF (signT k sumTwo) 1) w' (in_up (baseP_in _)) sum_two (signR_lt _ _) (u7 (add_lt _ _)) (RW.out _ q); rw [holdsB_not (fun h => add_one_not (signT_lt k sumTwo) ((verify_iff HS (add_lt _ _)).1 h))] at z; exact z)
  have CB := Lib.hid (show ∀ w', Keeps w w' → Calls Tryd.prog 15 #[.int .u64 1, .agg (vals8 sumTwo).toArray, .agg #[.int .u64 (signR k sumTwo : Int), .int .u64 (signT k sumTwo : Int)]] w' (fun e wz => e = .returned (.bool false) ∧ Keeps w' wz) from fun w' q => by have z := K.cverify 1 sumTwo (signR k sumTwo) (signT k sumTwo) w' (by decide) sum_two (signR_lt _ _) (u7 (signT_lt _ _)) (RW.out _ q); rw [holdsB_not (fun h => h.2.2.2.2.1 rfl)] at z; exact z)
  have CC := Lib.hid (show ∀ w', Keeps w w' → Calls Tryd.prog 15 #[.int .u64 0, .agg (vals8 sumTwo).toArray, .agg #[.int .u64 (signR k sumTwo : Int), .int .u64 (signT k sumTwo : Int)]] w' (fun e wz => e = .returned (.bool false) ∧ Keeps w' wz) from fun w' q => by have z := K.cverify 0 sumTwo (signR k sumTwo) (signT k sumTwo) w' (by decide) sum_two (signR_lt _ _) (u7 (signT_lt _ _)) (RW.out _ q); rw [holdsB_not (fun h => absurd h.1.1 (by decide))] at z; exact z)
  have CD := Lib.hid (show ∀ w', Keeps w w' → Calls Tryd.prog 17 #[.int .u64 (baseP k : Int), .agg (vals8 sumTwo).toArray, .int .u64 (baseP 77 : Int), .agg #[.int .u64 (preR k sumTwo (baseP 77) : Int), .int .u64 (preT k sumTwo (baseP 77) : Int)]] w' (fun e wz => e = .returned (.bool true) ∧ Keeps w' wz) from fun w' q => by have z := K.cchecks (baseP k) sumTwo (baseP 77) (preR k sumTwo (baseP 77)) (preT k sumTwo (baseP 77)) w' (in_up (baseP_in _)) sum_two (in_up (baseP_in _)) (preR_lt _ _ _) (u7 (preT_lt _ _ _)) (RW.out _ q); rw [holdsB_of HA] at z; exact z)
  have CE := Lib.hid (show ∀ w', Keeps w w' → Calls Tryd.prog 23 #[.int .u64 78] w' (fun e wz => e = .returned (.int .u64 (baseP 78 : Int)) ∧ Keeps w' wz) from fun w' _ => P.cbase 78 w' (by decide))
  have CF := Lib.hid (show ∀ w', Keeps w w' → Calls Tryd.prog 17 #[.int .u64 (baseP k : Int), .agg (vals8 sumTwo).toArray, .int .u64 (baseP 78 : Int), .agg #[.int .u64 (preR k sumTwo (baseP 77) : Int), .int .u64 (preT k sumTwo (baseP 77) : Int)]] w' (fun e wz => e = .returned (.bool false) ∧ Keeps w' wz) from fun w' q => by have z := K.cchecks (baseP k) sumTwo (baseP 78) (preR k sumTwo (baseP 77)) (preT k sumTwo (baseP 77)) w' (in_up (baseP_in _)) sum_two (in_up (baseP_in _)) (preR_lt _ _ _) (u7 (preT_lt _ _ _)) (RW.out _ q); rw [holdsB_not (fun h => not_78 HA h)] at z; exact z)
  have CG := Lib.hid (show ∀ w', Keeps w w' → Calls Tryd.prog 15 #[.int .u64 (baseP k : Int), .agg (vals8 sumTwo).toArray, .agg #[.int .u64 (preR k sumTwo (baseP 77) : Int), .int .u64 (addF (preT k sumTwo (baseP 77)) 77 : Int)]] w' (fun e wz => e = .returned (.bool true) ∧ Keeps w' wz) from fun w' q => by have z := K.cverify (baseP k) sumTwo (preR k sumTwo (baseP 77)) (addF (preT k sumTwo (baseP 77)) 77) w' (in_up (baseP_in _)) sum_two (preR_lt _ _ _) (u7 (add_lt _ _)) (RW.out _ q); rw [holdsB_of ((whole_iff h77 HA h77).2 rfl)] at z; exact z)
  have CH := Lib.hid (show ∀ w', Keeps w w' → Calls Tryd.prog 21 #[.agg #[.int .u64 (preR k sumTwo (baseP 77) : Int), .int .u64 (preT k sumTwo (baseP 77) : Int)], .agg #[.int .u64 (preR k sumTwo (baseP 77) : Int), .int .u64 (addF (preT k sumTwo (baseP 77)) 77 : Int)]] w' (fun e wz => e = .returned (.int .u64 77) ∧ Keeps w' wz) from fun w' _ => by have z := K.cextract (preR k sumTwo (baseP 77)) (preT k sumTwo (baseP 77)) (preR k sumTwo (baseP 77)) (addF (preT k sumTwo (baseP 77)) 77) w' (preR_lt _ _ _) (u7 (preT_lt _ _ _)) (preR_lt _ _ _) (u7 (add_lt _ _)); rw [extr_back (preT_lt _ _ _) h77] at z; exact z)
  have CI := Lib.hid (show ∀ w', Keeps w w' → Calls Tryd.prog 13 #[.int .u64 (k : Int), .agg (vals8 sumTwo).toArray, .int .u64 0] w' (fun e wz => e = .returned (.agg #[.int .u64 0, .int .u64 0]) ∧ Keeps w' wz) from fun w' q => by have z := K.cpre k sumTwo 0 w' (u7 hk.1) sum_two (by decide) (RW.out _ q); rw [show preR k sumTwo 0 = 0 from if_neg fun h => absurd h.2.1 (by decide), show preT k sumTwo 0 = 0 from if_neg fun h => absurd h.2.1 (by decide)] at z; exact z)
  have CJ := Lib.hid (show ∀ w', Keeps w w' → Calls Tryd.prog 19 #[.agg #[.int .u64 (preR k sumTwo (baseP 77) : Int), .int .u64 (preT k sumTwo (baseP 77) : Int)], .int .u64 2305843009213688669] w' (fun e wz => e = .returned (.agg #[.int .u64 0, .int .u64 0]) ∧ Keeps w' wz) from fun w' _ => by have z := K.cadapt (preR k sumTwo (baseP 77)) (preT k sumTwo (baseP 77)) 2305843009213688669 w' (preR_lt _ _ _) (u7 (preT_lt _ _ _)) (by decide); rw [(adapt_no (fun h => absurd h.2 (by decide)) _).1, (adapt_no (fun h => absurd h.2 (by decide)) (preR k sumTwo (baseP 77))).2] at z; exact z)
  generalize addF (preT k sumTwo (baseP 77)) 77 = bt at *
  generalize preT k sumTwo (baseP 77) = at_ at *
  generalize preR k sumTwo (baseP 77) = ar at *
  generalize addF (signT k sumTwo) 1 = st2 at *
  generalize signT k sumTwo = st at *
  generalize signR k sumTwo = sr at *
  generalize baseP 77 = t7 at *
  generalize baseP 78 = t8 at *
  generalize baseP k = p at *
  clear hR K P F hw ek hk h77 HS HA k0 k1
  go_enter Tryd.func8, Tryd.ntmps8
  go_upto_region 3 with (first
    | (go_at_call 9; (refine (C1.out _ (Keeps.refl _)).mono ?_); rintro e w1 ⟨rfl, hk1⟩)
    | (go_at_call 23; (refine (C2.out _ hk1).mono ?_); rintro e w2 ⟨rfl, hk2⟩))
  have K2 := Lib.hid (hk1.trans hk2)
  clear hk1 hk2
  go_upto_region 4 with (refine wpList_store_arr (k := .u8) (m := 256) (L := sumTwo) sizSum rfl _ _ (by rfl) (List.replicate 32 0) (by rfl) (by rfl) (ArrN.new w2 (List.replicate 32 0) (noughts_lt 32)) (by rw [List.length_replicate]) S2.out.1 ?_)
  obtain ⟨W, eW⟩ : ∃ W, W = (w2.alloc (.cells (cellsK .u8 (List.replicate 32 0)).toArray 23)).setRow w2.heap.size (cellsK .u8 sumTwo).toArray := ⟨_, rfl⟩
  have NW := new_sm K2.out S2.out
  rw [← eW] at NW
  have AM : ArrN .u8 256 23 W w2.heap.size sumTwo := NW.1
  have KW : Keeps w W := NW.2
  change Code.wp _ _ _ _ ((w2.alloc (.cells (cellsK .u8 (List.replicate 32 0)).toArray 23)).setRow w2.heap.size (cellsK .u8 sumTwo).toArray)
  rw [← eW]
  clear eW K2 NW
  generalize w2.heap.size = zm at *
  have AM := Lib.hid AM
  have KW := Lib.hid KW
  go_upto_region 5 with (first
    | (refine wpList_load_sm (L := sumTwo) (by rfl) _ (by rfl) (by rfl) AM.out.range S2.out.1 ?_)
    | (go_at_call 11; (refine (C3.out _ KW.out).mono ?_); rintro e w3 ⟨rfl, hk3⟩))
  obtain ⟨W2, eW⟩ : ∃ W, W = w3.alloc (.cells (cellsK .u64 [sr, st]).toArray 28) := ⟨_, rfl⟩
  have AS : SigAt W2 w3.heap.size sr st := by rw [eW]; exact ArrN.new w3 [sr, st] LS.out
  have AM2 := Lib.hid (show ArrN .u8 256 23 W2 zm sumTwo by rw [eW]; exact AM.out.keeps (hk3.alloc _))
  have KW2 : Keeps w W2 := by rw [eW]; exact (KW.out.trans hk3).alloc _
  change Code.wp _ _ _ _ (w3.alloc (.cells (cellsK .u64 [sr, st]).toArray 28))
  rw [← eW]
  clear eW hk3
  generalize w3.heap.size = zs at *
  have AS := Lib.hid AS
  have KW2 := Lib.hid KW2
  go_upto_region 6 with fail
  refine region_drawn2 (N := 110) (fix := ([(0, .bool false), (1, .int .u64 (k : Int)), (2, .int .u64 (p : Int)), (3, .pointer (some ⟨zm, 0, none⟩)), (4, .pointer (some ⟨zs, 0, none⟩)), (5, .int .u64 77)] : List (Tmp × Value)).map (·.1)) (Fix := FixOf [(0, .bool false), (1, .int .u64 (k : Int)), (2, .int .u64 (p : Int)), (3, .pointer (some ⟨zm, 0, none⟩)), (4, .pointer (some ⟨zs, 0, none⟩)), (5, .int .u64 77)]) (H := Keeps W2) (R := StepM W2.heap.size) (deps := fun gi => ([[], [], [], [], [], [], [6]] : List (List Tmp)).getD gi []) (Good := goodOf2 [valA (.int .u64 (k : Int)), valA (.agg (vals8 sumTwo).toArray), valA (.int .u64 77), valA (.int .u64 (t7 : Int)), valA (.agg #[.int .u64 (ar : Int), .int .u64 (at_ : Int)]), ptrA W2.heap.size 2 28, putA W2.heap.size 6 (cellsK .u64 [ar, at_]).toArray 28])
    (by kernel_rfl) (fix_all _) (fun gi gv ga gw gx hl => good_lasts2 (R := StepM W2.heap.size) (gs := [valA (.int .u64 (k : Int)), valA (.agg (vals8 sumTwo).toArray), valA (.int .u64 77), valA (.int .u64 (t7 : Int)), valA (.agg #[.int .u64 (ar : Int), .int .u64 (at_ : Int)]), ptrA W2.heap.size 2 28, putA W2.heap.size 6 (cellsK .u64 [ar, at_]).toArray 28]) (k := 0) ⟨Or.inr (valA_lasts _), Or.inr (valA_lasts _), Or.inr (valA_lasts _), Or.inr (valA_lasts _), Or.inr (valA_lasts _), Or.inr (ptrA_lasts2 _ _ _), Or.inl (by kernel_rfl), trivial⟩ gi gv ga gw gx (by rw [Nat.zero_add]; exact hl)) (fun gi gv ga gb gw hd => good_leans (dss := [[], [], [], [], [], [], [6]]) (gs := [valA (.int .u64 (k : Int)), valA (.agg (vals8 sumTwo).toArray), valA (.int .u64 77), valA (.int .u64 (t7 : Int)), valA (.agg #[.int .u64 (ar : Int), .int .u64 (at_ : Int)]), ptrA W2.heap.size 2 28, putA W2.heap.size 6 (cellsK .u64 [ar, at_]).toArray 28]) (k := 0) ⟨valA_leans _ _, valA_leans _ _, valA_leans _ _, valA_leans _ _, valA_leans _ _, ptrA_leans _ _ _ _, putA_leans _ _ _ _ (by simp), trivial⟩ gi gv ga gb gw (by rw [Nat.zero_add]; exact hd))
    (by kernel_rfl) (by kernel_rfl) (by kernel_rfl) (by kernel_rfl) rfl ?_ ((Keeps.refl _).drew) ?_ ?_
  · refine ⟨rfl, fun x hx => ?_⟩
    simp only [List.mem_cons, List.not_mem_nil, or_false] at hx
    rcases hx with rfl | rfl | rfl | rfl | rfl | rfl
    · rfl
    · rfl
    · rfl
    · rfl
    · rfl
    · rfl
  · intro fa w hN hF hH hG
    obtain ⟨_, _, ga, s6, bA, mA⟩ := hG 6 _ rfl
    have AA := Lib.hid (show SigAt w ga ar at_ from ⟨LA.out, mA⟩)
    have KA := Lib.hid (KW2.out.trans hH)
    have AMA := Lib.hid (AM2.out.keeps hH)
    have ASA := Lib.hid (AS.out.keeps hH)
    have hdf := hF.1
    have s0 : Slot fa 0 (.bool false) := hF.2 (0, .bool false) (by simp)
    have s1 : Slot fa 1 (.int .u64 (k : Int)) := hF.2 (1, .int .u64 (k : Int)) (by simp)
    have s2 : Slot fa 2 (.int .u64 (p : Int)) := hF.2 (2, .int .u64 (p : Int)) (by simp)
    have s3 : Slot fa 3 (.pointer (some ⟨zm, 0, none⟩)) := hF.2 (3, .pointer (some ⟨zm, 0, none⟩)) (by simp)
    have s4 : Slot fa 4 (.pointer (some ⟨zs, 0, none⟩)) := hF.2 (4, .pointer (some ⟨zs, 0, none⟩)) (by simp)
    have s5 : Slot fa 5 (.int .u64 77) := hF.2 (5, .int .u64 77) (by simp)
    clear hF hG bA mA
    obtain ⟨WA, eA⟩ : ∃ x, x = w := ⟨_, rfl⟩
    rw [← eA] at AA KA AMA ASA ⊢
    clear eA hH
    go_upto_region 7 with fail
    refine region_plain2 (N := 110) (fix := ([(0, .bool false), (1, .int .u64 (k : Int)), (2, .int .u64 (p : Int)), (3, .pointer (some ⟨zm, 0, none⟩)), (4, .pointer (some ⟨zs, 0, none⟩)), (5, .int .u64 77), (6, .pointer (some ⟨ga, 0, none⟩))] : List (Tmp × Value)).map (·.1)) (Fix := FixOf [(0, .bool false), (1, .int .u64 (k : Int)), (2, .int .u64 (p : Int)), (3, .pointer (some ⟨zm, 0, none⟩)), (4, .pointer (some ⟨zs, 0, none⟩)), (5, .int .u64 77), (6, .pointer (some ⟨ga, 0, none⟩))]) (H := Keeps WA) (R := StepM WA.heap.size) (deps := fun gi => ([[], [], [], [], [7]] : List (List Tmp)).getD gi []) (Good := goodOf2 [valA (.agg #[.int .u64 (ar : Int), .int .u64 (at_ : Int)]), valA (.int .u64 77), valA (.agg #[.int .u64 (ar : Int), .int .u64 (bt : Int)]), ptrA WA.heap.size 2 28, putA WA.heap.size 7 (cellsK .u64 [ar, bt]).toArray 28])
      (fix_all _) (fun gi gv ga gw gx hl => good_lasts2 (R := StepM WA.heap.size) (gs := [valA (.agg #[.int .u64 (ar : Int), .int .u64 (at_ : Int)]), valA (.int .u64 77), valA (.agg #[.int .u64 (ar : Int), .int .u64 (bt : Int)]), ptrA WA.heap.size 2 28, putA WA.heap.size 7 (cellsK .u64 [ar, bt]).toArray 28]) (k := 0) ⟨Or.inr (valA_lasts _), Or.inr (valA_lasts _), Or.inr (valA_lasts _), Or.inr (ptrA_lasts2 _ _ _), Or.inl (by kernel_rfl), trivial⟩ gi gv ga gw gx (by rw [Nat.zero_add]; exact hl)) (fun gi gv ga gb gw hd => good_leans (dss := [[], [], [], [], [7]]) (gs := [valA (.agg #[.int .u64 (ar : Int), .int .u64 (at_ : Int)]), valA (.int .u64 77), valA (.agg #[.int .u64 (ar : Int), .int .u64 (bt : Int)]), ptrA WA.heap.size 2 28, putA WA.heap.size 7 (cellsK .u64 [ar, bt]).toArray 28]) (k := 0) ⟨valA_leans _ _, valA_leans _ _, valA_leans _ _, ptrA_leans _ _ _ _, putA_leans _ _ _ _ (by simp), trivial⟩ gi gv ga gb gw (by rw [Nat.zero_add]; exact hd))
      (by kernel_rfl) (by kernel_rfl) (by kernel_rfl) (by kernel_rfl) hN ?_ (Keeps.refl _) ?_ ?_
    · refine ⟨hdf, fun x hx => ?_⟩
      simp only [List.mem_cons, List.not_mem_nil, or_false] at hx
      rcases hx with rfl | rfl | rfl | rfl | rfl | rfl | rfl
      · exact s0
      · exact s1
      · exact s2
      · exact s3
      · exact s4
      · exact s5
      · exact s6
    · intro fa w hN hF hH hG
      obtain ⟨_, _, zb, s7, bB, mB⟩ := hG 4 _ rfl
      have AB := Lib.hid (show SigAt w zb ar bt from ⟨LB.out, mB⟩)
      have KB := Lib.hid (KA.out.trans hH)
      have AMB := Lib.hid (AMA.out.keeps hH)
      have ASB := Lib.hid (ASA.out.keeps hH)
      have AAB := Lib.hid (AA.out.keeps hH)
      have hdf := hF.1
      have s0 : Slot fa 0 (.bool false) := hF.2 (0, .bool false) (by simp)
      have s1 : Slot fa 1 (.int .u64 (k : Int)) := hF.2 (1, .int .u64 (k : Int)) (by simp)
      have s2 : Slot fa 2 (.int .u64 (p : Int)) := hF.2 (2, .int .u64 (p : Int)) (by simp)
      have s3 : Slot fa 3 (.pointer (some ⟨zm, 0, none⟩)) := hF.2 (3, .pointer (some ⟨zm, 0, none⟩)) (by simp)
      have s4 : Slot fa 4 (.pointer (some ⟨zs, 0, none⟩)) := hF.2 (4, .pointer (some ⟨zs, 0, none⟩)) (by simp)
      have s5 : Slot fa 5 (.int .u64 77) := hF.2 (5, .int .u64 77) (by simp)
      have s6 : Slot fa 6 (.pointer (some ⟨ga, 0, none⟩)) := hF.2 (6, .pointer (some ⟨ga, 0, none⟩)) (by simp)
      clear hF hG bB mB
      obtain ⟨WB, eB⟩ : ∃ x, x = w := ⟨_, rfl⟩
      rw [← eB] at AB KB AMB ASB AAB ⊢
      clear eB hH
      go_upto_region 8 with fail
      refine region_plain2 (N := 110) (fix := ([(0, .bool false), (1, .int .u64 (k : Int)), (2, .int .u64 (p : Int)), (3, .pointer (some ⟨zm, 0, none⟩)), (4, .pointer (some ⟨zs, 0, none⟩)), (5, .int .u64 77), (6, .pointer (some ⟨ga, 0, none⟩)), (7, .pointer (some ⟨zb, 0, none⟩))] : List (Tmp × Value)).map (·.1)) (Fix := FixOf [(0, .bool false), (1, .int .u64 (k : Int)), (2, .int .u64 (p : Int)), (3, .pointer (some ⟨zm, 0, none⟩)), (4, .pointer (some ⟨zs, 0, none⟩)), (5, .int .u64 77), (6, .pointer (some ⟨ga, 0, none⟩)), (7, .pointer (some ⟨zb, 0, none⟩))]) (H := Keeps WB) (R := StepM WB.heap.size) (deps := fun gi => ([[], [], [], [8]] : List (List Tmp)).getD gi []) (Good := goodOf2 [valA (.agg (vals8 sumTwo).toArray), valA (.agg #[.int .u64 0, .int .u64 0]), ptrA WB.heap.size 2 28, putA WB.heap.size 8 (cellsK .u64 [0, 0]).toArray 28])
        (fix_all _) (fun gi gv ga gw gx hl => good_lasts2 (R := StepM WB.heap.size) (gs := [valA (.agg (vals8 sumTwo).toArray), valA (.agg #[.int .u64 0, .int .u64 0]), ptrA WB.heap.size 2 28, putA WB.heap.size 8 (cellsK .u64 [0, 0]).toArray 28]) (k := 0) ⟨Or.inr (valA_lasts _), Or.inr (valA_lasts _), Or.inr (ptrA_lasts2 _ _ _), Or.inl (by kernel_rfl), trivial⟩ gi gv ga gw gx (by rw [Nat.zero_add]; exact hl)) (fun gi gv ga gb gw hd => good_leans (dss := [[], [], [], [8]]) (gs := [valA (.agg (vals8 sumTwo).toArray), valA (.agg #[.int .u64 0, .int .u64 0]), ptrA WB.heap.size 2 28, putA WB.heap.size 8 (cellsK .u64 [0, 0]).toArray 28]) (k := 0) ⟨valA_leans _ _, valA_leans _ _, ptrA_leans _ _ _ _, putA_leans _ _ _ _ (by simp), trivial⟩ gi gv ga gb gw (by rw [Nat.zero_add]; exact hd))
        (by kernel_rfl) (by kernel_rfl) (by kernel_rfl) (by kernel_rfl) hN ?_ (Keeps.refl _) ?_ ?_
      · refine ⟨hdf, fun x hx => ?_⟩
        simp only [List.mem_cons, List.not_mem_nil, or_false] at hx
        rcases hx with rfl | rfl | rfl | rfl | rfl | rfl | rfl | rfl
        · exact s0
        · exact s1
        · exact s2
        · exact s3
        · exact s4
        · exact s5
        · exact s6
        · exact s7
      · intro fa w hN hF hH hG
        obtain ⟨_, _, zn, s8, bN, mN⟩ := hG 3 _ rfl
        have AN := Lib.hid (show SigAt w zn 0 0 from ⟨sg_lt (by decide) (by decide), mN⟩)
        have KZ := Lib.hid (KB.out.trans hH)
        have AM4 := Lib.hid (AMB.out.keeps hH)
        have AS4 := Lib.hid (ASB.out.keeps hH)
        have AA4 := Lib.hid (AAB.out.keeps hH)
        have AB4 := Lib.hid (AB.out.keeps hH)
        have hdf := hF.1
        have s0 : Slot fa 0 (.bool false) := hF.2 (0, .bool false) (by simp)
        have s1 : Slot fa 1 (.int .u64 (k : Int)) := hF.2 (1, .int .u64 (k : Int)) (by simp)
        have s2 : Slot fa 2 (.int .u64 (p : Int)) := hF.2 (2, .int .u64 (p : Int)) (by simp)
        have s3 : Slot fa 3 (.pointer (some ⟨zm, 0, none⟩)) := hF.2 (3, .pointer (some ⟨zm, 0, none⟩)) (by simp)
        have s4 : Slot fa 4 (.pointer (some ⟨zs, 0, none⟩)) := hF.2 (4, .pointer (some ⟨zs, 0, none⟩)) (by simp)
        have s5 : Slot fa 5 (.int .u64 77) := hF.2 (5, .int .u64 77) (by simp)
        have s6 : Slot fa 6 (.pointer (some ⟨ga, 0, none⟩)) := hF.2 (6, .pointer (some ⟨ga, 0, none⟩)) (by simp)
        have s7 : Slot fa 7 (.pointer (some ⟨zb, 0, none⟩)) := hF.2 (7, .pointer (some ⟨zb, 0, none⟩)) (by simp)
        clear hF hG bN mN
        obtain ⟨W6, eN⟩ : ∃ x, x = w := ⟨_, rfl⟩
        rw [← eN] at AN KZ AM4 AS4 AA4 AB4 ⊢
        clear eN hH
        go_upto_region 9 with fail
        refine region_drawn2 (N := 110) (fix := ([(1, .int .u64 (k : Int)), (2, .int .u64 (p : Int)), (3, .pointer (some ⟨zm, 0, none⟩)), (4, .pointer (some ⟨zs, 0, none⟩)), (5, .int .u64 77), (6, .pointer (some ⟨ga, 0, none⟩)), (7, .pointer (some ⟨zb, 0, none⟩)), (8, .pointer (some ⟨zn, 0, none⟩))] : List (Tmp × Value)).map (·.1)) (Fix := FixOf [(1, .int .u64 (k : Int)), (2, .int .u64 (p : Int)), (3, .pointer (some ⟨zm, 0, none⟩)), (4, .pointer (some ⟨zs, 0, none⟩)), (5, .int .u64 77), (6, .pointer (some ⟨ga, 0, none⟩)), (7, .pointer (some ⟨zb, 0, none⟩)), (8, .pointer (some ⟨zn, 0, none⟩))]) (H := Keeps W6) (R := Keeps) (deps := fun gi => ([[], [], [], [], [], [], [], [], [], [], [], [], [], [], [], [], [], [], [], [], [], [], [], [], [], [], [], [], [], [], [], [], [], [], [], [], [], [], [], [], [], [], [], [], [], [], [], [], [], [], [], [], [], [], [], [], [], [], [], [], [], [], [], [], [], [], [], [], [], [], [], [], [], [], [], [], [], [], [], [], [], [], [], []] : List (List Tmp)).getD gi []) (Good := goodOf2 [valA (.int .u64 (k : Int)), valA (.bool true), valA (.bool true), valA (.int .u64 (k : Int)), valA (.bool true), valA (.bool true), valA (.bool true), valA (.int .u64 (p : Int)), valA (.agg (vals8 sumTwo).toArray), valA (.agg #[.int .u64 (sr : Int), .int .u64 (st : Int)]), valA (.bool true), valA (.bool true), valA (.bool true), valA (.int .u64 (p : Int)), valA (.agg (vals8 sumTwo).toArray), valA (.pointer (some ⟨zs, 0, none⟩)), valA (.int .u64 (sr : Int)), valA (.pointer (some ⟨zs, 1, none⟩)), valA (.int .u64 (st : Int)), valA (.int .u64 (st2 : Int)), valA (.agg #[.int .u64 (sr : Int), .int .u64 (st2 : Int)]), valA (.bool false), valA (.bool true), valA (.bool true), valA (.bool true), valA (.agg (vals8 sumTwo).toArray), valA (.agg #[.int .u64 (sr : Int), .int .u64 (st : Int)]), valA (.bool false), valA (.bool true), valA (.bool true), valA (.bool true), valA (.agg (vals8 sumTwo).toArray), valA (.agg #[.int .u64 (sr : Int), .int .u64 (st : Int)]), valA (.bool false), valA (.bool true), valA (.bool true), valA (.bool true), valA (.int .u64 (p : Int)), valA (.agg (vals8 sumTwo).toArray), valA (.int .u64 77), valA (.int .u64 (t7 : Int)), valA (.agg #[.int .u64 (ar : Int), .int .u64 (at_ : Int)]), valA (.bool true), valA (.bool true), valA (.bool true), valA (.int .u64 (p : Int)), valA (.agg (vals8 sumTwo).toArray), valA (.int .u64 (t8 : Int)), valA (.agg #[.int .u64 (ar : Int), .int .u64 (at_ : Int)]), valA (.bool false), valA (.bool true), valA (.bool true), valA (.bool true), valA (.int .u64 (p : Int)), valA (.agg (vals8 sumTwo).toArray), valA (.agg #[.int .u64 (ar : Int), .int .u64 (bt : Int)]), valA (.bool true), valA (.bool true), valA (.bool true), valA (.agg #[.int .u64 (ar : Int), .int .u64 (at_ : Int)]), valA (.agg #[.int .u64 (ar : Int), .int .u64 (bt : Int)]), valA (.int .u64 77), valA (.int .u64 77), valA (.bool true), valA (.bool true), valA (.bool true), valA (.agg #[.int .u64 0, .int .u64 0]), valA (.agg #[.int .u64 0, .int .u64 0]), valA (.bool true), valA (.bool true), valA (.bool true), valA (.int .u64 (k : Int)), valA (.agg (vals8 sumTwo).toArray), valA (.agg #[.int .u64 0, .int .u64 0]), valA (.agg #[.int .u64 0, .int .u64 0]), valA (.bool true), valA (.bool true), valA (.bool true), valA (.agg #[.int .u64 (ar : Int), .int .u64 (at_ : Int)]), valA (.agg #[.int .u64 0, .int .u64 0]), valA (.agg #[.int .u64 0, .int .u64 0]), valA (.bool true), valA (.bool true), valA (.bool true)])
          (by kernel_rfl) (fix_all _) (fun gi gv ga gw gx hl => good_lasts2 (R := Keeps) (gs := [valA (.int .u64 (k : Int)), valA (.bool true), valA (.bool true), valA (.int .u64 (k : Int)), valA (.bool true), valA (.bool true), valA (.bool true), valA (.int .u64 (p : Int)), valA (.agg (vals8 sumTwo).toArray), valA (.agg #[.int .u64 (sr : Int), .int .u64 (st : Int)]), valA (.bool true), valA (.bool true), valA (.bool true), valA (.int .u64 (p : Int)), valA (.agg (vals8 sumTwo).toArray), valA (.pointer (some ⟨zs, 0, none⟩)), valA (.int .u64 (sr : Int)), valA (.pointer (some ⟨zs, 1, none⟩)), valA (.int .u64 (st : Int)), valA (.int .u64 (st2 : Int)), valA (.agg #[.int .u64 (sr : Int), .int .u64 (st2 : Int)]), valA (.bool false), valA (.bool true), valA (.bool true), valA (.bool true), valA (.agg (vals8 sumTwo).toArray), valA (.agg #[.int .u64 (sr : Int), .int .u64 (st : Int)]), valA (.bool false), valA (.bool true), valA (.bool true), valA (.bool true), valA (.agg (vals8 sumTwo).toArray), valA (.agg #[.int .u64 (sr : Int), .int .u64 (st : Int)]), valA (.bool false), valA (.bool true), valA (.bool true), valA (.bool true), valA (.int .u64 (p : Int)), valA (.agg (vals8 sumTwo).toArray), valA (.int .u64 77), valA (.int .u64 (t7 : Int)), valA (.agg #[.int .u64 (ar : Int), .int .u64 (at_ : Int)]), valA (.bool true), valA (.bool true), valA (.bool true), valA (.int .u64 (p : Int)), valA (.agg (vals8 sumTwo).toArray), valA (.int .u64 (t8 : Int)), valA (.agg #[.int .u64 (ar : Int), .int .u64 (at_ : Int)]), valA (.bool false), valA (.bool true), valA (.bool true), valA (.bool true), valA (.int .u64 (p : Int)), valA (.agg (vals8 sumTwo).toArray), valA (.agg #[.int .u64 (ar : Int), .int .u64 (bt : Int)]), valA (.bool true), valA (.bool true), valA (.bool true), valA (.agg #[.int .u64 (ar : Int), .int .u64 (at_ : Int)]), valA (.agg #[.int .u64 (ar : Int), .int .u64 (bt : Int)]), valA (.int .u64 77), valA (.int .u64 77), valA (.bool true), valA (.bool true), valA (.bool true), valA (.agg #[.int .u64 0, .int .u64 0]), valA (.agg #[.int .u64 0, .int .u64 0]), valA (.bool true), valA (.bool true), valA (.bool true), valA (.int .u64 (k : Int)), valA (.agg (vals8 sumTwo).toArray), valA (.agg #[.int .u64 0, .int .u64 0]), valA (.agg #[.int .u64 0, .int .u64 0]), valA (.bool true), valA (.bool true), valA (.bool true), valA (.agg #[.int .u64 (ar : Int), .int .u64 (at_ : Int)]), valA (.agg #[.int .u64 0, .int .u64 0]), valA (.agg #[.int .u64 0, .int .u64 0]), valA (.bool true), valA (.bool true), valA (.bool true)]) (k := 0) ⟨Or.inr (valA_lasts _), Or.inr (valA_lasts _), Or.inr (valA_lasts _), Or.inr (valA_lasts _), Or.inr (valA_lasts _), Or.inr (valA_lasts _), Or.inr (valA_lasts _), Or.inr (valA_lasts _), Or.inr (valA_lasts _), Or.inr (valA_lasts _), Or.inr (valA_lasts _), Or.inr (valA_lasts _), Or.inr (valA_lasts _), Or.inr (valA_lasts _), Or.inr (valA_lasts _), Or.inr (valA_lasts _), Or.inr (valA_lasts _), Or.inr (valA_lasts _), Or.inr (valA_lasts _), Or.inr (valA_lasts _), Or.inr (valA_lasts _), Or.inr (valA_lasts _), Or.inr (valA_lasts _), Or.inr (valA_lasts _), Or.inr (valA_lasts _), Or.inr (valA_lasts _), Or.inr (valA_lasts _), Or.inr (valA_lasts _), Or.inr (valA_lasts _), Or.inr (valA_lasts _), Or.inr (valA_lasts _), Or.inr (valA_lasts _), Or.inr (valA_lasts _), Or.inr (valA_lasts _), Or.inr (valA_lasts _), Or.inr (valA_lasts _), Or.inr (valA_lasts _), Or.inr (valA_lasts _), Or.inr (valA_lasts _), Or.inr (valA_lasts _), Or.inr (valA_lasts _), Or.inr (valA_lasts _), Or.inr (valA_lasts _), Or.inr (valA_lasts _), Or.inr (valA_lasts _), Or.inr (valA_lasts _), Or.inr (valA_lasts _), Or.inr (valA_lasts _), Or.inr (valA_lasts _), Or.inr (valA_lasts _), Or.inr (valA_lasts _), Or.inr (valA_lasts _), Or.inr (valA_lasts _), Or.inr (valA_lasts _), Or.inr (valA_lasts _), Or.inr (valA_lasts _), Or.inr (valA_lasts _), Or.inr (valA_lasts _), Or.inr (valA_lasts _), Or.inr (valA_lasts _), Or.inr (valA_lasts _), Or.inr (valA_lasts _), Or.inr (valA_lasts _), Or.inr (valA_lasts _), Or.inr (valA_lasts _), Or.inr (valA_lasts _), Or.inr (valA_lasts _), Or.inr (valA_lasts _), Or.inr (valA_lasts _), Or.inr (valA_lasts _), Or.inr (valA_lasts _), Or.inr (valA_lasts _), Or.inr (valA_lasts _), Or.inr (valA_lasts _), Or.inr (valA_lasts _), Or.inr (valA_lasts _), Or.inr (valA_lasts _), Or.inr (valA_lasts _), Or.inr (valA_lasts _), Or.inr (valA_lasts _), Or.inr (valA_lasts _), Or.inr (valA_lasts _), Or.inr (valA_lasts _), Or.inr (valA_lasts _), trivial⟩ gi gv ga gw gx (by rw [Nat.zero_add]; exact hl)) (fun gi gv ga gb gw hd => good_leans (dss := [[], [], [], [], [], [], [], [], [], [], [], [], [], [], [], [], [], [], [], [], [], [], [], [], [], [], [], [], [], [], [], [], [], [], [], [], [], [], [], [], [], [], [], [], [], [], [], [], [], [], [], [], [], [], [], [], [], [], [], [], [], [], [], [], [], [], [], [], [], [], [], [], [], [], [], [], [], [], [], [], [], [], [], []]) (gs := [valA (.int .u64 (k : Int)), valA (.bool true), valA (.bool true), valA (.int .u64 (k : Int)), valA (.bool true), valA (.bool true), valA (.bool true), valA (.int .u64 (p : Int)), valA (.agg (vals8 sumTwo).toArray), valA (.agg #[.int .u64 (sr : Int), .int .u64 (st : Int)]), valA (.bool true), valA (.bool true), valA (.bool true), valA (.int .u64 (p : Int)), valA (.agg (vals8 sumTwo).toArray), valA (.pointer (some ⟨zs, 0, none⟩)), valA (.int .u64 (sr : Int)), valA (.pointer (some ⟨zs, 1, none⟩)), valA (.int .u64 (st : Int)), valA (.int .u64 (st2 : Int)), valA (.agg #[.int .u64 (sr : Int), .int .u64 (st2 : Int)]), valA (.bool false), valA (.bool true), valA (.bool true), valA (.bool true), valA (.agg (vals8 sumTwo).toArray), valA (.agg #[.int .u64 (sr : Int), .int .u64 (st : Int)]), valA (.bool false), valA (.bool true), valA (.bool true), valA (.bool true), valA (.agg (vals8 sumTwo).toArray), valA (.agg #[.int .u64 (sr : Int), .int .u64 (st : Int)]), valA (.bool false), valA (.bool true), valA (.bool true), valA (.bool true), valA (.int .u64 (p : Int)), valA (.agg (vals8 sumTwo).toArray), valA (.int .u64 77), valA (.int .u64 (t7 : Int)), valA (.agg #[.int .u64 (ar : Int), .int .u64 (at_ : Int)]), valA (.bool true), valA (.bool true), valA (.bool true), valA (.int .u64 (p : Int)), valA (.agg (vals8 sumTwo).toArray), valA (.int .u64 (t8 : Int)), valA (.agg #[.int .u64 (ar : Int), .int .u64 (at_ : Int)]), valA (.bool false), valA (.bool true), valA (.bool true), valA (.bool true), valA (.int .u64 (p : Int)), valA (.agg (vals8 sumTwo).toArray), valA (.agg #[.int .u64 (ar : Int), .int .u64 (bt : Int)]), valA (.bool true), valA (.bool true), valA (.bool true), valA (.agg #[.int .u64 (ar : Int), .int .u64 (at_ : Int)]), valA (.agg #[.int .u64 (ar : Int), .int .u64 (bt : Int)]), valA (.int .u64 77), valA (.int .u64 77), valA (.bool true), valA (.bool true), valA (.bool true), valA (.agg #[.int .u64 0, .int .u64 0]), valA (.agg #[.int .u64 0, .int .u64 0]), valA (.bool true), valA (.bool true), valA (.bool true), valA (.int .u64 (k : Int)), valA (.agg (vals8 sumTwo).toArray), valA (.agg #[.int .u64 0, .int .u64 0]), valA (.agg #[.int .u64 0, .int .u64 0]), valA (.bool true), valA (.bool true), valA (.bool true), valA (.agg #[.int .u64 (ar : Int), .int .u64 (at_ : Int)]), valA (.agg #[.int .u64 0, .int .u64 0]), valA (.agg #[.int .u64 0, .int .u64 0]), valA (.bool true), valA (.bool true), valA (.bool true)]) (k := 0) ⟨valA_leans _ _, valA_leans _ _, valA_leans _ _, valA_leans _ _, valA_leans _ _, valA_leans _ _, valA_leans _ _, valA_leans _ _, valA_leans _ _, valA_leans _ _, valA_leans _ _, valA_leans _ _, valA_leans _ _, valA_leans _ _, valA_leans _ _, valA_leans _ _, valA_leans _ _, valA_leans _ _, valA_leans _ _, valA_leans _ _, valA_leans _ _, valA_leans _ _, valA_leans _ _, valA_leans _ _, valA_leans _ _, valA_leans _ _, valA_leans _ _, valA_leans _ _, valA_leans _ _, valA_leans _ _, valA_leans _ _, valA_leans _ _, valA_leans _ _, valA_leans _ _, valA_leans _ _, valA_leans _ _, valA_leans _ _, valA_leans _ _, valA_leans _ _, valA_leans _ _, valA_leans _ _, valA_leans _ _, valA_leans _ _, valA_leans _ _, valA_leans _ _, valA_leans _ _, valA_leans _ _, valA_leans _ _, valA_leans _ _, valA_leans _ _, valA_leans _ _, valA_leans _ _, valA_leans _ _, valA_leans _ _, valA_leans _ _, valA_leans _ _, valA_leans _ _, valA_leans _ _, valA_leans _ _, valA_leans _ _, valA_leans _ _, valA_leans _ _, valA_leans _ _, valA_leans _ _, valA_leans _ _, valA_leans _ _, valA_leans _ _, valA_leans _ _, valA_leans _ _, valA_leans _ _, valA_leans _ _, valA_leans _ _, valA_leans _ _, valA_leans _ _, valA_leans _ _, valA_leans _ _, valA_leans _ _, valA_leans _ _, valA_leans _ _, valA_leans _ _, valA_leans _ _, valA_leans _ _, valA_leans _ _, valA_leans _ _, trivial⟩ gi gv ga gb gw (by rw [Nat.zero_add]; exact hd))
          (by kernel_rfl) (by kernel_rfl) (by kernel_rfl) (by kernel_rfl) hN ?_ ((Keeps.refl _).drew) ?_ ?_
        · refine ⟨hdf, fun x hx => ?_⟩
          simp only [List.mem_cons, List.not_mem_nil, or_false] at hx
          rcases hx with rfl | rfl | rfl | rfl | rfl | rfl | rfl | rfl
          · exact s1
          · exact s2
          · exact s3
          · exact s4
          · exact s5
          · exact s6
          · exact s7
          · exact s8
        · intro fa w hN hF hH hG
          obtain ⟨tm, df⟩ := fa
          obtain rfl : df = [] := hF.1
          obtain ⟨x0, s0, rfl⟩ := good_end hG 83 _ 0 rfl rfl
          have e0 : ∀ hd, tm[0]'hd = .bool true := s0.at
          go_wp2_with fail
          go_ret
          exact ⟨congrArg Ending.returned s0.eval, KZ.out.trans hH⟩
        · refine ⟨?_, ?_, ?_, ?_, ?_, ?_, ?_, ?_, ?_, ?_, ?_, ?_, ?_, ?_, ?_, ?_, ?_, ?_, ?_, ?_, ?_, ?_, ?_, ?_, ?_, ?_, ?_, ?_, ?_, ?_, ?_, ?_, ?_, ?_, ?_, ?_, ?_, ?_, ?_, ?_, ?_, ?_, ?_, ?_, ?_, ?_, ?_, ?_, ?_, ?_, ?_, ?_, ?_, ?_, ?_, ?_, ?_, ?_, ?_, ?_, ?_, ?_, ?_, ?_, ?_, ?_, ?_, ?_, ?_, ?_, ?_, ?_, ?_, ?_, ?_, ?_, ?_, ?_, ?_, ?_, ?_, ?_, ?_, ?_, trivial⟩
          · as_aux_lemma =>
            intro fa w K hN hF hH hG hK
            have s1 : Slot fa 1 (.int .u64 (k : Int)) := hF.2 (1, .int .u64 (k : Int)) (by simp)
            have e1 := s1.at
            rw [if_pos (wanted_none rfl)]
            refine wp_value (.int .u64 (k : Int)) ?_ (hK _ _ hH (Keeps.refl _) rfl)
            go_simp
          · as_aux_lemma =>
            intro fa w K hN hF hH hG hK
            obtain ⟨x27, s27, rfl⟩ := good_slot hG 0 _ 27 rfl rfl rfl
            have e27 := s27.at
            rw [if_pos (wanted_none rfl)]
            refine wp_value (.bool true) ?_ (hK _ _ hH (Keeps.refl _) rfl)
            go_simp
          · as_aux_lemma =>
            intro fa w K hN hF hH hG hK
            obtain ⟨x28, s28, rfl⟩ := good_slot hG 1 _ 28 rfl rfl rfl
            have e28 := s28.at
            rw [if_pos (wanted_none rfl)]
            refine wp_value (.bool true) ?_ (hK _ _ hH (Keeps.refl _) rfl)
            go_simp
          · as_aux_lemma =>
            intro fa w K hN hF hH hG hK
            have s1 : Slot fa 1 (.int .u64 (k : Int)) := hF.2 (1, .int .u64 (k : Int)) (by simp)
            have e1 := s1.at
            obtain ⟨x29, s29, rfl⟩ := good_slot hG 2 _ 29 rfl rfl rfl
            rw [if_pos (wanted_slot (g := 2) rfl rfl rfl s29)]
            refine wp_value (.int .u64 (k : Int)) ?_ (hK _ _ hH (Keeps.refl _) rfl)
            go_simp
          · as_aux_lemma =>
            intro fa w K hN hF hH hG hK
            obtain ⟨x30, s30, rfl⟩ := good_slot hG 3 _ 30 rfl rfl rfl
            have e30 := s30.at
            obtain ⟨x29, s29, rfl⟩ := good_slot hG 2 _ 29 rfl rfl rfl
            rw [if_pos (wanted_slot (g := 2) rfl rfl rfl s29)]
            refine wp_value (.bool true) ?_ (hK _ _ hH (Keeps.refl _) rfl)
            go_simp
          · as_aux_lemma =>
            intro fa w K hN hF hH hG hK
            obtain ⟨x29, s29, rfl⟩ := good_slot hG 2 _ 29 rfl rfl rfl
            have e29 := s29.at
            obtain ⟨x31, s31, rfl⟩ := good_slot hG 4 _ 31 rfl rfl rfl
            have e31 := s31.at
            rw [if_pos (wanted_none rfl)]
            refine wp_value (.bool true) ?_ (hK _ _ hH (Keeps.refl _) rfl)
            go_simp
          · as_aux_lemma =>
            intro fa w K hN hF hH hG hK
            obtain ⟨x32, s32, rfl⟩ := good_slot hG 5 _ 32 rfl rfl rfl
            have e32 := s32.at
            rw [if_pos (wanted_none rfl)]
            refine wp_value (.bool true) ?_ (hK _ _ hH (Keeps.refl _) rfl)
            go_simp
          · as_aux_lemma =>
            intro fa w K hN hF hH hG hK
            have s2 : Slot fa 2 (.int .u64 (p : Int)) := hF.2 (2, .int .u64 (p : Int)) (by simp)
            have e2 := s2.at
            obtain ⟨x33, s33, rfl⟩ := good_slot hG 6 _ 33 rfl rfl rfl
            rw [if_pos (wanted_slot (g := 6) rfl rfl rfl s33)]
            refine wp_value (.int .u64 (p : Int)) ?_ (hK _ _ hH (Keeps.refl _) rfl)
            go_simp
          · as_aux_lemma =>
            intro fa w K hN hF hH hG hK
            have s3 : Slot fa 3 (.pointer (some ⟨zm, 0, none⟩)) := hF.2 (3, .pointer (some ⟨zm, 0, none⟩)) (by simp)
            have e3 := s3.eval
            obtain ⟨x33, s33, rfl⟩ := good_slot hG 6 _ 33 rfl rfl rfl
            rw [if_pos (wanted_slot (g := 6) rfl rfl rfl s33)]
            exact wp_load_mid 23 (.tmp 3) rfl zm 0 e3 (vals8 sumTwo) _ ((AM4.out.keeps hH).range) undSum rfl (by rw [show (vals8 sumTwo).length = 32 by rw [vals8, List.length_map]; exact S2.out.1]; exact sizSum) (hK _ _ hH (Keeps.refl _) rfl)
          · as_aux_lemma =>
            intro fa w K hN hF hH hG hK
            have s4 : Slot fa 4 (.pointer (some ⟨zs, 0, none⟩)) := hF.2 (4, .pointer (some ⟨zs, 0, none⟩)) (by simp)
            have e4 := s4.eval
            obtain ⟨x33, s33, rfl⟩ := good_slot hG 6 _ 33 rfl rfl rfl
            rw [if_pos (wanted_slot (g := 6) rfl rfl rfl s33)]
            exact wp_load_mid 28 (.tmp 4) rfl zs 0 e4 (cellsK .u64 [sr, st]) _ ((AS4.out.keeps hH).range) Tryd.underlying28 rfl (by rw [cellsK_len]; exact sizSig) (hK _ _ hH (Keeps.refl _) rfl)
          · as_aux_lemma =>
            intro fa w K hN hF hH hG hK
            obtain ⟨x34, s34, rfl⟩ := good_slot hG 7 _ 34 rfl rfl rfl
            have e34 := s34.at
            obtain ⟨x35, s35, rfl⟩ := good_slot hG 8 _ 35 rfl rfl rfl
            have e35 := s35.at
            obtain ⟨x36, s36, rfl⟩ := good_slot hG 9 _ 36 rfl rfl rfl
            have e36 := s36.at
            obtain ⟨x33, s33, rfl⟩ := good_slot hG 6 _ 33 rfl rfl rfl
            rw [if_pos (wanted_slot (g := 6) rfl rfl rfl s33)]
            go_simp
            (go_at_call 15; (refine (C8.out _ (KZ.out.trans hH)).mono ?_); rintro e w' ⟨rfl, hk⟩)
            exact hK _ _ (hH.trans hk) hk rfl
          · as_aux_lemma =>
            intro fa w K hN hF hH hG hK
            obtain ⟨x33, s33, rfl⟩ := good_slot hG 6 _ 33 rfl rfl rfl
            have e33 := s33.at
            obtain ⟨x37, s37, rfl⟩ := good_slot hG 10 _ 37 rfl rfl rfl
            have e37 := s37.at
            rw [if_pos (wanted_none rfl)]
            refine wp_value (.bool true) ?_ (hK _ _ hH (Keeps.refl _) rfl)
            go_simp
          · as_aux_lemma =>
            intro fa w K hN hF hH hG hK
            obtain ⟨x38, s38, rfl⟩ := good_slot hG 11 _ 38 rfl rfl rfl
            have e38 := s38.at
            rw [if_pos (wanted_none rfl)]
            refine wp_value (.bool true) ?_ (hK _ _ hH (Keeps.refl _) rfl)
            go_simp
          · as_aux_lemma =>
            intro fa w K hN hF hH hG hK
            have s2 : Slot fa 2 (.int .u64 (p : Int)) := hF.2 (2, .int .u64 (p : Int)) (by simp)
            have e2 := s2.at
            obtain ⟨x39, s39, rfl⟩ := good_slot hG 12 _ 39 rfl rfl rfl
            rw [if_pos (wanted_slot (g := 12) rfl rfl rfl s39)]
            refine wp_value (.int .u64 (p : Int)) ?_ (hK _ _ hH (Keeps.refl _) rfl)
            go_simp
          · as_aux_lemma =>
            intro fa w K hN hF hH hG hK
            have s3 : Slot fa 3 (.pointer (some ⟨zm, 0, none⟩)) := hF.2 (3, .pointer (some ⟨zm, 0, none⟩)) (by simp)
            have e3 := s3.eval
            obtain ⟨x39, s39, rfl⟩ := good_slot hG 12 _ 39 rfl rfl rfl
            rw [if_pos (wanted_slot (g := 12) rfl rfl rfl s39)]
            exact wp_load_mid 23 (.tmp 3) rfl zm 0 e3 (vals8 sumTwo) _ ((AM4.out.keeps hH).range) undSum rfl (by rw [show (vals8 sumTwo).length = 32 by rw [vals8, List.length_map]; exact S2.out.1]; exact sizSum) (hK _ _ hH (Keeps.refl _) rfl)
          · as_aux_lemma =>
            intro fa w K hN hF hH hG hK
            have s4 : Slot fa 4 (.pointer (some ⟨zs, 0, none⟩)) := hF.2 (4, .pointer (some ⟨zs, 0, none⟩)) (by simp)
            have e4 := s4.at
            obtain ⟨x39, s39, rfl⟩ := good_slot hG 12 _ 39 rfl rfl rfl
            rw [if_pos (wanted_slot (g := 12) rfl rfl rfl s39)]
            refine wp_value (.pointer (some ⟨zs, 0, none⟩)) ?_ (hK _ _ hH (Keeps.refl _) rfl)
            go_simp
          · as_aux_lemma =>
            intro fa w K hN hF hH hG hK
            obtain ⟨x42, s42, rfl⟩ := good_slot hG 15 _ 42 rfl rfl rfl
            have e42 := s42.at
            obtain ⟨x39, s39, rfl⟩ := good_slot hG 12 _ 39 rfl rfl rfl
            rw [if_pos (wanted_slot (g := 12) rfl rfl rfl s39)]
            have c : w.cell? ⟨zs, 0, none⟩ = some (.int .u64 (sr : Int)) := (AS4.out.keeps hH).cell 0 (by simp)
            refine wp_value (.int .u64 (sr : Int)) ?_ (hK _ _ hH (Keeps.refl _) rfl)
            go_simp
          · as_aux_lemma =>
            intro fa w K hN hF hH hG hK
            have s4 : Slot fa 4 (.pointer (some ⟨zs, 0, none⟩)) := hF.2 (4, .pointer (some ⟨zs, 0, none⟩)) (by simp)
            have e4 := s4.at
            obtain ⟨x39, s39, rfl⟩ := good_slot hG 12 _ 39 rfl rfl rfl
            rw [if_pos (wanted_slot (g := 12) rfl rfl rfl s39)]
            refine wp_value (.pointer (some ⟨zs, 1, none⟩)) ?_ (hK _ _ hH (Keeps.refl _) rfl)
            go_simp
          · as_aux_lemma =>
            intro fa w K hN hF hH hG hK
            obtain ⟨x44, s44, rfl⟩ := good_slot hG 17 _ 44 rfl rfl rfl
            have e44 := s44.at
            obtain ⟨x39, s39, rfl⟩ := good_slot hG 12 _ 39 rfl rfl rfl
            rw [if_pos (wanted_slot (g := 12) rfl rfl rfl s39)]
            have c : w.cell? ⟨zs, 1, none⟩ = some (.int .u64 (st : Int)) := (AS4.out.keeps hH).cell 1 (by simp)
            refine wp_value (.int .u64 (st : Int)) ?_ (hK _ _ hH (Keeps.refl _) rfl)
            go_simp
          · as_aux_lemma =>
            intro fa w K hN hF hH hG hK
            obtain ⟨x45, s45, rfl⟩ := good_slot hG 18 _ 45 rfl rfl rfl
            have e45 := s45.at
            obtain ⟨x39, s39, rfl⟩ := good_slot hG 12 _ 39 rfl rfl rfl
            rw [if_pos (wanted_slot (g := 12) rfl rfl rfl s39)]
            go_simp
            (go_at_call 26; (refine (C9.out _ (KZ.out.trans hH)).mono ?_); rintro e w' ⟨rfl, hk⟩)
            exact hK _ _ (hH.trans hk) hk rfl
          · as_aux_lemma =>
            intro fa w K hN hF hH hG hK
            obtain ⟨x43, s43, rfl⟩ := good_slot hG 16 _ 43 rfl rfl rfl
            have e43 := s43.at
            obtain ⟨x46, s46, rfl⟩ := good_slot hG 19 _ 46 rfl rfl rfl
            have e46 := s46.at
            obtain ⟨x39, s39, rfl⟩ := good_slot hG 12 _ 39 rfl rfl rfl
            rw [if_pos (wanted_slot (g := 12) rfl rfl rfl s39)]
            refine wp_value (.agg #[.int .u64 (sr : Int), .int .u64 (st2 : Int)]) ?_ (hK _ _ hH (Keeps.refl _) rfl)
            go_simp
          · as_aux_lemma =>
            intro fa w K hN hF hH hG hK
            obtain ⟨x40, s40, rfl⟩ := good_slot hG 13 _ 40 rfl rfl rfl
            have e40 := s40.at
            obtain ⟨x41, s41, rfl⟩ := good_slot hG 14 _ 41 rfl rfl rfl
            have e41 := s41.at
            obtain ⟨x47, s47, rfl⟩ := good_slot hG 20 _ 47 rfl rfl rfl
            have e47 := s47.at
            obtain ⟨x39, s39, rfl⟩ := good_slot hG 12 _ 39 rfl rfl rfl
            rw [if_pos (wanted_slot (g := 12) rfl rfl rfl s39)]
            go_simp
            (go_at_call 15; (refine (CA.out _ (KZ.out.trans hH)).mono ?_); rintro e w' ⟨rfl, hk⟩)
            exact hK _ _ (hH.trans hk) hk rfl
          · as_aux_lemma =>
            intro fa w K hN hF hH hG hK
            obtain ⟨x48, s48, rfl⟩ := good_slot hG 21 _ 48 rfl rfl rfl
            have e48 := s48.at
            obtain ⟨x39, s39, rfl⟩ := good_slot hG 12 _ 39 rfl rfl rfl
            rw [if_pos (wanted_slot (g := 12) rfl rfl rfl s39)]
            refine wp_value (.bool true) ?_ (hK _ _ hH (Keeps.refl _) rfl)
            go_simp
          · as_aux_lemma =>
            intro fa w K hN hF hH hG hK
            obtain ⟨x39, s39, rfl⟩ := good_slot hG 12 _ 39 rfl rfl rfl
            have e39 := s39.at
            obtain ⟨x49, s49, rfl⟩ := good_slot hG 22 _ 49 rfl rfl rfl
            have e49 := s49.at
            rw [if_pos (wanted_none rfl)]
            refine wp_value (.bool true) ?_ (hK _ _ hH (Keeps.refl _) rfl)
            go_simp
          · as_aux_lemma =>
            intro fa w K hN hF hH hG hK
            obtain ⟨x50, s50, rfl⟩ := good_slot hG 23 _ 50 rfl rfl rfl
            have e50 := s50.at
            rw [if_pos (wanted_none rfl)]
            refine wp_value (.bool true) ?_ (hK _ _ hH (Keeps.refl _) rfl)
            go_simp
          · as_aux_lemma =>
            intro fa w K hN hF hH hG hK
            have s3 : Slot fa 3 (.pointer (some ⟨zm, 0, none⟩)) := hF.2 (3, .pointer (some ⟨zm, 0, none⟩)) (by simp)
            have e3 := s3.eval
            obtain ⟨x51, s51, rfl⟩ := good_slot hG 24 _ 51 rfl rfl rfl
            rw [if_pos (wanted_slot (g := 24) rfl rfl rfl s51)]
            exact wp_load_mid 23 (.tmp 3) rfl zm 0 e3 (vals8 sumTwo) _ ((AM4.out.keeps hH).range) undSum rfl (by rw [show (vals8 sumTwo).length = 32 by rw [vals8, List.length_map]; exact S2.out.1]; exact sizSum) (hK _ _ hH (Keeps.refl _) rfl)
          · as_aux_lemma =>
            intro fa w K hN hF hH hG hK
            have s4 : Slot fa 4 (.pointer (some ⟨zs, 0, none⟩)) := hF.2 (4, .pointer (some ⟨zs, 0, none⟩)) (by simp)
            have e4 := s4.eval
            obtain ⟨x51, s51, rfl⟩ := good_slot hG 24 _ 51 rfl rfl rfl
            rw [if_pos (wanted_slot (g := 24) rfl rfl rfl s51)]
            exact wp_load_mid 28 (.tmp 4) rfl zs 0 e4 (cellsK .u64 [sr, st]) _ ((AS4.out.keeps hH).range) Tryd.underlying28 rfl (by rw [cellsK_len]; exact sizSig) (hK _ _ hH (Keeps.refl _) rfl)
          · as_aux_lemma =>
            intro fa w K hN hF hH hG hK
            obtain ⟨x52, s52, rfl⟩ := good_slot hG 25 _ 52 rfl rfl rfl
            have e52 := s52.at
            obtain ⟨x53, s53, rfl⟩ := good_slot hG 26 _ 53 rfl rfl rfl
            have e53 := s53.at
            obtain ⟨x51, s51, rfl⟩ := good_slot hG 24 _ 51 rfl rfl rfl
            rw [if_pos (wanted_slot (g := 24) rfl rfl rfl s51)]
            go_simp
            (go_at_call 15; (refine (CB.out _ (KZ.out.trans hH)).mono ?_); rintro e w' ⟨rfl, hk⟩)
            exact hK _ _ (hH.trans hk) hk rfl
          · as_aux_lemma =>
            intro fa w K hN hF hH hG hK
            obtain ⟨x54, s54, rfl⟩ := good_slot hG 27 _ 54 rfl rfl rfl
            have e54 := s54.at
            obtain ⟨x51, s51, rfl⟩ := good_slot hG 24 _ 51 rfl rfl rfl
            rw [if_pos (wanted_slot (g := 24) rfl rfl rfl s51)]
            refine wp_value (.bool true) ?_ (hK _ _ hH (Keeps.refl _) rfl)
            go_simp
          · as_aux_lemma =>
            intro fa w K hN hF hH hG hK
            obtain ⟨x51, s51, rfl⟩ := good_slot hG 24 _ 51 rfl rfl rfl
            have e51 := s51.at
            obtain ⟨x55, s55, rfl⟩ := good_slot hG 28 _ 55 rfl rfl rfl
            have e55 := s55.at
            rw [if_pos (wanted_none rfl)]
            refine wp_value (.bool true) ?_ (hK _ _ hH (Keeps.refl _) rfl)
            go_simp
          · as_aux_lemma =>
            intro fa w K hN hF hH hG hK
            obtain ⟨x56, s56, rfl⟩ := good_slot hG 29 _ 56 rfl rfl rfl
            have e56 := s56.at
            rw [if_pos (wanted_none rfl)]
            refine wp_value (.bool true) ?_ (hK _ _ hH (Keeps.refl _) rfl)
            go_simp
          · as_aux_lemma =>
            intro fa w K hN hF hH hG hK
            have s3 : Slot fa 3 (.pointer (some ⟨zm, 0, none⟩)) := hF.2 (3, .pointer (some ⟨zm, 0, none⟩)) (by simp)
            have e3 := s3.eval
            obtain ⟨x57, s57, rfl⟩ := good_slot hG 30 _ 57 rfl rfl rfl
            rw [if_pos (wanted_slot (g := 30) rfl rfl rfl s57)]
            exact wp_load_mid 23 (.tmp 3) rfl zm 0 e3 (vals8 sumTwo) _ ((AM4.out.keeps hH).range) undSum rfl (by rw [show (vals8 sumTwo).length = 32 by rw [vals8, List.length_map]; exact S2.out.1]; exact sizSum) (hK _ _ hH (Keeps.refl _) rfl)
          · as_aux_lemma =>
            intro fa w K hN hF hH hG hK
            have s4 : Slot fa 4 (.pointer (some ⟨zs, 0, none⟩)) := hF.2 (4, .pointer (some ⟨zs, 0, none⟩)) (by simp)
            have e4 := s4.eval
            obtain ⟨x57, s57, rfl⟩ := good_slot hG 30 _ 57 rfl rfl rfl
            rw [if_pos (wanted_slot (g := 30) rfl rfl rfl s57)]
            exact wp_load_mid 28 (.tmp 4) rfl zs 0 e4 (cellsK .u64 [sr, st]) _ ((AS4.out.keeps hH).range) Tryd.underlying28 rfl (by rw [cellsK_len]; exact sizSig) (hK _ _ hH (Keeps.refl _) rfl)
          · as_aux_lemma =>
            intro fa w K hN hF hH hG hK
            obtain ⟨x58, s58, rfl⟩ := good_slot hG 31 _ 58 rfl rfl rfl
            have e58 := s58.at
            obtain ⟨x59, s59, rfl⟩ := good_slot hG 32 _ 59 rfl rfl rfl
            have e59 := s59.at
            obtain ⟨x57, s57, rfl⟩ := good_slot hG 30 _ 57 rfl rfl rfl
            rw [if_pos (wanted_slot (g := 30) rfl rfl rfl s57)]
            go_simp
            (go_at_call 15; (refine (CC.out _ (KZ.out.trans hH)).mono ?_); rintro e w' ⟨rfl, hk⟩)
            exact hK _ _ (hH.trans hk) hk rfl
          · as_aux_lemma =>
            intro fa w K hN hF hH hG hK
            obtain ⟨x60, s60, rfl⟩ := good_slot hG 33 _ 60 rfl rfl rfl
            have e60 := s60.at
            obtain ⟨x57, s57, rfl⟩ := good_slot hG 30 _ 57 rfl rfl rfl
            rw [if_pos (wanted_slot (g := 30) rfl rfl rfl s57)]
            refine wp_value (.bool true) ?_ (hK _ _ hH (Keeps.refl _) rfl)
            go_simp
          · as_aux_lemma =>
            intro fa w K hN hF hH hG hK
            obtain ⟨x57, s57, rfl⟩ := good_slot hG 30 _ 57 rfl rfl rfl
            have e57 := s57.at
            obtain ⟨x61, s61, rfl⟩ := good_slot hG 34 _ 61 rfl rfl rfl
            have e61 := s61.at
            rw [if_pos (wanted_none rfl)]
            refine wp_value (.bool true) ?_ (hK _ _ hH (Keeps.refl _) rfl)
            go_simp
          · as_aux_lemma =>
            intro fa w K hN hF hH hG hK
            obtain ⟨x62, s62, rfl⟩ := good_slot hG 35 _ 62 rfl rfl rfl
            have e62 := s62.at
            rw [if_pos (wanted_none rfl)]
            refine wp_value (.bool true) ?_ (hK _ _ hH (Keeps.refl _) rfl)
            go_simp
          · as_aux_lemma =>
            intro fa w K hN hF hH hG hK
            have s2 : Slot fa 2 (.int .u64 (p : Int)) := hF.2 (2, .int .u64 (p : Int)) (by simp)
            have e2 := s2.at
            obtain ⟨x63, s63, rfl⟩ := good_slot hG 36 _ 63 rfl rfl rfl
            rw [if_pos (wanted_slot (g := 36) rfl rfl rfl s63)]
            refine wp_value (.int .u64 (p : Int)) ?_ (hK _ _ hH (Keeps.refl _) rfl)
            go_simp
          · as_aux_lemma =>
            intro fa w K hN hF hH hG hK
            have s3 : Slot fa 3 (.pointer (some ⟨zm, 0, none⟩)) := hF.2 (3, .pointer (some ⟨zm, 0, none⟩)) (by simp)
            have e3 := s3.eval
            obtain ⟨x63, s63, rfl⟩ := good_slot hG 36 _ 63 rfl rfl rfl
            rw [if_pos (wanted_slot (g := 36) rfl rfl rfl s63)]
            exact wp_load_mid 23 (.tmp 3) rfl zm 0 e3 (vals8 sumTwo) _ ((AM4.out.keeps hH).range) undSum rfl (by rw [show (vals8 sumTwo).length = 32 by rw [vals8, List.length_map]; exact S2.out.1]; exact sizSum) (hK _ _ hH (Keeps.refl _) rfl)
          · as_aux_lemma =>
            intro fa w K hN hF hH hG hK
            have s5 : Slot fa 5 (.int .u64 77) := hF.2 (5, .int .u64 77) (by simp)
            have e5 := s5.at
            obtain ⟨x63, s63, rfl⟩ := good_slot hG 36 _ 63 rfl rfl rfl
            rw [if_pos (wanted_slot (g := 36) rfl rfl rfl s63)]
            refine wp_value (.int .u64 77) ?_ (hK _ _ hH (Keeps.refl _) rfl)
            go_simp
          · as_aux_lemma =>
            intro fa w K hN hF hH hG hK
            obtain ⟨x66, s66, rfl⟩ := good_slot hG 39 _ 66 rfl rfl rfl
            have e66 := s66.at
            obtain ⟨x63, s63, rfl⟩ := good_slot hG 36 _ 63 rfl rfl rfl
            rw [if_pos (wanted_slot (g := 36) rfl rfl rfl s63)]
            go_simp
            (go_at_call 23; (refine (C4.out _ (KZ.out.trans hH)).mono ?_); rintro e w' ⟨rfl, hk⟩)
            exact hK _ _ (hH.trans hk) hk rfl
          · as_aux_lemma =>
            intro fa w K hN hF hH hG hK
            have s6 : Slot fa 6 (.pointer (some ⟨ga, 0, none⟩)) := hF.2 (6, .pointer (some ⟨ga, 0, none⟩)) (by simp)
            have e6 := s6.eval
            obtain ⟨x63, s63, rfl⟩ := good_slot hG 36 _ 63 rfl rfl rfl
            rw [if_pos (wanted_slot (g := 36) rfl rfl rfl s63)]
            exact wp_load_mid 28 (.tmp 6) rfl ga 0 e6 (cellsK .u64 [ar, at_]) _ ((AA4.out.keeps hH).range) Tryd.underlying28 rfl (by rw [cellsK_len]; exact sizSig) (hK _ _ hH (Keeps.refl _) rfl)
          · as_aux_lemma =>
            intro fa w K hN hF hH hG hK
            obtain ⟨x64, s64, rfl⟩ := good_slot hG 37 _ 64 rfl rfl rfl
            have e64 := s64.at
            obtain ⟨x65, s65, rfl⟩ := good_slot hG 38 _ 65 rfl rfl rfl
            have e65 := s65.at
            obtain ⟨x67, s67, rfl⟩ := good_slot hG 40 _ 67 rfl rfl rfl
            have e67 := s67.at
            obtain ⟨x68, s68, rfl⟩ := good_slot hG 41 _ 68 rfl rfl rfl
            have e68 := s68.at
            obtain ⟨x63, s63, rfl⟩ := good_slot hG 36 _ 63 rfl rfl rfl
            rw [if_pos (wanted_slot (g := 36) rfl rfl rfl s63)]
            go_simp
            (go_at_call 17; (refine (CD.out _ (KZ.out.trans hH)).mono ?_); rintro e w' ⟨rfl, hk⟩)
            exact hK _ _ (hH.trans hk) hk rfl
          · as_aux_lemma =>
            intro fa w K hN hF hH hG hK
            obtain ⟨x63, s63, rfl⟩ := good_slot hG 36 _ 63 rfl rfl rfl
            have e63 := s63.at
            obtain ⟨x69, s69, rfl⟩ := good_slot hG 42 _ 69 rfl rfl rfl
            have e69 := s69.at
            rw [if_pos (wanted_none rfl)]
            refine wp_value (.bool true) ?_ (hK _ _ hH (Keeps.refl _) rfl)
            go_simp
          · as_aux_lemma =>
            intro fa w K hN hF hH hG hK
            obtain ⟨x70, s70, rfl⟩ := good_slot hG 43 _ 70 rfl rfl rfl
            have e70 := s70.at
            rw [if_pos (wanted_none rfl)]
            refine wp_value (.bool true) ?_ (hK _ _ hH (Keeps.refl _) rfl)
            go_simp
          · as_aux_lemma =>
            intro fa w K hN hF hH hG hK
            have s2 : Slot fa 2 (.int .u64 (p : Int)) := hF.2 (2, .int .u64 (p : Int)) (by simp)
            have e2 := s2.at
            obtain ⟨x71, s71, rfl⟩ := good_slot hG 44 _ 71 rfl rfl rfl
            rw [if_pos (wanted_slot (g := 44) rfl rfl rfl s71)]
            refine wp_value (.int .u64 (p : Int)) ?_ (hK _ _ hH (Keeps.refl _) rfl)
            go_simp
          · as_aux_lemma =>
            intro fa w K hN hF hH hG hK
            have s3 : Slot fa 3 (.pointer (some ⟨zm, 0, none⟩)) := hF.2 (3, .pointer (some ⟨zm, 0, none⟩)) (by simp)
            have e3 := s3.eval
            obtain ⟨x71, s71, rfl⟩ := good_slot hG 44 _ 71 rfl rfl rfl
            rw [if_pos (wanted_slot (g := 44) rfl rfl rfl s71)]
            exact wp_load_mid 23 (.tmp 3) rfl zm 0 e3 (vals8 sumTwo) _ ((AM4.out.keeps hH).range) undSum rfl (by rw [show (vals8 sumTwo).length = 32 by rw [vals8, List.length_map]; exact S2.out.1]; exact sizSum) (hK _ _ hH (Keeps.refl _) rfl)
          · as_aux_lemma =>
            intro fa w K hN hF hH hG hK
            obtain ⟨x71, s71, rfl⟩ := good_slot hG 44 _ 71 rfl rfl rfl
            rw [if_pos (wanted_slot (g := 44) rfl rfl rfl s71)]
            go_simp
            (go_at_call 23; (refine (CE.out _ (KZ.out.trans hH)).mono ?_); rintro e w' ⟨rfl, hk⟩)
            exact hK _ _ (hH.trans hk) hk rfl
          · as_aux_lemma =>
            intro fa w K hN hF hH hG hK
            have s6 : Slot fa 6 (.pointer (some ⟨ga, 0, none⟩)) := hF.2 (6, .pointer (some ⟨ga, 0, none⟩)) (by simp)
            have e6 := s6.eval
            obtain ⟨x71, s71, rfl⟩ := good_slot hG 44 _ 71 rfl rfl rfl
            rw [if_pos (wanted_slot (g := 44) rfl rfl rfl s71)]
            exact wp_load_mid 28 (.tmp 6) rfl ga 0 e6 (cellsK .u64 [ar, at_]) _ ((AA4.out.keeps hH).range) Tryd.underlying28 rfl (by rw [cellsK_len]; exact sizSig) (hK _ _ hH (Keeps.refl _) rfl)
          · as_aux_lemma =>
            intro fa w K hN hF hH hG hK
            obtain ⟨x72, s72, rfl⟩ := good_slot hG 45 _ 72 rfl rfl rfl
            have e72 := s72.at
            obtain ⟨x73, s73, rfl⟩ := good_slot hG 46 _ 73 rfl rfl rfl
            have e73 := s73.at
            obtain ⟨x74, s74, rfl⟩ := good_slot hG 47 _ 74 rfl rfl rfl
            have e74 := s74.at
            obtain ⟨x75, s75, rfl⟩ := good_slot hG 48 _ 75 rfl rfl rfl
            have e75 := s75.at
            obtain ⟨x71, s71, rfl⟩ := good_slot hG 44 _ 71 rfl rfl rfl
            rw [if_pos (wanted_slot (g := 44) rfl rfl rfl s71)]
            go_simp
            (go_at_call 17; (refine (CF.out _ (KZ.out.trans hH)).mono ?_); rintro e w' ⟨rfl, hk⟩)
            exact hK _ _ (hH.trans hk) hk rfl
          · as_aux_lemma =>
            intro fa w K hN hF hH hG hK
            obtain ⟨x76, s76, rfl⟩ := good_slot hG 49 _ 76 rfl rfl rfl
            have e76 := s76.at
            obtain ⟨x71, s71, rfl⟩ := good_slot hG 44 _ 71 rfl rfl rfl
            rw [if_pos (wanted_slot (g := 44) rfl rfl rfl s71)]
            refine wp_value (.bool true) ?_ (hK _ _ hH (Keeps.refl _) rfl)
            go_simp
          · as_aux_lemma =>
            intro fa w K hN hF hH hG hK
            obtain ⟨x71, s71, rfl⟩ := good_slot hG 44 _ 71 rfl rfl rfl
            have e71 := s71.at
            obtain ⟨x77, s77, rfl⟩ := good_slot hG 50 _ 77 rfl rfl rfl
            have e77 := s77.at
            rw [if_pos (wanted_none rfl)]
            refine wp_value (.bool true) ?_ (hK _ _ hH (Keeps.refl _) rfl)
            go_simp
          · as_aux_lemma =>
            intro fa w K hN hF hH hG hK
            obtain ⟨x78, s78, rfl⟩ := good_slot hG 51 _ 78 rfl rfl rfl
            have e78 := s78.at
            rw [if_pos (wanted_none rfl)]
            refine wp_value (.bool true) ?_ (hK _ _ hH (Keeps.refl _) rfl)
            go_simp
          · as_aux_lemma =>
            intro fa w K hN hF hH hG hK
            have s2 : Slot fa 2 (.int .u64 (p : Int)) := hF.2 (2, .int .u64 (p : Int)) (by simp)
            have e2 := s2.at
            obtain ⟨x79, s79, rfl⟩ := good_slot hG 52 _ 79 rfl rfl rfl
            rw [if_pos (wanted_slot (g := 52) rfl rfl rfl s79)]
            refine wp_value (.int .u64 (p : Int)) ?_ (hK _ _ hH (Keeps.refl _) rfl)
            go_simp
          · as_aux_lemma =>
            intro fa w K hN hF hH hG hK
            have s3 : Slot fa 3 (.pointer (some ⟨zm, 0, none⟩)) := hF.2 (3, .pointer (some ⟨zm, 0, none⟩)) (by simp)
            have e3 := s3.eval
            obtain ⟨x79, s79, rfl⟩ := good_slot hG 52 _ 79 rfl rfl rfl
            rw [if_pos (wanted_slot (g := 52) rfl rfl rfl s79)]
            exact wp_load_mid 23 (.tmp 3) rfl zm 0 e3 (vals8 sumTwo) _ ((AM4.out.keeps hH).range) undSum rfl (by rw [show (vals8 sumTwo).length = 32 by rw [vals8, List.length_map]; exact S2.out.1]; exact sizSum) (hK _ _ hH (Keeps.refl _) rfl)
          · as_aux_lemma =>
            intro fa w K hN hF hH hG hK
            have s7 : Slot fa 7 (.pointer (some ⟨zb, 0, none⟩)) := hF.2 (7, .pointer (some ⟨zb, 0, none⟩)) (by simp)
            have e7 := s7.eval
            obtain ⟨x79, s79, rfl⟩ := good_slot hG 52 _ 79 rfl rfl rfl
            rw [if_pos (wanted_slot (g := 52) rfl rfl rfl s79)]
            exact wp_load_mid 28 (.tmp 7) rfl zb 0 e7 (cellsK .u64 [ar, bt]) _ ((AB4.out.keeps hH).range) Tryd.underlying28 rfl (by rw [cellsK_len]; exact sizSig) (hK _ _ hH (Keeps.refl _) rfl)
          · as_aux_lemma =>
            intro fa w K hN hF hH hG hK
            obtain ⟨x80, s80, rfl⟩ := good_slot hG 53 _ 80 rfl rfl rfl
            have e80 := s80.at
            obtain ⟨x81, s81, rfl⟩ := good_slot hG 54 _ 81 rfl rfl rfl
            have e81 := s81.at
            obtain ⟨x82, s82, rfl⟩ := good_slot hG 55 _ 82 rfl rfl rfl
            have e82 := s82.at
            obtain ⟨x79, s79, rfl⟩ := good_slot hG 52 _ 79 rfl rfl rfl
            rw [if_pos (wanted_slot (g := 52) rfl rfl rfl s79)]
            go_simp
            (go_at_call 15; (refine (CG.out _ (KZ.out.trans hH)).mono ?_); rintro e w' ⟨rfl, hk⟩)
            exact hK _ _ (hH.trans hk) hk rfl
          · as_aux_lemma =>
            intro fa w K hN hF hH hG hK
            obtain ⟨x79, s79, rfl⟩ := good_slot hG 52 _ 79 rfl rfl rfl
            have e79 := s79.at
            obtain ⟨x83, s83, rfl⟩ := good_slot hG 56 _ 83 rfl rfl rfl
            have e83 := s83.at
            rw [if_pos (wanted_none rfl)]
            refine wp_value (.bool true) ?_ (hK _ _ hH (Keeps.refl _) rfl)
            go_simp
          · as_aux_lemma =>
            intro fa w K hN hF hH hG hK
            obtain ⟨x84, s84, rfl⟩ := good_slot hG 57 _ 84 rfl rfl rfl
            have e84 := s84.at
            rw [if_pos (wanted_none rfl)]
            refine wp_value (.bool true) ?_ (hK _ _ hH (Keeps.refl _) rfl)
            go_simp
          · as_aux_lemma =>
            intro fa w K hN hF hH hG hK
            have s6 : Slot fa 6 (.pointer (some ⟨ga, 0, none⟩)) := hF.2 (6, .pointer (some ⟨ga, 0, none⟩)) (by simp)
            have e6 := s6.eval
            obtain ⟨x85, s85, rfl⟩ := good_slot hG 58 _ 85 rfl rfl rfl
            rw [if_pos (wanted_slot (g := 58) rfl rfl rfl s85)]
            exact wp_load_mid 28 (.tmp 6) rfl ga 0 e6 (cellsK .u64 [ar, at_]) _ ((AA4.out.keeps hH).range) Tryd.underlying28 rfl (by rw [cellsK_len]; exact sizSig) (hK _ _ hH (Keeps.refl _) rfl)
          · as_aux_lemma =>
            intro fa w K hN hF hH hG hK
            have s7 : Slot fa 7 (.pointer (some ⟨zb, 0, none⟩)) := hF.2 (7, .pointer (some ⟨zb, 0, none⟩)) (by simp)
            have e7 := s7.eval
            obtain ⟨x85, s85, rfl⟩ := good_slot hG 58 _ 85 rfl rfl rfl
            rw [if_pos (wanted_slot (g := 58) rfl rfl rfl s85)]
            exact wp_load_mid 28 (.tmp 7) rfl zb 0 e7 (cellsK .u64 [ar, bt]) _ ((AB4.out.keeps hH).range) Tryd.underlying28 rfl (by rw [cellsK_len]; exact sizSig) (hK _ _ hH (Keeps.refl _) rfl)
          · as_aux_lemma =>
            intro fa w K hN hF hH hG hK
            obtain ⟨x86, s86, rfl⟩ := good_slot hG 59 _ 86 rfl rfl rfl
            have e86 := s86.at
            obtain ⟨x87, s87, rfl⟩ := good_slot hG 60 _ 87 rfl rfl rfl
            have e87 := s87.at
            obtain ⟨x85, s85, rfl⟩ := good_slot hG 58 _ 85 rfl rfl rfl
            rw [if_pos (wanted_slot (g := 58) rfl rfl rfl s85)]
            go_simp
            (go_at_call 21; (refine (CH.out _ (KZ.out.trans hH)).mono ?_); rintro e w' ⟨rfl, hk⟩)
            exact hK _ _ (hH.trans hk) hk rfl
          · as_aux_lemma =>
            intro fa w K hN hF hH hG hK
            have s5 : Slot fa 5 (.int .u64 77) := hF.2 (5, .int .u64 77) (by simp)
            have e5 := s5.at
            obtain ⟨x85, s85, rfl⟩ := good_slot hG 58 _ 85 rfl rfl rfl
            rw [if_pos (wanted_slot (g := 58) rfl rfl rfl s85)]
            refine wp_value (.int .u64 77) ?_ (hK _ _ hH (Keeps.refl _) rfl)
            go_simp
          · as_aux_lemma =>
            intro fa w K hN hF hH hG hK
            obtain ⟨x88, s88, rfl⟩ := good_slot hG 61 _ 88 rfl rfl rfl
            have e88 := s88.at
            obtain ⟨x89, s89, rfl⟩ := good_slot hG 62 _ 89 rfl rfl rfl
            have e89 := s89.at
            obtain ⟨x85, s85, rfl⟩ := good_slot hG 58 _ 85 rfl rfl rfl
            rw [if_pos (wanted_slot (g := 58) rfl rfl rfl s85)]
            refine wp_value (.bool true) ?_ (hK _ _ hH (Keeps.refl _) rfl)
            go_simp
          · as_aux_lemma =>
            intro fa w K hN hF hH hG hK
            obtain ⟨x85, s85, rfl⟩ := good_slot hG 58 _ 85 rfl rfl rfl
            have e85 := s85.at
            obtain ⟨x90, s90, rfl⟩ := good_slot hG 63 _ 90 rfl rfl rfl
            have e90 := s90.at
            rw [if_pos (wanted_none rfl)]
            refine wp_value (.bool true) ?_ (hK _ _ hH (Keeps.refl _) rfl)
            go_simp
          · as_aux_lemma =>
            intro fa w K hN hF hH hG hK
            obtain ⟨x91, s91, rfl⟩ := good_slot hG 64 _ 91 rfl rfl rfl
            have e91 := s91.at
            rw [if_pos (wanted_none rfl)]
            refine wp_value (.bool true) ?_ (hK _ _ hH (Keeps.refl _) rfl)
            go_simp
          · as_aux_lemma =>
            intro fa w K hN hF hH hG hK
            have s8 : Slot fa 8 (.pointer (some ⟨zn, 0, none⟩)) := hF.2 (8, .pointer (some ⟨zn, 0, none⟩)) (by simp)
            have e8 := s8.eval
            obtain ⟨x92, s92, rfl⟩ := good_slot hG 65 _ 92 rfl rfl rfl
            rw [if_pos (wanted_slot (g := 65) rfl rfl rfl s92)]
            exact wp_load_mid 28 (.tmp 8) rfl zn 0 e8 (cellsK .u64 [0, 0]) _ ((AN.out.keeps hH).range) Tryd.underlying28 rfl (by rw [cellsK_len]; exact sizSig) (hK _ _ hH (Keeps.refl _) rfl)
          · as_aux_lemma =>
            intro fa w K hN hF hH hG hK
            obtain ⟨x92, s92, rfl⟩ := good_slot hG 65 _ 92 rfl rfl rfl
            rw [if_pos (wanted_slot (g := 65) rfl rfl rfl s92)]
            refine wp_value (.agg #[.int .u64 0, .int .u64 0]) ?_ (hK _ _ hH (Keeps.refl _) rfl)
            go_simp
          · as_aux_lemma =>
            intro fa w K hN hF hH hG hK
            obtain ⟨x93, s93, rfl⟩ := good_slot hG 66 _ 93 rfl rfl rfl
            have e93 := s93.at
            obtain ⟨x94, s94, rfl⟩ := good_slot hG 67 _ 94 rfl rfl rfl
            have e94 := s94.at
            obtain ⟨x92, s92, rfl⟩ := good_slot hG 65 _ 92 rfl rfl rfl
            rw [if_pos (wanted_slot (g := 65) rfl rfl rfl s92)]
            refine wp_value (.bool true) ?_ (hK _ _ hH (Keeps.refl _) rfl)
            go_simp
          · as_aux_lemma =>
            intro fa w K hN hF hH hG hK
            obtain ⟨x92, s92, rfl⟩ := good_slot hG 65 _ 92 rfl rfl rfl
            have e92 := s92.at
            obtain ⟨x95, s95, rfl⟩ := good_slot hG 68 _ 95 rfl rfl rfl
            have e95 := s95.at
            rw [if_pos (wanted_none rfl)]
            refine wp_value (.bool true) ?_ (hK _ _ hH (Keeps.refl _) rfl)
            go_simp
          · as_aux_lemma =>
            intro fa w K hN hF hH hG hK
            obtain ⟨x96, s96, rfl⟩ := good_slot hG 69 _ 96 rfl rfl rfl
            have e96 := s96.at
            rw [if_pos (wanted_none rfl)]
            refine wp_value (.bool true) ?_ (hK _ _ hH (Keeps.refl _) rfl)
            go_simp
          · as_aux_lemma =>
            intro fa w K hN hF hH hG hK
            have s1 : Slot fa 1 (.int .u64 (k : Int)) := hF.2 (1, .int .u64 (k : Int)) (by simp)
            have e1 := s1.at
            obtain ⟨x97, s97, rfl⟩ := good_slot hG 70 _ 97 rfl rfl rfl
            rw [if_pos (wanted_slot (g := 70) rfl rfl rfl s97)]
            refine wp_value (.int .u64 (k : Int)) ?_ (hK _ _ hH (Keeps.refl _) rfl)
            go_simp
          · as_aux_lemma =>
            intro fa w K hN hF hH hG hK
            have s3 : Slot fa 3 (.pointer (some ⟨zm, 0, none⟩)) := hF.2 (3, .pointer (some ⟨zm, 0, none⟩)) (by simp)
            have e3 := s3.eval
            obtain ⟨x97, s97, rfl⟩ := good_slot hG 70 _ 97 rfl rfl rfl
            rw [if_pos (wanted_slot (g := 70) rfl rfl rfl s97)]
            exact wp_load_mid 23 (.tmp 3) rfl zm 0 e3 (vals8 sumTwo) _ ((AM4.out.keeps hH).range) undSum rfl (by rw [show (vals8 sumTwo).length = 32 by rw [vals8, List.length_map]; exact S2.out.1]; exact sizSum) (hK _ _ hH (Keeps.refl _) rfl)
          · as_aux_lemma =>
            intro fa w K hN hF hH hG hK
            obtain ⟨x98, s98, rfl⟩ := good_slot hG 71 _ 98 rfl rfl rfl
            have e98 := s98.at
            obtain ⟨x99, s99, rfl⟩ := good_slot hG 72 _ 99 rfl rfl rfl
            have e99 := s99.at
            obtain ⟨x97, s97, rfl⟩ := good_slot hG 70 _ 97 rfl rfl rfl
            rw [if_pos (wanted_slot (g := 70) rfl rfl rfl s97)]
            go_simp
            (go_at_call 13; (refine (CI.out _ (KZ.out.trans hH)).mono ?_); rintro e w' ⟨rfl, hk⟩)
            exact hK _ _ (hH.trans hk) hk rfl
          · as_aux_lemma =>
            intro fa w K hN hF hH hG hK
            obtain ⟨x97, s97, rfl⟩ := good_slot hG 70 _ 97 rfl rfl rfl
            rw [if_pos (wanted_slot (g := 70) rfl rfl rfl s97)]
            refine wp_value (.agg #[.int .u64 0, .int .u64 0]) ?_ (hK _ _ hH (Keeps.refl _) rfl)
            go_simp
          · as_aux_lemma =>
            intro fa w K hN hF hH hG hK
            obtain ⟨x100, s100, rfl⟩ := good_slot hG 73 _ 100 rfl rfl rfl
            have e100 := s100.at
            obtain ⟨x101, s101, rfl⟩ := good_slot hG 74 _ 101 rfl rfl rfl
            have e101 := s101.at
            obtain ⟨x97, s97, rfl⟩ := good_slot hG 70 _ 97 rfl rfl rfl
            rw [if_pos (wanted_slot (g := 70) rfl rfl rfl s97)]
            refine wp_value (.bool true) ?_ (hK _ _ hH (Keeps.refl _) rfl)
            go_simp
          · as_aux_lemma =>
            intro fa w K hN hF hH hG hK
            obtain ⟨x97, s97, rfl⟩ := good_slot hG 70 _ 97 rfl rfl rfl
            have e97 := s97.at
            obtain ⟨x102, s102, rfl⟩ := good_slot hG 75 _ 102 rfl rfl rfl
            have e102 := s102.at
            rw [if_pos (wanted_none rfl)]
            refine wp_value (.bool true) ?_ (hK _ _ hH (Keeps.refl _) rfl)
            go_simp
          · as_aux_lemma =>
            intro fa w K hN hF hH hG hK
            obtain ⟨x103, s103, rfl⟩ := good_slot hG 76 _ 103 rfl rfl rfl
            have e103 := s103.at
            rw [if_pos (wanted_none rfl)]
            refine wp_value (.bool true) ?_ (hK _ _ hH (Keeps.refl _) rfl)
            go_simp
          · as_aux_lemma =>
            intro fa w K hN hF hH hG hK
            have s6 : Slot fa 6 (.pointer (some ⟨ga, 0, none⟩)) := hF.2 (6, .pointer (some ⟨ga, 0, none⟩)) (by simp)
            have e6 := s6.eval
            obtain ⟨x104, s104, rfl⟩ := good_slot hG 77 _ 104 rfl rfl rfl
            rw [if_pos (wanted_slot (g := 77) rfl rfl rfl s104)]
            exact wp_load_mid 28 (.tmp 6) rfl ga 0 e6 (cellsK .u64 [ar, at_]) _ ((AA4.out.keeps hH).range) Tryd.underlying28 rfl (by rw [cellsK_len]; exact sizSig) (hK _ _ hH (Keeps.refl _) rfl)
          · as_aux_lemma =>
            intro fa w K hN hF hH hG hK
            obtain ⟨x105, s105, rfl⟩ := good_slot hG 78 _ 105 rfl rfl rfl
            have e105 := s105.at
            obtain ⟨x104, s104, rfl⟩ := good_slot hG 77 _ 104 rfl rfl rfl
            rw [if_pos (wanted_slot (g := 77) rfl rfl rfl s104)]
            go_simp
            (go_at_call 19; (refine (CJ.out _ (KZ.out.trans hH)).mono ?_); rintro e w' ⟨rfl, hk⟩)
            exact hK _ _ (hH.trans hk) hk rfl
          · as_aux_lemma =>
            intro fa w K hN hF hH hG hK
            obtain ⟨x104, s104, rfl⟩ := good_slot hG 77 _ 104 rfl rfl rfl
            rw [if_pos (wanted_slot (g := 77) rfl rfl rfl s104)]
            refine wp_value (.agg #[.int .u64 0, .int .u64 0]) ?_ (hK _ _ hH (Keeps.refl _) rfl)
            go_simp
          · as_aux_lemma =>
            intro fa w K hN hF hH hG hK
            obtain ⟨x106, s106, rfl⟩ := good_slot hG 79 _ 106 rfl rfl rfl
            have e106 := s106.at
            obtain ⟨x107, s107, rfl⟩ := good_slot hG 80 _ 107 rfl rfl rfl
            have e107 := s107.at
            obtain ⟨x104, s104, rfl⟩ := good_slot hG 77 _ 104 rfl rfl rfl
            rw [if_pos (wanted_slot (g := 77) rfl rfl rfl s104)]
            refine wp_value (.bool true) ?_ (hK _ _ hH (Keeps.refl _) rfl)
            go_simp
          · as_aux_lemma =>
            intro fa w K hN hF hH hG hK
            obtain ⟨x104, s104, rfl⟩ := good_slot hG 77 _ 104 rfl rfl rfl
            have e104 := s104.at
            obtain ⟨x108, s108, rfl⟩ := good_slot hG 81 _ 108 rfl rfl rfl
            have e108 := s108.at
            rw [if_pos (wanted_none rfl)]
            refine wp_value (.bool true) ?_ (hK _ _ hH (Keeps.refl _) rfl)
            go_simp
          · as_aux_lemma =>
            intro fa w K hN hF hH hG hK
            obtain ⟨x109, s109, rfl⟩ := good_slot hG 82 _ 109 rfl rfl rfl
            have e109 := s109.at
            rw [if_pos (wanted_none rfl)]
            refine wp_value (.bool true) ?_ (hK _ _ hH (Keeps.refl _) rfl)
            go_simp
      · refine ⟨?_, ?_, ?_, ?_, trivial⟩
        · as_aux_lemma =>
          intro fa w K hN hF hH hG hK
          have s3 : Slot fa 3 (.pointer (some ⟨zm, 0, none⟩)) := hF.2 (3, .pointer (some ⟨zm, 0, none⟩)) (by simp)
          have e3 := s3.eval
          rw [if_pos (wanted_none rfl)]
          exact wp_load_mid 23 (.tmp 3) rfl zm 0 e3 (vals8 sumTwo) _ ((AMB.out.keeps hH).range) undSum rfl (by rw [show (vals8 sumTwo).length = 32 by rw [vals8, List.length_map]; exact S2.out.1]; exact sizSum) (hK _ _ hH (StepM.of (Keeps.refl _)) rfl)
        · as_aux_lemma =>
          intro fa w K hN hF hH hG hK
          obtain ⟨x25, s25, rfl⟩ := good_slot hG 0 _ 25 rfl rfl rfl
          have e25 := s25.at
          rw [if_pos (wanted_none rfl)]
          go_simp
          (go_at_call 11; (refine (C7.out _ (KB.out.trans hH)).mono ?_); rintro e w' ⟨rfl, hk⟩)
          exact hK _ _ (hH.trans hk) (StepM.of hk) rfl
        · as_aux_lemma =>
          intro fa w K hN hF hH hG hK
          rw [if_pos (wanted_none rfl)]
          go_simp
          exact hK _ _ (hH.alloc _) (StepM.of ((Keeps.refl _).alloc _)) ⟨_, _, rfl, hH.size, (MapKept.heap_alloc w _).1, rfl⟩
        · as_aux_lemma =>
          intro fa w K hN hF hH hG hK
          obtain ⟨x8, s8, g8, cs8, rfl, b8, m8, n8⟩ := good_slot hG 2 _ 8 rfl rfl rfl
          have e8 := s8.eval
          obtain ⟨x26, s26, rfl⟩ := good_slot hG 1 _ 26 rfl rfl rfl
          have e26 := s26.eval
          rw [if_pos (wanted_none rfl)]
          refine wp_store_blk (k := .u64) (L := [0, 0]) sizSig _ _ rfl e8 e26 m8 n8 rfl ?_
          exact hK _ _ (below_setRow' hH b8 _) (StepM.row m8 b8 (by rw [n8]; first | rfl | (rw [List.size_toArray, cellsK_len]; exact rfl))) ⟨_, s8.put_other (by simp) _, b8, setRow_heap _ _ _ _ _ _ m8⟩
    · refine ⟨?_, ?_, ?_, ?_, ?_, trivial⟩
      · as_aux_lemma =>
        intro fa w K hN hF hH hG hK
        have s6 : Slot fa 6 (.pointer (some ⟨ga, 0, none⟩)) := hF.2 (6, .pointer (some ⟨ga, 0, none⟩)) (by simp)
        have e6 := s6.eval
        rw [if_pos (wanted_none rfl)]
        exact wp_load_mid 28 (.tmp 6) rfl ga 0 e6 (cellsK .u64 [ar, at_]) _ ((AA.out.keeps hH).range) Tryd.underlying28 rfl (by rw [cellsK_len]; exact sizSig) (hK _ _ hH (StepM.of (Keeps.refl _)) rfl)
      · as_aux_lemma =>
        intro fa w K hN hF hH hG hK
        have s5 : Slot fa 5 (.int .u64 77) := hF.2 (5, .int .u64 77) (by simp)
        have e5 := s5.at
        rw [if_pos (wanted_none rfl)]
        refine wp_value (.int .u64 77) ?_ (hK _ _ hH (StepM.of (Keeps.refl _)) rfl)
        go_simp
      · as_aux_lemma =>
        intro fa w K hN hF hH hG hK
        obtain ⟨x22, s22, rfl⟩ := good_slot hG 0 _ 22 rfl rfl rfl
        have e22 := s22.at
        obtain ⟨x23, s23, rfl⟩ := good_slot hG 1 _ 23 rfl rfl rfl
        have e23 := s23.at
        rw [if_pos (wanted_none rfl)]
        go_simp
        (go_at_call 19; (refine (C6.out _ (KA.out.trans hH)).mono ?_); rintro e w' ⟨rfl, hk⟩)
        exact hK _ _ (hH.trans hk) (StepM.of hk) rfl
      · as_aux_lemma =>
        intro fa w K hN hF hH hG hK
        rw [if_pos (wanted_none rfl)]
        go_simp
        exact hK _ _ (hH.alloc _) (StepM.of ((Keeps.refl _).alloc _)) ⟨_, _, rfl, hH.size, (MapKept.heap_alloc w _).1, rfl⟩
      · as_aux_lemma =>
        intro fa w K hN hF hH hG hK
        obtain ⟨x7, s7, g7, cs7, rfl, b7, m7, n7⟩ := good_slot hG 3 _ 7 rfl rfl rfl
        have e7 := s7.eval
        obtain ⟨x24, s24, rfl⟩ := good_slot hG 2 _ 24 rfl rfl rfl
        have e24 := s24.eval
        rw [if_pos (wanted_none rfl)]
        refine wp_store_blk (k := .u64) (L := [ar, bt]) sizSig _ _ rfl e7 e24 m7 n7 rfl ?_
        exact hK _ _ (below_setRow' hH b7 _) (StepM.row m7 b7 (by rw [n7]; first | rfl | (rw [List.size_toArray, cellsK_len]; exact rfl))) ⟨_, s7.put_other (by simp) _, b7, setRow_heap _ _ _ _ _ _ m7⟩
  · refine ⟨?_, ?_, ?_, ?_, ?_, ?_, ?_, trivial⟩
    · as_aux_lemma =>
      intro fa w K hN hF hH hG hK
      have s1 : Slot fa 1 (.int .u64 (k : Int)) := hF.2 (1, .int .u64 (k : Int)) (by simp)
      have e1 := s1.at
      rw [if_pos (wanted_none rfl)]
      refine wp_value (.int .u64 (k : Int)) ?_ (hK _ _ hH (StepM.of (Keeps.refl _)) rfl)
      go_simp
    · as_aux_lemma =>
      intro fa w K hN hF hH hG hK
      have s3 : Slot fa 3 (.pointer (some ⟨zm, 0, none⟩)) := hF.2 (3, .pointer (some ⟨zm, 0, none⟩)) (by simp)
      have e3 := s3.eval
      rw [if_pos (wanted_none rfl)]
      exact wp_load_mid 23 (.tmp 3) rfl zm 0 e3 (vals8 sumTwo) _ ((AM2.out.keeps hH).range) undSum rfl (by rw [show (vals8 sumTwo).length = 32 by rw [vals8, List.length_map]; exact S2.out.1]; exact sizSum) (hK _ _ hH (StepM.of (Keeps.refl _)) rfl)
    · as_aux_lemma =>
      intro fa w K hN hF hH hG hK
      have s5 : Slot fa 5 (.int .u64 77) := hF.2 (5, .int .u64 77) (by simp)
      have e5 := s5.at
      rw [if_pos (wanted_none rfl)]
      refine wp_value (.int .u64 77) ?_ (hK _ _ hH (StepM.of (Keeps.refl _)) rfl)
      go_simp
    · as_aux_lemma =>
      intro fa w K hN hF hH hG hK
      obtain ⟨x19, s19, rfl⟩ := good_slot hG 2 _ 19 rfl rfl rfl
      have e19 := s19.at
      rw [if_pos (wanted_none rfl)]
      go_simp
      (go_at_call 23; (refine (C4.out _ (KW2.out.trans hH)).mono ?_); rintro e w' ⟨rfl, hk⟩)
      exact hK _ _ (hH.trans hk) (StepM.of hk) rfl
    · as_aux_lemma =>
      intro fa w K hN hF hH hG hK
      obtain ⟨x17, s17, rfl⟩ := good_slot hG 0 _ 17 rfl rfl rfl
      have e17 := s17.at
      obtain ⟨x18, s18, rfl⟩ := good_slot hG 1 _ 18 rfl rfl rfl
      have e18 := s18.at
      obtain ⟨x20, s20, rfl⟩ := good_slot hG 3 _ 20 rfl rfl rfl
      have e20 := s20.at
      rw [if_pos (wanted_none rfl)]
      go_simp
      (go_at_call 13; (refine (C5.out _ (KW2.out.trans hH)).mono ?_); rintro e w' ⟨rfl, hk⟩)
      exact hK _ _ (hH.trans hk) (StepM.of hk) rfl
    · as_aux_lemma =>
      intro fa w K hN hF hH hG hK
      rw [if_pos (wanted_none rfl)]
      go_simp
      exact hK _ _ (hH.alloc _) (StepM.of ((Keeps.refl _).alloc _)) ⟨_, _, rfl, hH.size, (MapKept.heap_alloc w _).1, rfl⟩
    · as_aux_lemma =>
      intro fa w K hN hF hH hG hK
      obtain ⟨x6, s6, g6, cs6, rfl, b6, m6, n6⟩ := good_slot hG 5 _ 6 rfl rfl rfl
      have e6 := s6.eval
      obtain ⟨x21, s21, rfl⟩ := good_slot hG 4 _ 21 rfl rfl rfl
      have e21 := s21.eval
      rw [if_pos (wanted_none rfl)]
      refine wp_store_blk (k := .u64) (L := [ar, at_]) sizSig _ _ rfl e6 e21 m6 n6 rfl ?_
      exact hK _ _ (below_setRow' hH b6 _) (StepM.row m6 b6 (by rw [n6]; first | rfl | (rw [List.size_toArray, cellsK_len]; exact rfl))) ⟨_, s6.put_other (by simp) _, b6, setRow_heap _ _ _ _ _ _ m6⟩
end Go.Proofs.YtkpjpocokbmlbaaDoor
/- A signature that comes in. -/
namespace Go.Proofs.YtkpjpocokbmlbaaDoor
open Go.RowKit

theorem twoSig : Tryd.prog.cellsOf 28 = 2 := by kernel_rfl
theorem sig_came {H : Type} {enc : TypeId × Value → H} {w : World} {held : Bool} {r : Reach} {b0 : Nat} {v : Value} {d : DataW H} {p : List MemPlace} (hv : Value.okWide Tryd.prog w r b0 28 v) (h : DataW.Trod enc Tryd.prog w 0 (fun _ => true) held 28 v d p) :
    ∃ a b : Nat, v = .agg #[.int .u64 (a : Int), .int .u64 (b : Int)] ∧ a < 18446744073709551616 ∧ b < 18446744073709551616 := by
  obtain ⟨va, vb, y0, y1, m, rfl, _, _, e0, e1⟩ := Joins.open_agg2 Tryd.underlying28 (by kernel_rfl) twoSig hv h
  obtain ⟨n0, c0, _, w0⟩ := DataW.trod_int Tryd.underlying26 e0
  obtain ⟨n1, c1, _, w1⟩ := DataW.trod_int Tryd.underlying25 e1
  have b0 := bounds_u64 w0
  have b1 := bounds_u64 w1
  simp only [List.cons.injEq, and_true] at c0 c1
  subst c0 c1
  exact ⟨n0.toNat, n1.toNat, by rw [show ((n0.toNat : Nat) : Int) = n0 by omega, show ((n1.toNat : Nat) : Int) = n1 by omega], by omega, by omega⟩
end Go.Proofs.YtkpjpocokbmlbaaDoor
/- The table that the program lays, as it comes in. -/
namespace Go.Proofs.YtkpjpocokbmlbaaDoor
open Go.RowKit Go.HashMath

theorem spot_none {w : World} {x : Addr} {v : Value} (c : w.cell? x = some v) : x = ⟨x.block, x.off, none⟩ ∧ x.block < w.heap.size := by
  obtain ⟨b, off, sp⟩ := x
  simp only [World.cell?] at c
  have hb : b < w.heap.size := by
    rcases Nat.lt_or_ge b w.heap.size with g | g
    · exact g
    · rw [Array.getElem?_eq_none g] at c; cases c
  refine ⟨?_, hb⟩
  cases sp with
  | none => rfl
  | some s =>
    split at c
    · simp at c
    · cases c
/-- The table that the program lays. -/
def laidRoots : List (String × DataW Unit) := [("corsned/hash.roots", Rows.laid_corsned_hash_roots)]
theorem roots_in {w : World} (h : laidMetH Tryd.prog laidRoots w) : RootsIn w := by
  rw [MakeChecks.laidMetH_plain _ _ _ (by kernel_rfl)] at h
  have e : laidRoots = [("corsned/hash.roots", Lib.tabData .u32 (addW.map fun x : Nat => (x : Int)))] := by kernel_rfl
  rw [e] at h
  have t := Lib.tabIs_of_head (g := 2) (t := 98) (e := 70) (n := 64) (by kernel_rfl) (by kernel_rfl) Tryd.underlying98 Tryd.underlying70 (by kernel_rfl) (by kernel_rfl) h
  have c : ∀ i, i < 64 → w.cell? ⟨2, i, none⟩ = some (.int .u32 ((addW.getD i 0 : Nat) : Int)) := fun i hi => by
    have hl : addW.length = 64 := by decide
    have := t.cell (g := 2) (by kernel_rfl) i (by rw [List.length_map, hl]; exact hi)
    rw [this]
    simp [List.getD, hl, hi]
  exact ⟨(spot_none (c 0 (by decide))).2, c⟩
end Go.Proofs.YtkpjpocokbmlbaaDoor
/- Arguments that come in: numbers. -/
namespace Go.Proofs.YtkpjpocokbmlbaaDoor
open Go.RowKit

theorem arg_u8 {n : Int} (h : (Lit.int .u8 n).wf = true) : ∃ m : Nat, n = (m : Int) ∧ m < 256 := by
  have := bounds_u8 h
  exact ⟨n.toNat, by omega, by omega⟩
theorem arg_u32 {n : Int} (h : (Lit.int .u32 n).wf = true) : ∃ m : Nat, n = (m : Int) ∧ m < 4294967296 := by
  have := bounds_u32 h
  exact ⟨n.toNat, by omega, by omega⟩
theorem arg_u64 {n : Int} (h : (Lit.int .u64 n).wf = true) : ∃ m : Nat, n = (m : Int) ∧ m < 18446744073709551616 := by
  have := bounds_u64 h
  exact ⟨n.toNat, by omega, by omega⟩
end Go.Proofs.YtkpjpocokbmlbaaDoor
/- Arguments that come in: numbers, sums. -/
namespace Go.Proofs.YtkpjpocokbmlbaaDoor
open Go.RowKit

theorem sum_came {H : Type} {enc : TypeId × Value → H} {w : World} {held : Bool} {r : Reach} {b0 : Nat} {v : Value} {d : DataW H} {p : List MemPlace} (hv : Value.okWide Tryd.prog w r b0 23 v) (h : DataW.Trod enc Tryd.prog w 0 (fun _ => true) held 23 v d p) :
    ∃ l, v = .agg (vals8 l).toArray ∧ Sum32 l := by
  have cT : Tryd.prog.cellsOf 23 = 32 := by kernel_rfl
  have c1 : Tryd.prog.cellsOf 5 = 1 := by kernel_rfl
  simp only [Value.okWide, undSum] at hv
  obtain ⟨cs, rfl, hsz, _⟩ := hv
  rw [cT] at hsz
  obtain ⟨fuel, hf⟩ := h
  obtain ⟨xs, m, rfl, _, hlen, hn, hel⟩ := DataW.trod_array undSum hf
  have each : ∀ i, i < 32 → ∃ z : Nat, z < 256 ∧ cs.toList[i]? = some (.int .u8 (z : Int)) := fun i hi => by
    have e := hel i hi
    rw [c1, Nat.mul_one, List.getElem?_eq_getElem (by omega)] at e
    obtain ⟨n, e1, _, hw⟩ := DataW.trod_int Tryd.underlying5 e
    have hb := bounds_u8 hw
    refine ⟨n.toNat, by omega, ?_⟩
    have e2 := congrArg (·[0]?) e1
    have e3 : cs.toList[i]? = some (.int .u8 n) := by simpa [Value.cells, List.getElem?_take, List.getElem?_drop] using e2
    rw [e3, show ((n.toNat : Nat) : Int) = n by omega]
  have all : ∀ i : Nat, ∃ z : Nat, z < 256 ∧ (i < 32 → cs.toList[i]? = some (.int .u8 (z : Int))) := fun i => by
    by_cases g : i < 32
    · obtain ⟨z, h1, h2⟩ := each i g; exact ⟨z, h1, fun _ => h2⟩
    · exact ⟨0, by decide, fun q => absurd q g⟩
  refine ⟨(List.range 32).map fun i => Classical.choose (all i), ?_, by simp, fun x hx => ?_⟩
  · congr 1
    apply Array.ext'
    apply List.ext_getElem?
    intro i
    by_cases hi : i < 32
    · rw [(Classical.choose_spec (all i)).2 hi]
      simp [vals8, hi]
    · rw [List.getElem?_eq_none (by simpa [hsz] using hi), List.getElem?_eq_none (by simp [vals8]; omega)]
  · obtain ⟨i, _, rfl⟩ := List.mem_map.1 hx
    exact (Classical.choose_spec (all i)).1
end Go.Proofs.YtkpjpocokbmlbaaDoor
