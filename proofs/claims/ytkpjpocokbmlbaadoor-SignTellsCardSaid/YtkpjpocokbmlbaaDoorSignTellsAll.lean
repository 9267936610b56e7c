/- For any seed, any scalar, any sum, any two points and any two signatures the law SignTells of package sign answers true, and its arguments read as they did: no conditions. -/
import Derived.Test.YtkpjpocokbmlbaaDoorRows
import Derived.Test.YtkpjpocokbmlbaaDoorB1
import Derived.Test.YtkpjpocokbmlbaaDoorB2
import Derived.Test.YtkpjpocokbmlbaaDoorB3
import Derived.Test.YtkpjpocokbmlbaaDoorB4
import Derived.Test.YtkpjpocokbmlbaaDoorB5
import Derived.Test.YtkpjpocokbmlbaaDoorB6
import Derived.Test.YtkpjpocokbmlbaaDoorB7
import Derived.Test.YtkpjpocokbmlbaaDoorCards
import Derived.Test.YtkpjpocokbmlbaaDoorTie
import Derived.WalkKit
import Derived.ProofKit
import Derived.LaidMore
import Derived.OpenShut
import Derived.Stop.Joined
import Derived.ShutString
import Derived.ChangeOld
import Derived.Below
import Derived.SevenTiedAt
set_option linter.unusedVariables false
set_option linter.unusedSimpArgs false
/- The walk of the law SignTells: the Go text answers true. -/
namespace Go.Proofs.YtkpjpocokbmlbaaDoor
open Go.RowKit Go.FieldMath Go.PointMath Go.HashMath

set_option maxHeartbeats 2000000 in
set_option maxRecDepth 100000 in
theorem tells_walk {R : World → Prop} (hR : Stable R) (K : SignC R) (P : PointC) (F : FieldC) (h : List Nat) (k : Nat) (m : List Nat) (p t r s q u : Nat) (w : World) (hw : R w) (hh : Sum32 h) (hk : k < 18446744073709551616) (hm : Sum32 m) (hp : p < 18446744073709551616) (ht : t < 18446744073709551616) (hr : r < 18446744073709551616) (hs : s < 18446744073709551616) (hq : q < 18446744073709551616) (hu : u < 18446744073709551616) :
    Calls Tryd.prog 3 #[.agg (vals8 h).toArray, .int .u64 (k : Int), .agg (vals8 m).toArray, .int .u64 (p : Int), .int .u64 (t : Int), .agg #[.int .u64 (r : Int), .int .u64 (s : Int)], .agg #[.int .u64 (q : Int), .int .u64 (u : Int)]] w fun e w' => e = .returned (.bool true) ∧ Keeps w w' := by
  have RW := Lib.hid (fun w' (q : Keeps w w') => hR w w' hw q)
  have SM := Lib.hid (fun w' (q : Keeps w w') => sign_small hR K P F w' (RW.out _ q))
  have HM := Lib.hid hm
  have HH := Lib.hid hh
  have LS0 := Lib.hid (sg_lt hr hs)
  have LS1 := Lib.hid (sg_lt hq hu)
  have C1 := Lib.hid (show ∀ w', Keeps w w' → Calls Tryd.prog 9 #[.agg (vals8 h).toArray] w' (fun e wz => e = .returned (.int .u64 (keyS h : Int)) ∧ Keeps w' wz) from fun w' zq => K.ckey h w' hh (RW.out _ zq))
  have C1r := Lib.hid (show ∀ w', Keeps w w' → Calls Tryd.prog 10 #[.agg (vals8 h).toArray] w' (fun e wz => e = .returned (.int .u64 (keyS h : Int)) ∧ Keeps w' wz) from fun w' _ => ref7_ky h w' hh)
  have C2 := Lib.hid (show ∀ w', Keeps w w' → Calls Tryd.prog 11 #[.int .u64 (k : Int), .agg (vals8 m).toArray] w' (fun e wz => e = .returned (.agg #[.int .u64 (signR k m : Int), .int .u64 (signT k m : Int)]) ∧ Keeps w' wz) from fun w' zq => K.csign k m w' hk hm (RW.out _ zq))
  have C2r := Lib.hid (show ∀ w', Keeps w w' → Calls Tryd.prog 12 #[.int .u64 (k : Int), .agg (vals8 m).toArray] w' (fun e wz => e = .returned (.agg #[.int .u64 (signR k m : Int), .int .u64 (signT k m : Int)]) ∧ Keeps w' wz) from fun w' _ => ref7_sign k m hk hm w')
  have C3 := Lib.hid (show ∀ w', Keeps w w' → Calls Tryd.prog 13 #[.int .u64 (k : Int), .agg (vals8 m).toArray, .int .u64 (t : Int)] w' (fun e wz => e = .returned (.agg #[.int .u64 (preR k m t : Int), .int .u64 (preT k m t : Int)]) ∧ Keeps w' wz) from fun w' zq => K.cpre k m t w' hk hm ht (RW.out _ zq))
  have C3r := Lib.hid (show ∀ w', Keeps w w' → Calls Tryd.prog 14 #[.int .u64 (k : Int), .agg (vals8 m).toArray, .int .u64 (t : Int)] w' (fun e wz => e = .returned (.agg #[.int .u64 (preR k m t : Int), .int .u64 (preT k m t : Int)]) ∧ Keeps w' wz) from fun w' _ => ref7_pre k m t hk hm ht w')
  have C4 := Lib.hid (show ∀ w', Keeps w w' → Calls Tryd.prog 15 #[.int .u64 (p : Int), .agg (vals8 m).toArray, .agg #[.int .u64 (r : Int), .int .u64 (s : Int)]] w' (fun e wz => e = .returned (.bool (holdsB p m 1 r s)) ∧ Keeps w' wz) from fun w' zq => K.cverify p m r s w' hp hm hr hs (RW.out _ zq))
  have C4r := Lib.hid (show ∀ w', Keeps w w' → Calls Tryd.prog 16 #[.int .u64 (p : Int), .agg (vals8 m).toArray, .agg #[.int .u64 (r : Int), .int .u64 (s : Int)]] w' (fun e wz => e = .returned (.bool (holdsB p m 1 r s)) ∧ Keeps w' wz) from fun w' _ => ref7_verify p m r s hp hm hr hs w')
  have C5 := Lib.hid (show ∀ w', Keeps w w' → Calls Tryd.prog 17 #[.int .u64 (p : Int), .agg (vals8 m).toArray, .int .u64 (t : Int), .agg #[.int .u64 (r : Int), .int .u64 (s : Int)]] w' (fun e wz => e = .returned (.bool (holdsB p m t r s)) ∧ Keeps w' wz) from fun w' zq => K.cchecks p m t r s w' hp hm ht hr hs (RW.out _ zq))
  have C5r := Lib.hid (show ∀ w', Keeps w w' → Calls Tryd.prog 18 #[.int .u64 (p : Int), .agg (vals8 m).toArray, .int .u64 (t : Int), .agg #[.int .u64 (r : Int), .int .u64 (s : Int)]] w' (fun e wz => e = .returned (.bool (holdsB p m t r s)) ∧ Keeps w' wz) from fun w' _ => ref7_checks p m t r s hp hm ht hr hs w')
  have C6 := Lib.hid (show ∀ w', Keeps w w' → Calls Tryd.prog 19 #[.agg #[.int .u64 (r : Int), .int .u64 (s : Int)], .int .u64 (k : Int)] w' (fun e wz => e = .returned (.agg #[.int .u64 (adaptR r s k : Int), .int .u64 (adaptT s k : Int)]) ∧ Keeps w' wz) from fun w' zq => K.cadapt r s k w' hr hs hk)
  have C6r := Lib.hid (show ∀ w', Keeps w w' → Calls Tryd.prog 20 #[.agg #[.int .u64 (r : Int), .int .u64 (s : Int)], .int .u64 (k : Int)] w' (fun e wz => e = .returned (.agg #[.int .u64 (adaptR r s k : Int), .int .u64 (adaptT s k : Int)]) ∧ Keeps w' wz) from fun w' _ => ref7_adapt r s k hr hs hk w')
  have C7 := Lib.hid (show ∀ w', Keeps w w' → Calls Tryd.prog 21 #[.agg #[.int .u64 (r : Int), .int .u64 (s : Int)], .agg #[.int .u64 (q : Int), .int .u64 (u : Int)]] w' (fun e wz => e = .returned (.int .u64 (extrS s u : Int)) ∧ Keeps w' wz) from fun w' zq => K.cextract r s q u w' hr hs hq hu)
  have C7r := Lib.hid (show ∀ w', Keeps w w' → Calls Tryd.prog 22 #[.agg #[.int .u64 (r : Int), .int .u64 (s : Int)], .agg #[.int .u64 (q : Int), .int .u64 (u : Int)]] w' (fun e wz => e = .returned (.int .u64 (extrS s u : Int)) ∧ Keeps w' wz) from fun w' _ => ref7_extract r s q u hr hs hq hu w')
  generalize keyS h = x1 at *
  generalize signR k m = x2 at *
  generalize signT k m = x3 at *
  generalize preR k m t = x4 at *
  generalize preT k m t = x5 at *
  generalize holdsB p m 1 r s = b1 at *
  generalize holdsB p m t r s = b2 at *
  generalize adaptR r s k = x6 at *
  generalize adaptT s k = x7 at *
  generalize extrS s u = x8 at *
  clear hR K P F hw hh hk hm hp ht hr hs hq hu
  go_enter Tryd.func3, Tryd.ntmps3
  go_upto_region 1 with fail
  obtain ⟨W0, eW⟩ : ∃ W, W = ((((w.alloc (.cells (vals8 h).toArray 23)).alloc (.cells (vals8 m).toArray 23)).alloc (.cells #[.int .u64 (r : Int), .int .u64 (s : Int)] 28)).alloc (.cells #[.int .u64 (q : Int), .int .u64 (u : Int)] 28)) := ⟨_, rfl⟩
  have B0 : ArrN .u8 256 23 W0 (w.heap.size) h := by
    rw [eW]
    have q := ArrN.new (k := .u8) (m := 256) (T := 23) w h HH.out.2
    try simp only [World.size_alloc, Nat.add_assoc, Nat.reduceAdd] at q
    exact (((q.keeps ((Keeps.refl _).alloc _)).keeps ((Keeps.refl _).alloc _)).keeps ((Keeps.refl _).alloc _))
  have B1 : ArrN .u8 256 23 W0 (w.heap.size + 1) m := by
    rw [eW]
    have q := ArrN.new (k := .u8) (m := 256) (T := 23) (w.alloc (.cells (vals8 h).toArray 23)) m HM.out.2
    try simp only [World.size_alloc, Nat.add_assoc, Nat.reduceAdd] at q
    exact ((q.keeps ((Keeps.refl _).alloc _)).keeps ((Keeps.refl _).alloc _))
  have B2 : SigAt W0 (w.heap.size + 2) r s := by
    rw [eW]
    have q := ArrN.new (k := .u64) (m := 18446744073709551616) (T := 28) ((w.alloc (.cells (vals8 h).toArray 23)).alloc (.cells (vals8 m).toArray 23)) [r, s] LS0.out
    try simp only [World.size_alloc, Nat.add_assoc, Nat.reduceAdd] at q
    exact (q.keeps ((Keeps.refl _).alloc _))
  have B3 : SigAt W0 (w.heap.size + 3) q u := by
    rw [eW]
    have q := ArrN.new (k := .u64) (m := 18446744073709551616) (T := 28) (((w.alloc (.cells (vals8 h).toArray 23)).alloc (.cells (vals8 m).toArray 23)).alloc (.cells #[.int .u64 (r : Int), .int .u64 (s : Int)] 28)) [q, u] LS1.out
    try simp only [World.size_alloc, Nat.add_assoc, Nat.reduceAdd] at q
    exact q
  have K0 : Keeps w W0 := by rw [eW]; exact (((((Keeps.refl w).alloc _).alloc _).alloc _).alloc _)
  change Code.wp _ _ _ _ ((((w.alloc (.cells (vals8 h).toArray 23)).alloc (.cells (vals8 m).toArray 23)).alloc (.cells #[.int .u64 (r : Int), .int .u64 (s : Int)] 28)).alloc (.cells #[.int .u64 (q : Int), .int .u64 (u : Int)] 28))
  rw [← eW]
  clear eW
  generalize w.heap.size + 3 = z3 at *
  generalize w.heap.size + 2 = z2 at *
  generalize w.heap.size + 1 = z1 at *
  generalize w.heap.size = z0 at *
  have M0B0 := Lib.hid B0
  have M0B1 := Lib.hid B1
  have M0B2 := Lib.hid B2
  have M0B3 := Lib.hid B3
  have K0 := Lib.hid K0
  clear B0 B1 B2 B3
  refine region_plain2 (N := 85) (fix := ([(1, .int .u64 (k : Int)), (3, .int .u64 (p : Int)), (4, .int .u64 (t : Int)), (7, .pointer (some ⟨z0, 0, none⟩)), (9, .pointer (some ⟨z1, 0, none⟩)), (12, .pointer (some ⟨z2, 0, none⟩)), (13, .pointer (some ⟨z3, 0, none⟩))] : List (Tmp × Value)).map (·.1)) (Fix := FixOf [(1, .int .u64 (k : Int)), (3, .int .u64 (p : Int)), (4, .int .u64 (t : Int)), (7, .pointer (some ⟨z0, 0, none⟩)), (9, .pointer (some ⟨z1, 0, none⟩)), (12, .pointer (some ⟨z2, 0, none⟩)), (13, .pointer (some ⟨z3, 0, none⟩))]) (H := Keeps W0) (R := Keeps) (deps := fun gi => ([[], []] : List (List Tmp)).getD gi []) (Good := goodOf2 [valA (.bool true), valA (.bool true)])
    (fix_all _) (fun gi gv ga gw gx hl => good_lasts2 (R := Keeps) (gs := [valA (.bool true), valA (.bool true)]) (k := 0) ⟨Or.inr (valA_lasts _), Or.inr (valA_lasts _), trivial⟩ gi gv ga gw gx (by rw [Nat.zero_add]; exact hl)) (fun gi gv ga gb gw hd => good_leans (dss := [[], []]) (gs := [valA (.bool true), valA (.bool true)]) (k := 0) ⟨valA_leans _ _, valA_leans _ _, trivial⟩ gi gv ga gb gw (by rw [Nat.zero_add]; exact hd))
    (by kernel_rfl) (by kernel_rfl) (by kernel_rfl) (by kernel_rfl) rfl ?_ (Keeps.refl _) ?_ ?_
  · refine ⟨rfl, fun x hx => ?_⟩
    simp only [List.mem_cons, List.not_mem_nil, or_false] at hx
    rcases hx with rfl | rfl | rfl | rfl | rfl | rfl | rfl
    · rfl
    · rfl
    · rfl
    · rfl
    · rfl
    · rfl
    · rfl
  · intro fa w hN hF hH hG
    have V1M0B0 := Lib.hid (M0B0.out.keeps hH)
    have V1M0B1 := Lib.hid (M0B1.out.keeps hH)
    have V1M0B2 := Lib.hid (M0B2.out.keeps hH)
    have V1M0B3 := Lib.hid (M0B3.out.keeps hH)
    have VK1 := Lib.hid (K0.out.trans hH)
    obtain ⟨tm, df⟩ := fa
    obtain rfl : df = [] := hF.1
    have hdf : (⟨tm, []⟩ : Act).defers = [] := rfl
    have hN : (⟨tm, []⟩ : Act).tmps.size = 85 := hN
    have s1 : Slot ⟨tm, []⟩ 1 (.int .u64 (k : Int)) := hF.2 (1, .int .u64 (k : Int)) (by simp)
    have s3 : Slot ⟨tm, []⟩ 3 (.int .u64 (p : Int)) := hF.2 (3, .int .u64 (p : Int)) (by simp)
    have s4 : Slot ⟨tm, []⟩ 4 (.int .u64 (t : Int)) := hF.2 (4, .int .u64 (t : Int)) (by simp)
    have s7 : Slot ⟨tm, []⟩ 7 (.pointer (some ⟨z0, 0, none⟩)) := hF.2 (7, .pointer (some ⟨z0, 0, none⟩)) (by simp)
    have s9 : Slot ⟨tm, []⟩ 9 (.pointer (some ⟨z1, 0, none⟩)) := hF.2 (9, .pointer (some ⟨z1, 0, none⟩)) (by simp)
    have s12 : Slot ⟨tm, []⟩ 12 (.pointer (some ⟨z2, 0, none⟩)) := hF.2 (12, .pointer (some ⟨z2, 0, none⟩)) (by simp)
    have s13 : Slot ⟨tm, []⟩ 13 (.pointer (some ⟨z3, 0, none⟩)) := hF.2 (13, .pointer (some ⟨z3, 0, none⟩)) (by simp)
    obtain ⟨x15, s15, rfl⟩ := good_end hG 1 _ 15 rfl rfl
    have s15 : Slot ⟨tm, []⟩ 15 (.bool true) := s15
    clear hF hG
    obtain ⟨W1, eW⟩ : ∃ x, x = w := ⟨_, rfl⟩
    rw [← eW] at V1M0B0 V1M0B1 V1M0B2 V1M0B3 VK1 ⊢
    clear eW hH
    go_upto_region 2 with fail
    refine region_drawn2 (a := ⟨tm, []⟩) (N := 85) (fix := ([(1, .int .u64 (k : Int)), (3, .int .u64 (p : Int)), (4, .int .u64 (t : Int)), (7, .pointer (some ⟨z0, 0, none⟩)), (9, .pointer (some ⟨z1, 0, none⟩)), (12, .pointer (some ⟨z2, 0, none⟩)), (13, .pointer (some ⟨z3, 0, none⟩)), (15, .bool true)] : List (Tmp × Value)).map (·.1)) (Fix := FixOf [(1, .int .u64 (k : Int)), (3, .int .u64 (p : Int)), (4, .int .u64 (t : Int)), (7, .pointer (some ⟨z0, 0, none⟩)), (9, .pointer (some ⟨z1, 0, none⟩)), (12, .pointer (some ⟨z2, 0, none⟩)), (13, .pointer (some ⟨z3, 0, none⟩)), (15, .bool true)]) (H := Keeps W1) (R := Keeps) (deps := fun gi => ([[], [], [], [], [], [], [], [], [], [], [], [], [], [], [], [], [], [], [], [], [], [], [], [], []] : List (List Tmp)).getD gi []) (Good := goodOf2 [valA (.agg (vals8 h).toArray), valA (.int .u64 (x1 : Int)), valA (.agg (vals8 h).toArray), valA (.int .u64 (x1 : Int)), valA (.bool false), valA (.bool false), valA (.int .u64 (k : Int)), valA (.agg (vals8 m).toArray), valA (.agg #[.int .u64 (x2 : Int), .int .u64 (x3 : Int)]), valA (.int .u64 (k : Int)), valA (.agg (vals8 m).toArray), valA (.agg #[.int .u64 (x2 : Int), .int .u64 (x3 : Int)]), valA (.bool false), valA (.bool false), valA (.bool false), valA (.int .u64 (k : Int)), valA (.agg (vals8 m).toArray), valA (.int .u64 (t : Int)), valA (.agg #[.int .u64 (x4 : Int), .int .u64 (x5 : Int)]), valA (.int .u64 (k : Int)), valA (.agg (vals8 m).toArray), valA (.int .u64 (t : Int)), valA (.agg #[.int .u64 (x4 : Int), .int .u64 (x5 : Int)]), valA (.bool false), valA (.bool false)])
      (by kernel_rfl) (fix_all _) (fun gi gv ga gw gx hl => good_lasts2 (R := Keeps) (gs := [valA (.agg (vals8 h).toArray), valA (.int .u64 (x1 : Int)), valA (.agg (vals8 h).toArray), valA (.int .u64 (x1 : Int)), valA (.bool false), valA (.bool false), valA (.int .u64 (k : Int)), valA (.agg (vals8 m).toArray), valA (.agg #[.int .u64 (x2 : Int), .int .u64 (x3 : Int)]), valA (.int .u64 (k : Int)), valA (.agg (vals8 m).toArray), valA (.agg #[.int .u64 (x2 : Int), .int .u64 (x3 : Int)]), valA (.bool false), valA (.bool false), valA (.bool false), valA (.int .u64 (k : Int)), valA (.agg (vals8 m).toArray), valA (.int .u64 (t : Int)), valA (.agg #[.int .u64 (x4 : Int), .int .u64 (x5 : Int)]), valA (.int .u64 (k : Int)), valA (.agg (vals8 m).toArray), valA (.int .u64 (t : Int)), valA (.agg #[.int .u64 (x4 : Int), .int .u64 (x5 : Int)]), valA (.bool false), valA (.bool false)]) (k := 0) ⟨Or.inr (valA_lasts _), Or.inr (valA_lasts _), Or.inr (valA_lasts _), Or.inr (valA_lasts _), Or.inr (valA_lasts _), Or.inr (valA_lasts _), Or.inr (valA_lasts _), Or.inr (valA_lasts _), Or.inr (valA_lasts _), Or.inr (valA_lasts _), Or.inr (valA_lasts _), Or.inr (valA_lasts _), Or.inr (valA_lasts _), Or.inr (valA_lasts _), Or.inr (valA_lasts _), Or.inr (valA_lasts _), Or.inr (valA_lasts _), Or.inr (valA_lasts _), Or.inr (valA_lasts _), Or.inr (valA_lasts _), Or.inr (valA_lasts _), Or.inr (valA_lasts _), Or.inr (valA_lasts _), Or.inr (valA_lasts _), Or.inr (valA_lasts _), trivial⟩ gi gv ga gw gx (by rw [Nat.zero_add]; exact hl)) (fun gi gv ga gb gw hd => good_leans (dss := [[], [], [], [], [], [], [], [], [], [], [], [], [], [], [], [], [], [], [], [], [], [], [], [], []]) (gs := [valA (.agg (vals8 h).toArray), valA (.int .u64 (x1 : Int)), valA (.agg (vals8 h).toArray), valA (.int .u64 (x1 : Int)), valA (.bool false), valA (.bool false), valA (.int .u64 (k : Int)), valA (.agg (vals8 m).toArray), valA (.agg #[.int .u64 (x2 : Int), .int .u64 (x3 : Int)]), valA (.int .u64 (k : Int)), valA (.agg (vals8 m).toArray), valA (.agg #[.int .u64 (x2 : Int), .int .u64 (x3 : Int)]), valA (.bool false), valA (.bool false), valA (.bool false), valA (.int .u64 (k : Int)), valA (.agg (vals8 m).toArray), valA (.int .u64 (t : Int)), valA (.agg #[.int .u64 (x4 : Int), .int .u64 (x5 : Int)]), valA (.int .u64 (k : Int)), valA (.agg (vals8 m).toArray), valA (.int .u64 (t : Int)), valA (.agg #[.int .u64 (x4 : Int), .int .u64 (x5 : Int)]), valA (.bool false), valA (.bool false)]) (k := 0) ⟨valA_leans _ _, valA_leans _ _, valA_leans _ _, valA_leans _ _, valA_leans _ _, valA_leans _ _, valA_leans _ _, valA_leans _ _, valA_leans _ _, valA_leans _ _, valA_leans _ _, valA_leans _ _, valA_leans _ _, valA_leans _ _, valA_leans _ _, valA_leans _ _, valA_leans _ _, valA_leans _ _, valA_leans _ _, valA_leans _ _, valA_leans _ _, valA_leans _ _, valA_leans _ _, valA_leans _ _, valA_leans _ _, trivial⟩ gi gv ga gb gw (by rw [Nat.zero_add]; exact hd))
      (by kernel_rfl) (by kernel_rfl) (by kernel_rfl) (by kernel_rfl) hN ?_ ((Keeps.refl _).drew) ?_ ?_
    · refine ⟨rfl, fun x hx => ?_⟩
      simp only [List.mem_cons, List.not_mem_nil, or_false] at hx
      rcases hx with rfl | rfl | rfl | rfl | rfl | rfl | rfl | rfl
      · exact s1
      · exact s3
      · exact s4
      · exact s7
      · exact s9
      · exact s12
      · exact s13
      · exact s15
    · intro fa w hN hF hH hG
      have V2V1M0B0 := Lib.hid (V1M0B0.out.keeps hH)
      have V2V1M0B1 := Lib.hid (V1M0B1.out.keeps hH)
      have V2V1M0B2 := Lib.hid (V1M0B2.out.keeps hH)
      have V2V1M0B3 := Lib.hid (V1M0B3.out.keeps hH)
      have VK2 := Lib.hid (VK1.out.trans hH)
      obtain ⟨tm, df⟩ := fa
      obtain rfl : df = [] := hF.1
      have hdf : (⟨tm, []⟩ : Act).defers = [] := rfl
      have hN : (⟨tm, []⟩ : Act).tmps.size = 85 := hN
      have s1 : Slot ⟨tm, []⟩ 1 (.int .u64 (k : Int)) := hF.2 (1, .int .u64 (k : Int)) (by simp)
      have s3 : Slot ⟨tm, []⟩ 3 (.int .u64 (p : Int)) := hF.2 (3, .int .u64 (p : Int)) (by simp)
      have s4 : Slot ⟨tm, []⟩ 4 (.int .u64 (t : Int)) := hF.2 (4, .int .u64 (t : Int)) (by simp)
      have s7 : Slot ⟨tm, []⟩ 7 (.pointer (some ⟨z0, 0, none⟩)) := hF.2 (7, .pointer (some ⟨z0, 0, none⟩)) (by simp)
      have s9 : Slot ⟨tm, []⟩ 9 (.pointer (some ⟨z1, 0, none⟩)) := hF.2 (9, .pointer (some ⟨z1, 0, none⟩)) (by simp)
      have s12 : Slot ⟨tm, []⟩ 12 (.pointer (some ⟨z2, 0, none⟩)) := hF.2 (12, .pointer (some ⟨z2, 0, none⟩)) (by simp)
      have s13 : Slot ⟨tm, []⟩ 13 (.pointer (some ⟨z3, 0, none⟩)) := hF.2 (13, .pointer (some ⟨z3, 0, none⟩)) (by simp)
      have s15 : Slot ⟨tm, []⟩ 15 (.bool true) := hF.2 (15, .bool true) (by simp)
      obtain ⟨x41, s41, rfl⟩ := good_end hG 24 _ 41 rfl rfl
      have s41 : Slot ⟨tm, []⟩ 41 (.bool false) := s41
      have e41 : ∀ hd, tm[41]'hd = .bool false := s41.at
      clear hF hG
      obtain ⟨W2, eW⟩ : ∃ x, x = w := ⟨_, rfl⟩
      rw [← eW] at V2V1M0B0 V2V1M0B1 V2V1M0B2 V2V1M0B3 VK2 ⊢
      clear eW hH
      try go_upto_region 4 with fail
      refine wp_cond_false s41.eval ?_
      go_upto_region 4 with fail
      refine region_drawn2 (a := ⟨tm, []⟩) (N := 85) (fix := ([(1, .int .u64 (k : Int)), (3, .int .u64 (p : Int)), (4, .int .u64 (t : Int)), (7, .pointer (some ⟨z0, 0, none⟩)), (9, .pointer (some ⟨z1, 0, none⟩)), (12, .pointer (some ⟨z2, 0, none⟩)), (13, .pointer (some ⟨z3, 0, none⟩)), (15, .bool true), (41, .bool false)] : List (Tmp × Value)).map (·.1)) (Fix := FixOf [(1, .int .u64 (k : Int)), (3, .int .u64 (p : Int)), (4, .int .u64 (t : Int)), (7, .pointer (some ⟨z0, 0, none⟩)), (9, .pointer (some ⟨z1, 0, none⟩)), (12, .pointer (some ⟨z2, 0, none⟩)), (13, .pointer (some ⟨z3, 0, none⟩)), (15, .bool true), (41, .bool false)]) (H := Keeps W2) (R := Keeps) (deps := fun gi => ([[], [], [], [], [], [], [], [], [], [], [], [], [], [], [], [], [], [], [], [], [], [], [], [], [], [], [], [], [], [], [], [], [], [], [], [], [], [], [], [], [], [], [], []] : List (List Tmp)).getD gi []) (Good := goodOf2 [valA (.bool true), valA (.bool true), valA (.int .u64 (p : Int)), valA (.agg (vals8 m).toArray), valA (.agg #[.int .u64 (r : Int), .int .u64 (s : Int)]), valA (.bool b1), valA (.int .u64 (p : Int)), valA (.agg (vals8 m).toArray), valA (.agg #[.int .u64 (r : Int), .int .u64 (s : Int)]), valA (.bool b1), valA (.bool true), valA (.bool true), valA (.bool true), valA (.int .u64 (p : Int)), valA (.agg (vals8 m).toArray), valA (.int .u64 (t : Int)), valA (.agg #[.int .u64 (r : Int), .int .u64 (s : Int)]), valA (.bool b2), valA (.int .u64 (p : Int)), valA (.agg (vals8 m).toArray), valA (.int .u64 (t : Int)), valA (.agg #[.int .u64 (r : Int), .int .u64 (s : Int)]), valA (.bool b2), valA (.bool true), valA (.bool true), valA (.bool true), valA (.agg #[.int .u64 (r : Int), .int .u64 (s : Int)]), valA (.int .u64 (k : Int)), valA (.agg #[.int .u64 (x6 : Int), .int .u64 (x7 : Int)]), valA (.agg #[.int .u64 (r : Int), .int .u64 (s : Int)]), valA (.int .u64 (k : Int)), valA (.agg #[.int .u64 (x6 : Int), .int .u64 (x7 : Int)]), valA (.bool true), valA (.bool true), valA (.bool true), valA (.agg #[.int .u64 (r : Int), .int .u64 (s : Int)]), valA (.agg #[.int .u64 (q : Int), .int .u64 (u : Int)]), valA (.int .u64 (x8 : Int)), valA (.agg #[.int .u64 (r : Int), .int .u64 (s : Int)]), valA (.agg #[.int .u64 (q : Int), .int .u64 (u : Int)]), valA (.int .u64 (x8 : Int)), valA (.bool true), valA (.bool true), valA (.bool true)])
        (by kernel_rfl) (fix_all _) (fun gi gv ga gw gx hl => good_lasts2 (R := Keeps) (gs := [valA (.bool true), valA (.bool true), valA (.int .u64 (p : Int)), valA (.agg (vals8 m).toArray), valA (.agg #[.int .u64 (r : Int), .int .u64 (s : Int)]), valA (.bool b1), valA (.int .u64 (p : Int)), valA (.agg (vals8 m).toArray), valA (.agg #[.int .u64 (r : Int), .int .u64 (s : Int)]), valA (.bool b1), valA (.bool true), valA (.bool true), valA (.bool true), valA (.int .u64 (p : Int)), valA (.agg (vals8 m).toArray), valA (.int .u64 (t : Int)), valA (.agg #[.int .u64 (r : Int), .int .u64 (s : Int)]), valA (.bool b2), valA (.int .u64 (p : Int)), valA (.agg (vals8 m).toArray), valA (.int .u64 (t : Int)), valA (.agg #[.int .u64 (r : Int), .int .u64 (s : Int)]), valA (.bool b2), valA (.bool true), valA (.bool true), valA (.bool true), valA (.agg #[.int .u64 (r : Int), .int .u64 (s : Int)]), valA (.int .u64 (k : Int)), valA (.agg #[.int .u64 (x6 : Int), .int .u64 (x7 : Int)]), valA (.agg #[.int .u64 (r : Int), .int .u64 (s : Int)]), valA (.int .u64 (k : Int)), valA (.agg #[.int .u64 (x6 : Int), .int .u64 (x7 : Int)]), valA (.bool true), valA (.bool true), valA (.bool true), valA (.agg #[.int .u64 (r : Int), .int .u64 (s : Int)]), valA (.agg #[.int .u64 (q : Int), .int .u64 (u : Int)]), valA (.int .u64 (x8 : Int)), valA (.agg #[.int .u64 (r : Int), .int .u64 (s : Int)]), valA (.agg #[.int .u64 (q : Int), .int .u64 (u : Int)]), valA (.int .u64 (x8 : Int)), valA (.bool true), valA (.bool true), valA (.bool true)]) (k := 0) ⟨Or.inr (valA_lasts _), Or.inr (valA_lasts _), Or.inr (valA_lasts _), Or.inr (valA_lasts _), Or.inr (valA_lasts _), Or.inr (valA_lasts _), Or.inr (valA_lasts _), Or.inr (valA_lasts _), Or.inr (valA_lasts _), Or.inr (valA_lasts _), Or.inr (valA_lasts _), Or.inr (valA_lasts _), Or.inr (valA_lasts _), Or.inr (valA_lasts _), Or.inr (valA_lasts _), Or.inr (valA_lasts _), Or.inr (valA_lasts _), Or.inr (valA_lasts _), Or.inr (valA_lasts _), Or.inr (valA_lasts _), Or.inr (valA_lasts _), Or.inr (valA_lasts _), Or.inr (valA_lasts _), Or.inr (valA_lasts _), Or.inr (valA_lasts _), Or.inr (valA_lasts _), Or.inr (valA_lasts _), Or.inr (valA_lasts _), Or.inr (valA_lasts _), Or.inr (valA_lasts _), Or.inr (valA_lasts _), Or.inr (valA_lasts _), Or.inr (valA_lasts _), Or.inr (valA_lasts _), Or.inr (valA_lasts _), Or.inr (valA_lasts _), Or.inr (valA_lasts _), Or.inr (valA_lasts _), Or.inr (valA_lasts _), Or.inr (valA_lasts _), Or.inr (valA_lasts _), Or.inr (valA_lasts _), Or.inr (valA_lasts _), Or.inr (valA_lasts _), trivial⟩ gi gv ga gw gx (by rw [Nat.zero_add]; exact hl)) (fun gi gv ga gb gw hd => good_leans (dss := [[], [], [], [], [], [], [], [], [], [], [], [], [], [], [], [], [], [], [], [], [], [], [], [], [], [], [], [], [], [], [], [], [], [], [], [], [], [], [], [], [], [], [], []]) (gs := [valA (.bool true), valA (.bool true), valA (.int .u64 (p : Int)), valA (.agg (vals8 m).toArray), valA (.agg #[.int .u64 (r : Int), .int .u64 (s : Int)]), valA (.bool b1), valA (.int .u64 (p : Int)), valA (.agg (vals8 m).toArray), valA (.agg #[.int .u64 (r : Int), .int .u64 (s : Int)]), valA (.bool b1), valA (.bool true), valA (.bool true), valA (.bool true), valA (.int .u64 (p : Int)), valA (.agg (vals8 m).toArray), valA (.int .u64 (t : Int)), valA (.agg #[.int .u64 (r : Int), .int .u64 (s : Int)]), valA (.bool b2), valA (.int .u64 (p : Int)), valA (.agg (vals8 m).toArray), valA (.int .u64 (t : Int)), valA (.agg #[.int .u64 (r : Int), .int .u64 (s : Int)]), valA (.bool b2), valA (.bool true), valA (.bool true), valA (.bool true), valA (.agg #[.int .u64 (r : Int), .int .u64 (s : Int)]), valA (.int .u64 (k : Int)), valA (.agg #[.int .u64 (x6 : Int), .int .u64 (x7 : Int)]), valA (.agg #[.int .u64 (r : Int), .int .u64 (s : Int)]), valA (.int .u64 (k : Int)), valA (.agg #[.int .u64 (x6 : Int), .int .u64 (x7 : Int)]), valA (.bool true), valA (.bool true), valA (.bool true), valA (.agg #[.int .u64 (r : Int), .int .u64 (s : Int)]), valA (.agg #[.int .u64 (q : Int), .int .u64 (u : Int)]), valA (.int .u64 (x8 : Int)), valA (.agg #[.int .u64 (r : Int), .int .u64 (s : Int)]), valA (.agg #[.int .u64 (q : Int), .int .u64 (u : Int)]), valA (.int .u64 (x8 : Int)), valA (.bool true), valA (.bool true), valA (.bool true)]) (k := 0) ⟨valA_leans _ _, valA_leans _ _, valA_leans _ _, valA_leans _ _, valA_leans _ _, valA_leans _ _, valA_leans _ _, valA_leans _ _, valA_leans _ _, valA_leans _ _, valA_leans _ _, valA_leans _ _, valA_leans _ _, valA_leans _ _, valA_leans _ _, valA_leans _ _, valA_leans _ _, valA_leans _ _, valA_leans _ _, valA_leans _ _, valA_leans _ _, valA_leans _ _, valA_leans _ _, valA_leans _ _, valA_leans _ _, valA_leans _ _, valA_leans _ _, valA_leans _ _, valA_leans _ _, valA_leans _ _, valA_leans _ _, valA_leans _ _, valA_leans _ _, valA_leans _ _, valA_leans _ _, valA_leans _ _, valA_leans _ _, valA_leans _ _, valA_leans _ _, valA_leans _ _, valA_leans _ _, valA_leans _ _, valA_leans _ _, valA_leans _ _, trivial⟩ gi gv ga gb gw (by rw [Nat.zero_add]; exact hd))
        (by kernel_rfl) (by kernel_rfl) (by kernel_rfl) (by kernel_rfl) hN ?_ ((Keeps.refl _).drew) ?_ ?_
      · refine ⟨rfl, fun x hx => ?_⟩
        simp only [List.mem_cons, List.not_mem_nil, or_false] at hx
        rcases hx with rfl | rfl | rfl | rfl | rfl | rfl | rfl | rfl | rfl
        · exact s1
        · exact s3
        · exact s4
        · exact s7
        · exact s9
        · exact s12
        · exact s13
        · exact s15
        · exact s41
      · intro fa w hN hF hH hG
        have V3V2V1M0B0 := Lib.hid (V2V1M0B0.out.keeps hH)
        have V3V2V1M0B1 := Lib.hid (V2V1M0B1.out.keeps hH)
        have V3V2V1M0B2 := Lib.hid (V2V1M0B2.out.keeps hH)
        have V3V2V1M0B3 := Lib.hid (V2V1M0B3.out.keeps hH)
        have VK3 := Lib.hid (VK2.out.trans hH)
        obtain ⟨tm, df⟩ := fa
        obtain rfl : df = [] := hF.1
        have hdf : (⟨tm, []⟩ : Act).defers = [] := rfl
        have hN : (⟨tm, []⟩ : Act).tmps.size = 85 := hN
        have s1 : Slot ⟨tm, []⟩ 1 (.int .u64 (k : Int)) := hF.2 (1, .int .u64 (k : Int)) (by simp)
        have s3 : Slot ⟨tm, []⟩ 3 (.int .u64 (p : Int)) := hF.2 (3, .int .u64 (p : Int)) (by simp)
        have s4 : Slot ⟨tm, []⟩ 4 (.int .u64 (t : Int)) := hF.2 (4, .int .u64 (t : Int)) (by simp)
        have s7 : Slot ⟨tm, []⟩ 7 (.pointer (some ⟨z0, 0, none⟩)) := hF.2 (7, .pointer (some ⟨z0, 0, none⟩)) (by simp)
        have s9 : Slot ⟨tm, []⟩ 9 (.pointer (some ⟨z1, 0, none⟩)) := hF.2 (9, .pointer (some ⟨z1, 0, none⟩)) (by simp)
        have s12 : Slot ⟨tm, []⟩ 12 (.pointer (some ⟨z2, 0, none⟩)) := hF.2 (12, .pointer (some ⟨z2, 0, none⟩)) (by simp)
        have s13 : Slot ⟨tm, []⟩ 13 (.pointer (some ⟨z3, 0, none⟩)) := hF.2 (13, .pointer (some ⟨z3, 0, none⟩)) (by simp)
        have s15 : Slot ⟨tm, []⟩ 15 (.bool true) := hF.2 (15, .bool true) (by simp)
        have s41 : Slot ⟨tm, []⟩ 41 (.bool false) := hF.2 (41, .bool false) (by simp)
        obtain ⟨x14, s14, rfl⟩ := good_end hG 43 _ 14 rfl rfl
        have s14 : Slot ⟨tm, []⟩ 14 (.bool true) := s14
        clear hF hG
        obtain ⟨W3, eW⟩ : ∃ x, x = w := ⟨_, rfl⟩
        rw [← eW] at V3V2V1M0B0 V3V2V1M0B1 V3V2V1M0B2 V3V2V1M0B3 VK3 ⊢
        clear eW hH
        have e14 : ∀ hd, tm[14]'hd = .bool true := s14.at
        go_wp2_with fail
        go_ret
        exact ⟨congrArg Ending.returned s14.eval, VK3.out⟩
      · refine ⟨?_, ?_, ?_, ?_, ?_, ?_, ?_, ?_, ?_, ?_, ?_, ?_, ?_, ?_, ?_, ?_, ?_, ?_, ?_, ?_, ?_, ?_, ?_, ?_, ?_, ?_, ?_, ?_, ?_, ?_, ?_, ?_, ?_, ?_, ?_, ?_, ?_, ?_, ?_, ?_, ?_, ?_, ?_, ?_, trivial⟩
        · as_aux_lemma =>
          intro fa w K hN hF hH hG hK
          have s15 : Slot fa 15 (.bool true) := hF.2 (15, .bool true) (by simp)
          have e15 := s15.at
          rw [if_pos (wanted_none rfl)]
          refine wp_value (.bool true) ?_ (hK _ _ hH (Keeps.refl _) rfl)
          go_simp
        · as_aux_lemma =>
          intro fa w K hN hF hH hG hK
          obtain ⟨x42, s42, rfl⟩ := good_slot hG 0 _ 42 rfl rfl rfl
          have e42 := s42.at
          rw [if_pos (wanted_none rfl)]
          refine wp_value (.bool true) ?_ (hK _ _ hH (Keeps.refl _) rfl)
          go_simp
        · as_aux_lemma =>
          intro fa w K hN hF hH hG hK
          have s3 : Slot fa 3 (.int .u64 (p : Int)) := hF.2 (3, .int .u64 (p : Int)) (by simp)
          have e3 := s3.at
          obtain ⟨x43, s43, rfl⟩ := good_slot hG 1 _ 43 rfl rfl rfl
          rw [if_pos (wanted_slot (g := 1) rfl rfl rfl s43)]
          refine wp_value (.int .u64 (p : Int)) ?_ (hK _ _ hH (Keeps.refl _) rfl)
          go_simp
        · as_aux_lemma =>
          intro fa w K hN hF hH hG hK
          have s9 : Slot fa 9 (.pointer (some ⟨z1, 0, none⟩)) := hF.2 (9, .pointer (some ⟨z1, 0, none⟩)) (by simp)
          have e9 := s9.eval
          obtain ⟨x43, s43, rfl⟩ := good_slot hG 1 _ 43 rfl rfl rfl
          rw [if_pos (wanted_slot (g := 1) rfl rfl rfl s43)]
          exact wp_load_mid 23 (.tmp 9) rfl z1 0 e9 (vals8 m) _ ((V2V1M0B1.out.keeps hH).range) undSum rfl (by rw [show (vals8 m).length = 32 by rw [vals8, List.length_map]; exact HM.out.1]; exact sizSum) (hK _ _ hH (Keeps.refl _) rfl)
        · as_aux_lemma =>
          intro fa w K hN hF hH hG hK
          have s12 : Slot fa 12 (.pointer (some ⟨z2, 0, none⟩)) := hF.2 (12, .pointer (some ⟨z2, 0, none⟩)) (by simp)
          have e12 := s12.eval
          obtain ⟨x43, s43, rfl⟩ := good_slot hG 1 _ 43 rfl rfl rfl
          rw [if_pos (wanted_slot (g := 1) rfl rfl rfl s43)]
          exact wp_load_mid 28 (.tmp 12) rfl z2 0 e12 (cellsK .u64 [r, s]) _ ((V2V1M0B2.out.keeps hH).range) Tryd.underlying28 rfl (by rw [cellsK_len]; exact sizSig) (hK _ _ hH (Keeps.refl _) rfl)
        · as_aux_lemma =>
          intro fa w K hN hF hH hG hK
          obtain ⟨x44, s44, rfl⟩ := good_slot hG 2 _ 44 rfl rfl rfl
          have e44 := s44.at
          obtain ⟨x45, s45, rfl⟩ := good_slot hG 3 _ 45 rfl rfl rfl
          have e45 := s45.at
          obtain ⟨x46, s46, rfl⟩ := good_slot hG 4 _ 46 rfl rfl rfl
          have e46 := s46.at
          obtain ⟨x43, s43, rfl⟩ := good_slot hG 1 _ 43 rfl rfl rfl
          rw [if_pos (wanted_slot (g := 1) rfl rfl rfl s43)]
          go_simp
          (go_at_call 15; (refine (C4.out _ (VK2.out.trans hH)).mono ?_); rintro e w' ⟨rfl, hk⟩)
          exact hK _ _ (hH.trans hk) hk rfl
        · as_aux_lemma =>
          intro fa w K hN hF hH hG hK
          have s3 : Slot fa 3 (.int .u64 (p : Int)) := hF.2 (3, .int .u64 (p : Int)) (by simp)
          have e3 := s3.at
          obtain ⟨x43, s43, rfl⟩ := good_slot hG 1 _ 43 rfl rfl rfl
          rw [if_pos (wanted_slot (g := 1) rfl rfl rfl s43)]
          refine wp_value (.int .u64 (p : Int)) ?_ (hK _ _ hH (Keeps.refl _) rfl)
          go_simp
        · as_aux_lemma =>
          intro fa w K hN hF hH hG hK
          have s9 : Slot fa 9 (.pointer (some ⟨z1, 0, none⟩)) := hF.2 (9, .pointer (some ⟨z1, 0, none⟩)) (by simp)
          have e9 := s9.eval
          obtain ⟨x43, s43, rfl⟩ := good_slot hG 1 _ 43 rfl rfl rfl
          rw [if_pos (wanted_slot (g := 1) rfl rfl rfl s43)]
          exact wp_load_mid 23 (.tmp 9) rfl z1 0 e9 (vals8 m) _ ((V2V1M0B1.out.keeps hH).range) undSum rfl (by rw [show (vals8 m).length = 32 by rw [vals8, List.length_map]; exact HM.out.1]; exact sizSum) (hK _ _ hH (Keeps.refl _) rfl)
        · as_aux_lemma =>
          intro fa w K hN hF hH hG hK
          have s12 : Slot fa 12 (.pointer (some ⟨z2, 0, none⟩)) := hF.2 (12, .pointer (some ⟨z2, 0, none⟩)) (by simp)
          have e12 := s12.eval
          obtain ⟨x43, s43, rfl⟩ := good_slot hG 1 _ 43 rfl rfl rfl
          rw [if_pos (wanted_slot (g := 1) rfl rfl rfl s43)]
          exact wp_load_mid 28 (.tmp 12) rfl z2 0 e12 (cellsK .u64 [r, s]) _ ((V2V1M0B2.out.keeps hH).range) Tryd.underlying28 rfl (by rw [cellsK_len]; exact sizSig) (hK _ _ hH (Keeps.refl _) rfl)
        · as_aux_lemma =>
          intro fa w K hN hF hH hG hK
          obtain ⟨x48, s48, rfl⟩ := good_slot hG 6 _ 48 rfl rfl rfl
          have e48 := s48.at
          obtain ⟨x49, s49, rfl⟩ := good_slot hG 7 _ 49 rfl rfl rfl
          have e49 := s49.at
          obtain ⟨x50, s50, rfl⟩ := good_slot hG 8 _ 50 rfl rfl rfl
          have e50 := s50.at
          obtain ⟨x43, s43, rfl⟩ := good_slot hG 1 _ 43 rfl rfl rfl
          rw [if_pos (wanted_slot (g := 1) rfl rfl rfl s43)]
          go_simp
          (go_at_call 16; (refine (C4r.out _ (VK2.out.trans hH)).mono ?_); rintro e w' ⟨rfl, hk⟩)
          exact hK _ _ (hH.trans hk) hk rfl
        · as_aux_lemma =>
          intro fa w K hN hF hH hG hK
          obtain ⟨x47, s47, rfl⟩ := good_slot hG 5 _ 47 rfl rfl rfl
          have e47 := s47.at
          obtain ⟨x51, s51, rfl⟩ := good_slot hG 9 _ 51 rfl rfl rfl
          have e51 := s51.at
          obtain ⟨x43, s43, rfl⟩ := good_slot hG 1 _ 43 rfl rfl rfl
          rw [if_pos (wanted_slot (g := 1) rfl rfl rfl s43)]
          refine wp_value (.bool true) ?_ (hK _ _ hH (Keeps.refl _) rfl)
          go_simp
        · as_aux_lemma =>
          intro fa w K hN hF hH hG hK
          obtain ⟨x43, s43, rfl⟩ := good_slot hG 1 _ 43 rfl rfl rfl
          have e43 := s43.at
          obtain ⟨x52, s52, rfl⟩ := good_slot hG 10 _ 52 rfl rfl rfl
          have e52 := s52.at
          rw [if_pos (wanted_none rfl)]
          refine wp_value (.bool true) ?_ (hK _ _ hH (Keeps.refl _) rfl)
          go_simp
        · as_aux_lemma =>
          intro fa w K hN hF hH hG hK
          obtain ⟨x53, s53, rfl⟩ := good_slot hG 11 _ 53 rfl rfl rfl
          have e53 := s53.at
          rw [if_pos (wanted_none rfl)]
          refine wp_value (.bool true) ?_ (hK _ _ hH (Keeps.refl _) rfl)
          go_simp
        · as_aux_lemma =>
          intro fa w K hN hF hH hG hK
          have s3 : Slot fa 3 (.int .u64 (p : Int)) := hF.2 (3, .int .u64 (p : Int)) (by simp)
          have e3 := s3.at
          obtain ⟨x54, s54, rfl⟩ := good_slot hG 12 _ 54 rfl rfl rfl
          rw [if_pos (wanted_slot (g := 12) rfl rfl rfl s54)]
          refine wp_value (.int .u64 (p : Int)) ?_ (hK _ _ hH (Keeps.refl _) rfl)
          go_simp
        · as_aux_lemma =>
          intro fa w K hN hF hH hG hK
          have s9 : Slot fa 9 (.pointer (some ⟨z1, 0, none⟩)) := hF.2 (9, .pointer (some ⟨z1, 0, none⟩)) (by simp)
          have e9 := s9.eval
          obtain ⟨x54, s54, rfl⟩ := good_slot hG 12 _ 54 rfl rfl rfl
          rw [if_pos (wanted_slot (g := 12) rfl rfl rfl s54)]
          exact wp_load_mid 23 (.tmp 9) rfl z1 0 e9 (vals8 m) _ ((V2V1M0B1.out.keeps hH).range) undSum rfl (by rw [show (vals8 m).length = 32 by rw [vals8, List.length_map]; exact HM.out.1]; exact sizSum) (hK _ _ hH (Keeps.refl _) rfl)
        · as_aux_lemma =>
          intro fa w K hN hF hH hG hK
          have s4 : Slot fa 4 (.int .u64 (t : Int)) := hF.2 (4, .int .u64 (t : Int)) (by simp)
          have e4 := s4.at
          obtain ⟨x54, s54, rfl⟩ := good_slot hG 12 _ 54 rfl rfl rfl
          rw [if_pos (wanted_slot (g := 12) rfl rfl rfl s54)]
          refine wp_value (.int .u64 (t : Int)) ?_ (hK _ _ hH (Keeps.refl _) rfl)
          go_simp
        · as_aux_lemma =>
          intro fa w K hN hF hH hG hK
          have s12 : Slot fa 12 (.pointer (some ⟨z2, 0, none⟩)) := hF.2 (12, .pointer (some ⟨z2, 0, none⟩)) (by simp)
          have e12 := s12.eval
          obtain ⟨x54, s54, rfl⟩ := good_slot hG 12 _ 54 rfl rfl rfl
          rw [if_pos (wanted_slot (g := 12) rfl rfl rfl s54)]
          exact wp_load_mid 28 (.tmp 12) rfl z2 0 e12 (cellsK .u64 [r, s]) _ ((V2V1M0B2.out.keeps hH).range) Tryd.underlying28 rfl (by rw [cellsK_len]; exact sizSig) (hK _ _ hH (Keeps.refl _) rfl)
        · as_aux_lemma =>
          intro fa w K hN hF hH hG hK
          obtain ⟨x55, s55, rfl⟩ := good_slot hG 13 _ 55 rfl rfl rfl
          have e55 := s55.at
          obtain ⟨x56, s56, rfl⟩ := good_slot hG 14 _ 56 rfl rfl rfl
          have e56 := s56.at
          obtain ⟨x57, s57, rfl⟩ := good_slot hG 15 _ 57 rfl rfl rfl
          have e57 := s57.at
          obtain ⟨x58, s58, rfl⟩ := good_slot hG 16 _ 58 rfl rfl rfl
          have e58 := s58.at
          obtain ⟨x54, s54, rfl⟩ := good_slot hG 12 _ 54 rfl rfl rfl
          rw [if_pos (wanted_slot (g := 12) rfl rfl rfl s54)]
          go_simp
          (go_at_call 17; (refine (C5.out _ (VK2.out.trans hH)).mono ?_); rintro e w' ⟨rfl, hk⟩)
          exact hK _ _ (hH.trans hk) hk rfl
        · as_aux_lemma =>
          intro fa w K hN hF hH hG hK
          have s3 : Slot fa 3 (.int .u64 (p : Int)) := hF.2 (3, .int .u64 (p : Int)) (by simp)
          have e3 := s3.at
          obtain ⟨x54, s54, rfl⟩ := good_slot hG 12 _ 54 rfl rfl rfl
          rw [if_pos (wanted_slot (g := 12) rfl rfl rfl s54)]
          refine wp_value (.int .u64 (p : Int)) ?_ (hK _ _ hH (Keeps.refl _) rfl)
          go_simp
        · as_aux_lemma =>
          intro fa w K hN hF hH hG hK
          have s9 : Slot fa 9 (.pointer (some ⟨z1, 0, none⟩)) := hF.2 (9, .pointer (some ⟨z1, 0, none⟩)) (by simp)
          have e9 := s9.eval
          obtain ⟨x54, s54, rfl⟩ := good_slot hG 12 _ 54 rfl rfl rfl
          rw [if_pos (wanted_slot (g := 12) rfl rfl rfl s54)]
          exact wp_load_mid 23 (.tmp 9) rfl z1 0 e9 (vals8 m) _ ((V2V1M0B1.out.keeps hH).range) undSum rfl (by rw [show (vals8 m).length = 32 by rw [vals8, List.length_map]; exact HM.out.1]; exact sizSum) (hK _ _ hH (Keeps.refl _) rfl)
        · as_aux_lemma =>
          intro fa w K hN hF hH hG hK
          have s4 : Slot fa 4 (.int .u64 (t : Int)) := hF.2 (4, .int .u64 (t : Int)) (by simp)
          have e4 := s4.at
          obtain ⟨x54, s54, rfl⟩ := good_slot hG 12 _ 54 rfl rfl rfl
          rw [if_pos (wanted_slot (g := 12) rfl rfl rfl s54)]
          refine wp_value (.int .u64 (t : Int)) ?_ (hK _ _ hH (Keeps.refl _) rfl)
          go_simp
        · as_aux_lemma =>
          intro fa w K hN hF hH hG hK
          have s12 : Slot fa 12 (.pointer (some ⟨z2, 0, none⟩)) := hF.2 (12, .pointer (some ⟨z2, 0, none⟩)) (by simp)
          have e12 := s12.eval
          obtain ⟨x54, s54, rfl⟩ := good_slot hG 12 _ 54 rfl rfl rfl
          rw [if_pos (wanted_slot (g := 12) rfl rfl rfl s54)]
          exact wp_load_mid 28 (.tmp 12) rfl z2 0 e12 (cellsK .u64 [r, s]) _ ((V2V1M0B2.out.keeps hH).range) Tryd.underlying28 rfl (by rw [cellsK_len]; exact sizSig) (hK _ _ hH (Keeps.refl _) rfl)
        · as_aux_lemma =>
          intro fa w K hN hF hH hG hK
          obtain ⟨x60, s60, rfl⟩ := good_slot hG 18 _ 60 rfl rfl rfl
          have e60 := s60.at
          obtain ⟨x61, s61, rfl⟩ := good_slot hG 19 _ 61 rfl rfl rfl
          have e61 := s61.at
          obtain ⟨x62, s62, rfl⟩ := good_slot hG 20 _ 62 rfl rfl rfl
          have e62 := s62.at
          obtain ⟨x63, s63, rfl⟩ := good_slot hG 21 _ 63 rfl rfl rfl
          have e63 := s63.at
          obtain ⟨x54, s54, rfl⟩ := good_slot hG 12 _ 54 rfl rfl rfl
          rw [if_pos (wanted_slot (g := 12) rfl rfl rfl s54)]
          go_simp
          (go_at_call 18; (refine (C5r.out _ (VK2.out.trans hH)).mono ?_); rintro e w' ⟨rfl, hk⟩)
          exact hK _ _ (hH.trans hk) hk rfl
        · as_aux_lemma =>
          intro fa w K hN hF hH hG hK
          obtain ⟨x59, s59, rfl⟩ := good_slot hG 17 _ 59 rfl rfl rfl
          have e59 := s59.at
          obtain ⟨x64, s64, rfl⟩ := good_slot hG 22 _ 64 rfl rfl rfl
          have e64 := s64.at
          obtain ⟨x54, s54, rfl⟩ := good_slot hG 12 _ 54 rfl rfl rfl
          rw [if_pos (wanted_slot (g := 12) rfl rfl rfl s54)]
          refine wp_value (.bool true) ?_ (hK _ _ hH (Keeps.refl _) rfl)
          go_simp
        · as_aux_lemma =>
          intro fa w K hN hF hH hG hK
          obtain ⟨x54, s54, rfl⟩ := good_slot hG 12 _ 54 rfl rfl rfl
          have e54 := s54.at
          obtain ⟨x65, s65, rfl⟩ := good_slot hG 23 _ 65 rfl rfl rfl
          have e65 := s65.at
          rw [if_pos (wanted_none rfl)]
          refine wp_value (.bool true) ?_ (hK _ _ hH (Keeps.refl _) rfl)
          go_simp
        · as_aux_lemma =>
          intro fa w K hN hF hH hG hK
          obtain ⟨x66, s66, rfl⟩ := good_slot hG 24 _ 66 rfl rfl rfl
          have e66 := s66.at
          rw [if_pos (wanted_none rfl)]
          refine wp_value (.bool true) ?_ (hK _ _ hH (Keeps.refl _) rfl)
          go_simp
        · as_aux_lemma =>
          intro fa w K hN hF hH hG hK
          have s12 : Slot fa 12 (.pointer (some ⟨z2, 0, none⟩)) := hF.2 (12, .pointer (some ⟨z2, 0, none⟩)) (by simp)
          have e12 := s12.eval
          obtain ⟨x67, s67, rfl⟩ := good_slot hG 25 _ 67 rfl rfl rfl
          rw [if_pos (wanted_slot (g := 25) rfl rfl rfl s67)]
          exact wp_load_mid 28 (.tmp 12) rfl z2 0 e12 (cellsK .u64 [r, s]) _ ((V2V1M0B2.out.keeps hH).range) Tryd.underlying28 rfl (by rw [cellsK_len]; exact sizSig) (hK _ _ hH (Keeps.refl _) rfl)
        · as_aux_lemma =>
          intro fa w K hN hF hH hG hK
          have s1 : Slot fa 1 (.int .u64 (k : Int)) := hF.2 (1, .int .u64 (k : Int)) (by simp)
          have e1 := s1.at
          obtain ⟨x67, s67, rfl⟩ := good_slot hG 25 _ 67 rfl rfl rfl
          rw [if_pos (wanted_slot (g := 25) rfl rfl rfl s67)]
          refine wp_value (.int .u64 (k : Int)) ?_ (hK _ _ hH (Keeps.refl _) rfl)
          go_simp
        · as_aux_lemma =>
          intro fa w K hN hF hH hG hK
          obtain ⟨x68, s68, rfl⟩ := good_slot hG 26 _ 68 rfl rfl rfl
          have e68 := s68.at
          obtain ⟨x69, s69, rfl⟩ := good_slot hG 27 _ 69 rfl rfl rfl
          have e69 := s69.at
          obtain ⟨x67, s67, rfl⟩ := good_slot hG 25 _ 67 rfl rfl rfl
          rw [if_pos (wanted_slot (g := 25) rfl rfl rfl s67)]
          go_simp
          (go_at_call 19; (refine (C6.out _ (VK2.out.trans hH)).mono ?_); rintro e w' ⟨rfl, hk⟩)
          exact hK _ _ (hH.trans hk) hk rfl
        · as_aux_lemma =>
          intro fa w K hN hF hH hG hK
          have s12 : Slot fa 12 (.pointer (some ⟨z2, 0, none⟩)) := hF.2 (12, .pointer (some ⟨z2, 0, none⟩)) (by simp)
          have e12 := s12.eval
          obtain ⟨x67, s67, rfl⟩ := good_slot hG 25 _ 67 rfl rfl rfl
          rw [if_pos (wanted_slot (g := 25) rfl rfl rfl s67)]
          exact wp_load_mid 28 (.tmp 12) rfl z2 0 e12 (cellsK .u64 [r, s]) _ ((V2V1M0B2.out.keeps hH).range) Tryd.underlying28 rfl (by rw [cellsK_len]; exact sizSig) (hK _ _ hH (Keeps.refl _) rfl)
        · as_aux_lemma =>
          intro fa w K hN hF hH hG hK
          have s1 : Slot fa 1 (.int .u64 (k : Int)) := hF.2 (1, .int .u64 (k : Int)) (by simp)
          have e1 := s1.at
          obtain ⟨x67, s67, rfl⟩ := good_slot hG 25 _ 67 rfl rfl rfl
          rw [if_pos (wanted_slot (g := 25) rfl rfl rfl s67)]
          refine wp_value (.int .u64 (k : Int)) ?_ (hK _ _ hH (Keeps.refl _) rfl)
          go_simp
        · as_aux_lemma =>
          intro fa w K hN hF hH hG hK
          obtain ⟨x71, s71, rfl⟩ := good_slot hG 29 _ 71 rfl rfl rfl
          have e71 := s71.at
          obtain ⟨x72, s72, rfl⟩ := good_slot hG 30 _ 72 rfl rfl rfl
          have e72 := s72.at
          obtain ⟨x67, s67, rfl⟩ := good_slot hG 25 _ 67 rfl rfl rfl
          rw [if_pos (wanted_slot (g := 25) rfl rfl rfl s67)]
          go_simp
          (go_at_call 20; (refine (C6r.out _ (VK2.out.trans hH)).mono ?_); rintro e w' ⟨rfl, hk⟩)
          exact hK _ _ (hH.trans hk) hk rfl
        · as_aux_lemma =>
          intro fa w K hN hF hH hG hK
          obtain ⟨x70, s70, rfl⟩ := good_slot hG 28 _ 70 rfl rfl rfl
          have e70 := s70.at
          obtain ⟨x73, s73, rfl⟩ := good_slot hG 31 _ 73 rfl rfl rfl
          have e73 := s73.at
          obtain ⟨x67, s67, rfl⟩ := good_slot hG 25 _ 67 rfl rfl rfl
          rw [if_pos (wanted_slot (g := 25) rfl rfl rfl s67)]
          refine wp_value (.bool true) ?_ (hK _ _ hH (Keeps.refl _) rfl)
          go_simp
        · as_aux_lemma =>
          intro fa w K hN hF hH hG hK
          obtain ⟨x67, s67, rfl⟩ := good_slot hG 25 _ 67 rfl rfl rfl
          have e67 := s67.at
          obtain ⟨x74, s74, rfl⟩ := good_slot hG 32 _ 74 rfl rfl rfl
          have e74 := s74.at
          rw [if_pos (wanted_none rfl)]
          refine wp_value (.bool true) ?_ (hK _ _ hH (Keeps.refl _) rfl)
          go_simp
        · as_aux_lemma =>
          intro fa w K hN hF hH hG hK
          obtain ⟨x75, s75, rfl⟩ := good_slot hG 33 _ 75 rfl rfl rfl
          have e75 := s75.at
          rw [if_pos (wanted_none rfl)]
          refine wp_value (.bool true) ?_ (hK _ _ hH (Keeps.refl _) rfl)
          go_simp
        · as_aux_lemma =>
          intro fa w K hN hF hH hG hK
          have s12 : Slot fa 12 (.pointer (some ⟨z2, 0, none⟩)) := hF.2 (12, .pointer (some ⟨z2, 0, none⟩)) (by simp)
          have e12 := s12.eval
          obtain ⟨x76, s76, rfl⟩ := good_slot hG 34 _ 76 rfl rfl rfl
          rw [if_pos (wanted_slot (g := 34) rfl rfl rfl s76)]
          exact wp_load_mid 28 (.tmp 12) rfl z2 0 e12 (cellsK .u64 [r, s]) _ ((V2V1M0B2.out.keeps hH).range) Tryd.underlying28 rfl (by rw [cellsK_len]; exact sizSig) (hK _ _ hH (Keeps.refl _) rfl)
        · as_aux_lemma =>
          intro fa w K hN hF hH hG hK
          have s13 : Slot fa 13 (.pointer (some ⟨z3, 0, none⟩)) := hF.2 (13, .pointer (some ⟨z3, 0, none⟩)) (by simp)
          have e13 := s13.eval
          obtain ⟨x76, s76, rfl⟩ := good_slot hG 34 _ 76 rfl rfl rfl
          rw [if_pos (wanted_slot (g := 34) rfl rfl rfl s76)]
          exact wp_load_mid 28 (.tmp 13) rfl z3 0 e13 (cellsK .u64 [q, u]) _ ((V2V1M0B3.out.keeps hH).range) Tryd.underlying28 rfl (by rw [cellsK_len]; exact sizSig) (hK _ _ hH (Keeps.refl _) rfl)
        · as_aux_lemma =>
          intro fa w K hN hF hH hG hK
          obtain ⟨x77, s77, rfl⟩ := good_slot hG 35 _ 77 rfl rfl rfl
          have e77 := s77.at
          obtain ⟨x78, s78, rfl⟩ := good_slot hG 36 _ 78 rfl rfl rfl
          have e78 := s78.at
          obtain ⟨x76, s76, rfl⟩ := good_slot hG 34 _ 76 rfl rfl rfl
          rw [if_pos (wanted_slot (g := 34) rfl rfl rfl s76)]
          go_simp
          (go_at_call 21; (refine (C7.out _ (VK2.out.trans hH)).mono ?_); rintro e w' ⟨rfl, hk⟩)
          exact hK _ _ (hH.trans hk) hk rfl
        · as_aux_lemma =>
          intro fa w K hN hF hH hG hK
          have s12 : Slot fa 12 (.pointer (some ⟨z2, 0, none⟩)) := hF.2 (12, .pointer (some ⟨z2, 0, none⟩)) (by simp)
          have e12 := s12.eval
          obtain ⟨x76, s76, rfl⟩ := good_slot hG 34 _ 76 rfl rfl rfl
          rw [if_pos (wanted_slot (g := 34) rfl rfl rfl s76)]
          exact wp_load_mid 28 (.tmp 12) rfl z2 0 e12 (cellsK .u64 [r, s]) _ ((V2V1M0B2.out.keeps hH).range) Tryd.underlying28 rfl (by rw [cellsK_len]; exact sizSig) (hK _ _ hH (Keeps.refl _) rfl)
        · as_aux_lemma =>
          intro fa w K hN hF hH hG hK
          have s13 : Slot fa 13 (.pointer (some ⟨z3, 0, none⟩)) := hF.2 (13, .pointer (some ⟨z3, 0, none⟩)) (by simp)
          have e13 := s13.eval
          obtain ⟨x76, s76, rfl⟩ := good_slot hG 34 _ 76 rfl rfl rfl
          rw [if_pos (wanted_slot (g := 34) rfl rfl rfl s76)]
          exact wp_load_mid 28 (.tmp 13) rfl z3 0 e13 (cellsK .u64 [q, u]) _ ((V2V1M0B3.out.keeps hH).range) Tryd.underlying28 rfl (by rw [cellsK_len]; exact sizSig) (hK _ _ hH (Keeps.refl _) rfl)
        · as_aux_lemma =>
          intro fa w K hN hF hH hG hK
          obtain ⟨x80, s80, rfl⟩ := good_slot hG 38 _ 80 rfl rfl rfl
          have e80 := s80.at
          obtain ⟨x81, s81, rfl⟩ := good_slot hG 39 _ 81 rfl rfl rfl
          have e81 := s81.at
          obtain ⟨x76, s76, rfl⟩ := good_slot hG 34 _ 76 rfl rfl rfl
          rw [if_pos (wanted_slot (g := 34) rfl rfl rfl s76)]
          go_simp
          (go_at_call 22; (refine (C7r.out _ (VK2.out.trans hH)).mono ?_); rintro e w' ⟨rfl, hk⟩)
          exact hK _ _ (hH.trans hk) hk rfl
        · as_aux_lemma =>
          intro fa w K hN hF hH hG hK
          obtain ⟨x79, s79, rfl⟩ := good_slot hG 37 _ 79 rfl rfl rfl
          have e79 := s79.at
          obtain ⟨x82, s82, rfl⟩ := good_slot hG 40 _ 82 rfl rfl rfl
          have e82 := s82.at
          obtain ⟨x76, s76, rfl⟩ := good_slot hG 34 _ 76 rfl rfl rfl
          rw [if_pos (wanted_slot (g := 34) rfl rfl rfl s76)]
          refine wp_value (.bool true) ?_ (hK _ _ hH (Keeps.refl _) rfl)
          go_simp
        · as_aux_lemma =>
          intro fa w K hN hF hH hG hK
          obtain ⟨x76, s76, rfl⟩ := good_slot hG 34 _ 76 rfl rfl rfl
          have e76 := s76.at
          obtain ⟨x83, s83, rfl⟩ := good_slot hG 41 _ 83 rfl rfl rfl
          have e83 := s83.at
          rw [if_pos (wanted_none rfl)]
          refine wp_value (.bool true) ?_ (hK _ _ hH (Keeps.refl _) rfl)
          go_simp
        · as_aux_lemma =>
          intro fa w K hN hF hH hG hK
          obtain ⟨x84, s84, rfl⟩ := good_slot hG 42 _ 84 rfl rfl rfl
          have e84 := s84.at
          rw [if_pos (wanted_none rfl)]
          refine wp_value (.bool true) ?_ (hK _ _ hH (Keeps.refl _) rfl)
          go_simp
    · refine ⟨?_, ?_, ?_, ?_, ?_, ?_, ?_, ?_, ?_, ?_, ?_, ?_, ?_, ?_, ?_, ?_, ?_, ?_, ?_, ?_, ?_, ?_, ?_, ?_, ?_, trivial⟩
      · as_aux_lemma =>
        intro fa w K hN hF hH hG hK
        have s7 : Slot fa 7 (.pointer (some ⟨z0, 0, none⟩)) := hF.2 (7, .pointer (some ⟨z0, 0, none⟩)) (by simp)
        have e7 := s7.eval
        rw [if_pos (wanted_none rfl)]
        exact wp_load_mid 23 (.tmp 7) rfl z0 0 e7 (vals8 h) _ ((V1M0B0.out.keeps hH).range) undSum rfl (by rw [show (vals8 h).length = 32 by rw [vals8, List.length_map]; exact HH.out.1]; exact sizSum) (hK _ _ hH (Keeps.refl _) rfl)
      · as_aux_lemma =>
        intro fa w K hN hF hH hG hK
        obtain ⟨x17, s17, rfl⟩ := good_slot hG 0 _ 17 rfl rfl rfl
        have e17 := s17.at
        rw [if_pos (wanted_none rfl)]
        go_simp
        (go_at_call 9; (refine (C1.out _ (VK1.out.trans hH)).mono ?_); rintro e w' ⟨rfl, hk⟩)
        exact hK _ _ (hH.trans hk) hk rfl
      · as_aux_lemma =>
        intro fa w K hN hF hH hG hK
        have s7 : Slot fa 7 (.pointer (some ⟨z0, 0, none⟩)) := hF.2 (7, .pointer (some ⟨z0, 0, none⟩)) (by simp)
        have e7 := s7.eval
        rw [if_pos (wanted_none rfl)]
        exact wp_load_mid 23 (.tmp 7) rfl z0 0 e7 (vals8 h) _ ((V1M0B0.out.keeps hH).range) undSum rfl (by rw [show (vals8 h).length = 32 by rw [vals8, List.length_map]; exact HH.out.1]; exact sizSum) (hK _ _ hH (Keeps.refl _) rfl)
      · as_aux_lemma =>
        intro fa w K hN hF hH hG hK
        obtain ⟨x19, s19, rfl⟩ := good_slot hG 2 _ 19 rfl rfl rfl
        have e19 := s19.at
        rw [if_pos (wanted_none rfl)]
        go_simp
        (go_at_call 10; (refine (C1r.out _ (VK1.out.trans hH)).mono ?_); rintro e w' ⟨rfl, hk⟩)
        exact hK _ _ (hH.trans hk) hk rfl
      · as_aux_lemma =>
        intro fa w K hN hF hH hG hK
        obtain ⟨x18, s18, rfl⟩ := good_slot hG 1 _ 18 rfl rfl rfl
        have e18 := s18.at
        obtain ⟨x20, s20, rfl⟩ := good_slot hG 3 _ 20 rfl rfl rfl
        have e20 := s20.at
        rw [if_pos (wanted_none rfl)]
        refine wp_value (.bool false) ?_ (hK _ _ hH (Keeps.refl _) rfl)
        go_simp
      · as_aux_lemma =>
        intro fa w K hN hF hH hG hK
        obtain ⟨x21, s21, rfl⟩ := good_slot hG 4 _ 21 rfl rfl rfl
        have e21 := s21.at
        rw [if_pos (wanted_none rfl)]
        refine wp_value (.bool false) ?_ (hK _ _ hH (Keeps.refl _) rfl)
        go_simp
      · as_aux_lemma =>
        intro fa w K hN hF hH hG hK
        have s1 : Slot fa 1 (.int .u64 (k : Int)) := hF.2 (1, .int .u64 (k : Int)) (by simp)
        have e1 := s1.at
        obtain ⟨x22, s22, rfl⟩ := good_slot hG 5 _ 22 rfl rfl rfl
        rw [if_pos (wanted_slot (g := 5) rfl rfl rfl s22)]
        refine wp_value (.int .u64 (k : Int)) ?_ (hK _ _ hH (Keeps.refl _) rfl)
        go_simp
      · as_aux_lemma =>
        intro fa w K hN hF hH hG hK
        have s9 : Slot fa 9 (.pointer (some ⟨z1, 0, none⟩)) := hF.2 (9, .pointer (some ⟨z1, 0, none⟩)) (by simp)
        have e9 := s9.eval
        obtain ⟨x22, s22, rfl⟩ := good_slot hG 5 _ 22 rfl rfl rfl
        rw [if_pos (wanted_slot (g := 5) rfl rfl rfl s22)]
        exact wp_load_mid 23 (.tmp 9) rfl z1 0 e9 (vals8 m) _ ((V1M0B1.out.keeps hH).range) undSum rfl (by rw [show (vals8 m).length = 32 by rw [vals8, List.length_map]; exact HM.out.1]; exact sizSum) (hK _ _ hH (Keeps.refl _) rfl)
      · as_aux_lemma =>
        intro fa w K hN hF hH hG hK
        obtain ⟨x23, s23, rfl⟩ := good_slot hG 6 _ 23 rfl rfl rfl
        have e23 := s23.at
        obtain ⟨x24, s24, rfl⟩ := good_slot hG 7 _ 24 rfl rfl rfl
        have e24 := s24.at
        obtain ⟨x22, s22, rfl⟩ := good_slot hG 5 _ 22 rfl rfl rfl
        rw [if_pos (wanted_slot (g := 5) rfl rfl rfl s22)]
        go_simp
        (go_at_call 11; (refine (C2.out _ (VK1.out.trans hH)).mono ?_); rintro e w' ⟨rfl, hk⟩)
        exact hK _ _ (hH.trans hk) hk rfl
      · as_aux_lemma =>
        intro fa w K hN hF hH hG hK
        have s1 : Slot fa 1 (.int .u64 (k : Int)) := hF.2 (1, .int .u64 (k : Int)) (by simp)
        have e1 := s1.at
        obtain ⟨x22, s22, rfl⟩ := good_slot hG 5 _ 22 rfl rfl rfl
        rw [if_pos (wanted_slot (g := 5) rfl rfl rfl s22)]
        refine wp_value (.int .u64 (k : Int)) ?_ (hK _ _ hH (Keeps.refl _) rfl)
        go_simp
      · as_aux_lemma =>
        intro fa w K hN hF hH hG hK
        have s9 : Slot fa 9 (.pointer (some ⟨z1, 0, none⟩)) := hF.2 (9, .pointer (some ⟨z1, 0, none⟩)) (by simp)
        have e9 := s9.eval
        obtain ⟨x22, s22, rfl⟩ := good_slot hG 5 _ 22 rfl rfl rfl
        rw [if_pos (wanted_slot (g := 5) rfl rfl rfl s22)]
        exact wp_load_mid 23 (.tmp 9) rfl z1 0 e9 (vals8 m) _ ((V1M0B1.out.keeps hH).range) undSum rfl (by rw [show (vals8 m).length = 32 by rw [vals8, List.length_map]; exact HM.out.1]; exact sizSum) (hK _ _ hH (Keeps.refl _) rfl)
      · as_aux_lemma =>
        intro fa w K hN hF hH hG hK
        obtain ⟨x26, s26, rfl⟩ := good_slot hG 9 _ 26 rfl rfl rfl
        have e26 := s26.at
        obtain ⟨x27, s27, rfl⟩ := good_slot hG 10 _ 27 rfl rfl rfl
        have e27 := s27.at
        obtain ⟨x22, s22, rfl⟩ := good_slot hG 5 _ 22 rfl rfl rfl
        rw [if_pos (wanted_slot (g := 5) rfl rfl rfl s22)]
        go_simp
        (go_at_call 12; (refine (C2r.out _ (VK1.out.trans hH)).mono ?_); rintro e w' ⟨rfl, hk⟩)
        exact hK _ _ (hH.trans hk) hk rfl
      · as_aux_lemma =>
        intro fa w K hN hF hH hG hK
        obtain ⟨x25, s25, rfl⟩ := good_slot hG 8 _ 25 rfl rfl rfl
        have e25 := s25.at
        obtain ⟨x28, s28, rfl⟩ := good_slot hG 11 _ 28 rfl rfl rfl
        have e28 := s28.at
        obtain ⟨x22, s22, rfl⟩ := good_slot hG 5 _ 22 rfl rfl rfl
        rw [if_pos (wanted_slot (g := 5) rfl rfl rfl s22)]
        refine wp_value (.bool false) ?_ (hK _ _ hH (Keeps.refl _) rfl)
        go_simp
      · as_aux_lemma =>
        intro fa w K hN hF hH hG hK
        obtain ⟨x22, s22, rfl⟩ := good_slot hG 5 _ 22 rfl rfl rfl
        have e22 := s22.at
        obtain ⟨x29, s29, rfl⟩ := good_slot hG 12 _ 29 rfl rfl rfl
        have e29 := s29.at
        rw [if_pos (wanted_none rfl)]
        refine wp_value (.bool false) ?_ (hK _ _ hH (Keeps.refl _) rfl)
        go_simp
      · as_aux_lemma =>
        intro fa w K hN hF hH hG hK
        obtain ⟨x30, s30, rfl⟩ := good_slot hG 13 _ 30 rfl rfl rfl
        have e30 := s30.at
        rw [if_pos (wanted_none rfl)]
        refine wp_value (.bool false) ?_ (hK _ _ hH (Keeps.refl _) rfl)
        go_simp
      · as_aux_lemma =>
        intro fa w K hN hF hH hG hK
        have s1 : Slot fa 1 (.int .u64 (k : Int)) := hF.2 (1, .int .u64 (k : Int)) (by simp)
        have e1 := s1.at
        obtain ⟨x31, s31, rfl⟩ := good_slot hG 14 _ 31 rfl rfl rfl
        rw [if_pos (wanted_slot (g := 14) rfl rfl rfl s31)]
        refine wp_value (.int .u64 (k : Int)) ?_ (hK _ _ hH (Keeps.refl _) rfl)
        go_simp
      · as_aux_lemma =>
        intro fa w K hN hF hH hG hK
        have s9 : Slot fa 9 (.pointer (some ⟨z1, 0, none⟩)) := hF.2 (9, .pointer (some ⟨z1, 0, none⟩)) (by simp)
        have e9 := s9.eval
        obtain ⟨x31, s31, rfl⟩ := good_slot hG 14 _ 31 rfl rfl rfl
        rw [if_pos (wanted_slot (g := 14) rfl rfl rfl s31)]
        exact wp_load_mid 23 (.tmp 9) rfl z1 0 e9 (vals8 m) _ ((V1M0B1.out.keeps hH).range) undSum rfl (by rw [show (vals8 m).length = 32 by rw [vals8, List.length_map]; exact HM.out.1]; exact sizSum) (hK _ _ hH (Keeps.refl _) rfl)
      · as_aux_lemma =>
        intro fa w K hN hF hH hG hK
        have s4 : Slot fa 4 (.int .u64 (t : Int)) := hF.2 (4, .int .u64 (t : Int)) (by simp)
        have e4 := s4.at
        obtain ⟨x31, s31, rfl⟩ := good_slot hG 14 _ 31 rfl rfl rfl
        rw [if_pos (wanted_slot (g := 14) rfl rfl rfl s31)]
        refine wp_value (.int .u64 (t : Int)) ?_ (hK _ _ hH (Keeps.refl _) rfl)
        go_simp
      · as_aux_lemma =>
        intro fa w K hN hF hH hG hK
        obtain ⟨x32, s32, rfl⟩ := good_slot hG 15 _ 32 rfl rfl rfl
        have e32 := s32.at
        obtain ⟨x33, s33, rfl⟩ := good_slot hG 16 _ 33 rfl rfl rfl
        have e33 := s33.at
        obtain ⟨x34, s34, rfl⟩ := good_slot hG 17 _ 34 rfl rfl rfl
        have e34 := s34.at
        obtain ⟨x31, s31, rfl⟩ := good_slot hG 14 _ 31 rfl rfl rfl
        rw [if_pos (wanted_slot (g := 14) rfl rfl rfl s31)]
        go_simp
        (go_at_call 13; (refine (C3.out _ (VK1.out.trans hH)).mono ?_); rintro e w' ⟨rfl, hk⟩)
        exact hK _ _ (hH.trans hk) hk rfl
      · as_aux_lemma =>
        intro fa w K hN hF hH hG hK
        have s1 : Slot fa 1 (.int .u64 (k : Int)) := hF.2 (1, .int .u64 (k : Int)) (by simp)
        have e1 := s1.at
        obtain ⟨x31, s31, rfl⟩ := good_slot hG 14 _ 31 rfl rfl rfl
        rw [if_pos (wanted_slot (g := 14) rfl rfl rfl s31)]
        refine wp_value (.int .u64 (k : Int)) ?_ (hK _ _ hH (Keeps.refl _) rfl)
        go_simp
      · as_aux_lemma =>
        intro fa w K hN hF hH hG hK
        have s9 : Slot fa 9 (.pointer (some ⟨z1, 0, none⟩)) := hF.2 (9, .pointer (some ⟨z1, 0, none⟩)) (by simp)
        have e9 := s9.eval
        obtain ⟨x31, s31, rfl⟩ := good_slot hG 14 _ 31 rfl rfl rfl
        rw [if_pos (wanted_slot (g := 14) rfl rfl rfl s31)]
        exact wp_load_mid 23 (.tmp 9) rfl z1 0 e9 (vals8 m) _ ((V1M0B1.out.keeps hH).range) undSum rfl (by rw [show (vals8 m).length = 32 by rw [vals8, List.length_map]; exact HM.out.1]; exact sizSum) (hK _ _ hH (Keeps.refl _) rfl)
      · as_aux_lemma =>
        intro fa w K hN hF hH hG hK
        have s4 : Slot fa 4 (.int .u64 (t : Int)) := hF.2 (4, .int .u64 (t : Int)) (by simp)
        have e4 := s4.at
        obtain ⟨x31, s31, rfl⟩ := good_slot hG 14 _ 31 rfl rfl rfl
        rw [if_pos (wanted_slot (g := 14) rfl rfl rfl s31)]
        refine wp_value (.int .u64 (t : Int)) ?_ (hK _ _ hH (Keeps.refl _) rfl)
        go_simp
      · as_aux_lemma =>
        intro fa w K hN hF hH hG hK
        obtain ⟨x36, s36, rfl⟩ := good_slot hG 19 _ 36 rfl rfl rfl
        have e36 := s36.at
        obtain ⟨x37, s37, rfl⟩ := good_slot hG 20 _ 37 rfl rfl rfl
        have e37 := s37.at
        obtain ⟨x38, s38, rfl⟩ := good_slot hG 21 _ 38 rfl rfl rfl
        have e38 := s38.at
        obtain ⟨x31, s31, rfl⟩ := good_slot hG 14 _ 31 rfl rfl rfl
        rw [if_pos (wanted_slot (g := 14) rfl rfl rfl s31)]
        go_simp
        (go_at_call 14; (refine (C3r.out _ (VK1.out.trans hH)).mono ?_); rintro e w' ⟨rfl, hk⟩)
        exact hK _ _ (hH.trans hk) hk rfl
      · as_aux_lemma =>
        intro fa w K hN hF hH hG hK
        obtain ⟨x35, s35, rfl⟩ := good_slot hG 18 _ 35 rfl rfl rfl
        have e35 := s35.at
        obtain ⟨x39, s39, rfl⟩ := good_slot hG 22 _ 39 rfl rfl rfl
        have e39 := s39.at
        obtain ⟨x31, s31, rfl⟩ := good_slot hG 14 _ 31 rfl rfl rfl
        rw [if_pos (wanted_slot (g := 14) rfl rfl rfl s31)]
        refine wp_value (.bool false) ?_ (hK _ _ hH (Keeps.refl _) rfl)
        go_simp
      · as_aux_lemma =>
        intro fa w K hN hF hH hG hK
        obtain ⟨x31, s31, rfl⟩ := good_slot hG 14 _ 31 rfl rfl rfl
        have e31 := s31.at
        obtain ⟨x40, s40, rfl⟩ := good_slot hG 23 _ 40 rfl rfl rfl
        have e40 := s40.at
        rw [if_pos (wanted_none rfl)]
        refine wp_value (.bool false) ?_ (hK _ _ hH (Keeps.refl _) rfl)
        go_simp
  · refine ⟨?_, ?_, trivial⟩
    · as_aux_lemma =>
      intro fa w K hN hF hH hG hK
      rw [if_pos (wanted_none rfl)]
      go_simp
      (go_at_call 8; (refine (SM.out _ (K0.out.trans hH)).mono ?_); rintro e w' ⟨rfl, hk⟩)
      exact hK _ _ (hH.trans hk) hk rfl
    · as_aux_lemma =>
      intro fa w K hN hF hH hG hK
      obtain ⟨x16, s16, rfl⟩ := good_slot hG 0 _ 16 rfl rfl rfl
      have e16 := s16.at
      rw [if_pos (wanted_none rfl)]
      refine wp_value (.bool true) ?_ (hK _ _ hH (Keeps.refl _) rfl)
      go_simp
end Go.Proofs.YtkpjpocokbmlbaaDoor
/- For any seed, any scalar, any sum, any two points and any two signatures the law SignTells of package sign answers true, and its arguments read as they did: no conditions. -/
namespace Go.Proofs.YtkpjpocokbmlbaaDoor.signTells
open Go.ChangeShapes Go.WideShapes Go.ChangeAt Go.RowKit
open Go.ChangeMaps (open_string shut_string)

theorem own : ownKnob Tryd.prog.godebug = none := by kernel_rfl
theorem laidOut : laidOutB Tryd.prog = true := by kernel_rfl
/-- The door's own heap meets the condition. -/
theorem door_met (os : Os) (args : Array Value) : laidMetH Tryd.prog laidRoots ((World.doorLaid Tryd.prog 400 os).forCall (fun _ _ => 0) ⟨#[], args, []⟩).memory :=
  laidMetH_of_parts3 (fuel := 8) (laidMet_of_run' 8 (by kernel_rfl) (by kernel_rfl)) (by kernel_rfl) (by kernel_rfl)

theorem walk (v0 : Value) (a1 : Int) (v2 : Value) (a3 : Int) (a4 : Int) (v5 : Value) (v6 : Value) (w : World) (w0 : ∃ l, v0 = .agg (vals8 l).toArray ∧ Sum32 l) (w1 : (Lit.int .u64 a1).wf = true) (w2 : ∃ l, v2 = .agg (vals8 l).toArray ∧ Sum32 l) (w3 : (Lit.int .u64 a3).wf = true) (w4 : (Lit.int .u64 a4).wf = true) (w5 : ∃ a b : Nat, v5 = .agg #[.int .u64 (a : Int), .int .u64 (b : Int)] ∧ a < 18446744073709551616 ∧ b < 18446744073709551616) (w6 : ∃ a b : Nat, v6 = .agg #[.int .u64 (a : Int), .int .u64 (b : Int)] ∧ a < 18446744073709551616 ∧ b < 18446744073709551616) (R : RootsIn w) :
    Calls Tryd.prog 3 #[v0, .int .u64 a1, v2, .int .u64 a3, .int .u64 a4, v5, v6] w fun e w' => e = .returned (.bool true) ∧ Below w.heap.size w w' := by
  obtain ⟨l0, rfl, h0⟩ := w0
  obtain ⟨a1, rfl, h1⟩ := arg_u64 w1
  obtain ⟨l2, rfl, h2⟩ := w2
  obtain ⟨a3, rfl, h3⟩ := arg_u64 w3
  obtain ⟨a4, rfl, h4⟩ := arg_u64 w4
  obtain ⟨r5, s5, rfl, hr5, hs5⟩ := w5
  obtain ⟨r6, s6, rfl, hr6, hs6⟩ := w6
  exact tells_walk roots_stable sign_here point_here field_here l0 a1 l2 a3 a4 r5 s5 r6 s6 w R h0 h1 h2 h3 h4 hr5 hs5 hr6 hs6

set_option maxRecDepth 100000 in
theorem lifted (os : Os) (started : os.Started) (H : Type) (enc : TypeId × Value → H) :
    ReturnsInHanded {} Tryd.checked os 3 .any (fun w args => (Rows.signTellsSpec.pre enc Tryd.prog Tryd.f3 [] false w args ∧ laidMetH Tryd.prog laidRoots w) ∧ sizedMet enc Tryd.prog Tryd.f3 (OpenSpec.ofChange Rows.signTellsSpec) false w args)
      (Rows.signTellsSpec.post enc Tryd.prog Tryd.f3 false true false false) := by
  refine returnsInHanded_of_change_and (C := Tryd.checked) (X := fun w _ => laidMetH Tryd.prog laidRoots w) (fun _ _ _ hh h => h.of_heap hh) own started (by kernel_rfl) Tryd.func3
    (ChangeSpec.witness_shaped (enc := enc) (C := Tryd.checked) (os := os) (X := fun w _ => laidMetH Tryd.prog laidRoots w) false (World.doorLaid Tryd.prog 400 os) #[.agg #[.int .u8 0, .int .u8 0, .int .u8 0, .int .u8 0, .int .u8 0, .int .u8 0, .int .u8 0, .int .u8 0, .int .u8 0, .int .u8 0, .int .u8 0, .int .u8 0, .int .u8 0, .int .u8 0, .int .u8 0, .int .u8 0, .int .u8 0, .int .u8 0, .int .u8 0, .int .u8 0, .int .u8 0, .int .u8 0, .int .u8 0, .int .u8 0, .int .u8 0, .int .u8 0, .int .u8 0, .int .u8 0, .int .u8 0, .int .u8 0, .int .u8 0, .int .u8 0], .int .u64 0, .agg #[.int .u8 0, .int .u8 0, .int .u8 0, .int .u8 0, .int .u8 0, .int .u8 0, .int .u8 0, .int .u8 0, .int .u8 0, .int .u8 0, .int .u8 0, .int .u8 0, .int .u8 0, .int .u8 0, .int .u8 0, .int .u8 0, .int .u8 0, .int .u8 0, .int .u8 0, .int .u8 0, .int .u8 0, .int .u8 0, .int .u8 0, .int .u8 0, .int .u8 0, .int .u8 0, .int .u8 0, .int .u8 0, .int .u8 0, .int .u8 0, .int .u8 0, .int .u8 0], .int .u64 0, .int .u64 0, .agg #[.int .u64 0, .int .u64 0], .agg #[.int .u64 0, .int .u64 0]] 8 rfl (World.shaped_of_RefB (by kernel_rfl) (by kernel_rfl)) (by kernel_rfl) (by kernel_rfl) (by kernel_rfl) (door_met os _)) ?_
  intro W base args ds gs before hval0 hW _ _ hL _
  have hval : ∀ (j : Nat) t v, Tryd.f3.params[j]? = some t → args[j]? = some v → Value.okWide Tryd.prog W .any base t v := hval0
  have hW' := hW
  obtain ⟨p, q, hA0, hV, rfl, hfz, hnd⟩ := hW
  have hA : DataW.TrodAll enc Tryd.prog W 0 (fun _ => true) true Tryd.f3.params.toList args.toList ds p := hA0
  rw [Tryd.params3] at hA hval
  obtain ⟨v0, vs0, d0, ds0, p0, q0, hargs, rfl, rfl, h0, r0⟩ := trodAll_cons hA
  obtain ⟨v1, vs1, d1, ds1, p1, q1, rfl, rfl, rfl, h1, r1⟩ := trodAll_cons r0
  obtain ⟨v2, vs2, d2, ds2, p2, q2, rfl, rfl, rfl, h2, r2⟩ := trodAll_cons r1
  obtain ⟨v3, vs3, d3, ds3, p3, q3, rfl, rfl, rfl, h3, r3⟩ := trodAll_cons r2
  obtain ⟨v4, vs4, d4, ds4, p4, q4, rfl, rfl, rfl, h4, r4⟩ := trodAll_cons r3
  obtain ⟨v5, vs5, d5, ds5, p5, q5, rfl, rfl, rfl, h5, r5⟩ := trodAll_cons r4
  obtain ⟨v6, vs6, d6, ds6, p6, q6, rfl, rfl, rfl, h6, r6⟩ := trodAll_cons r5
  obtain ⟨rfl, rfl, rfl⟩ := trodAll_nil r6
  obtain rfl : args = #[v0, v1, v2, v3, v4, v5, v6] := by cases args; simp_all
  obtain ⟨rfl, rfl⟩ := trodVars_none hV
  have k0 := h0
  have lt0 : ∀ x ∈ p0, x.block < W.heap.size := by obtain ⟨m, hm⟩ := k0; exact DataW.trod_lt m _ _ _ hm
  have w0 := sum_came (hval 0 23 v0 rfl rfl) h0
  obtain ⟨a1, rfl, rfl, rfl, w1⟩ := open_int Tryd.underlying25 (hval 1 25 v1 rfl rfl) h1
  have k2 := h2
  have lt2 : ∀ x ∈ p2, x.block < W.heap.size := by obtain ⟨m, hm⟩ := k2; exact DataW.trod_lt m _ _ _ hm
  have w2 := sum_came (hval 2 23 v2 rfl rfl) h2
  obtain ⟨a3, rfl, rfl, rfl, w3⟩ := open_int Tryd.underlying26 (hval 3 26 v3 rfl rfl) h3
  obtain ⟨a4, rfl, rfl, rfl, w4⟩ := open_int Tryd.underlying26 (hval 4 26 v4 rfl rfl) h4
  have k5 := h5
  have lt5 : ∀ x ∈ p5, x.block < W.heap.size := by obtain ⟨m, hm⟩ := k5; exact DataW.trod_lt m _ _ _ hm
  have w5 := sig_came (hval 5 28 v5 rfl rfl) h5
  have k6 := h6
  have lt6 : ∀ x ∈ p6, x.block < W.heap.size := by obtain ⟨m, hm⟩ := k6; exact DataW.trod_lt m _ _ _ hm
  have w6 := sig_came (hval 6 28 v6 rfl rfl) h6
  have R := roots_in hL
  clear hA0 hval0
  refine (walk v0 a1 v2 a3 a4 v5 v6 W w0 w1 w2 w3 w4 w5 w6 R).mono fun e W' ⟨he, bel⟩ => ?_
  subst he
  exact ⟨_, rfl, _, _, _, [], _, [], hW', trodAll_mk1 (shut_bool Tryd.underlying4 _), (trodAll_cons_mk (Below.trod laidOut (by kernel_rfl) (of_decide_eq_true (by kernel_rfl)) k0 bel lt0) (trodAll_cons_mk (shut_int Tryd.underlying25 w1) (trodAll_cons_mk (Below.trod laidOut (by kernel_rfl) (of_decide_eq_true (by kernel_rfl)) k2 bel lt2) (trodAll_cons_mk (shut_int Tryd.underlying26 w3) (trodAll_cons_mk (shut_int Tryd.underlying26 w4) (trodAll_cons_mk (Below.trod laidOut (by kernel_rfl) (of_decide_eq_true (by kernel_rfl)) k5 bel lt5) (trodAll_cons_mk (Below.trod laidOut (by kernel_rfl) (of_decide_eq_true (by kernel_rfl)) k6 bel lt6) trodAll_mk0))))))), rfl, bel.frame _, fun h => by cases h⟩

theorem over : Rows.signTellsRow.holds Tryd.pinned (OpenSpec.ofChange Rows.signTellsSpec) :=
  OpenClaim.holds_of_wide 3 Tryd.f3 rfl rfl rfl rfl rfl rfl rfl ⟨rfl, rfl, rfl, rfl, rfl⟩ rfl rfl rfl rfl rfl (by kernel_rfl) Tryd.func3 (by kernel_rfl)
    (of_decide_eq_true (by kernel_rfl)) (by unfold Func.isWrapper; first | (rw [if_pos (by decide +kernel)]; kernel_rfl) | (rw [if_neg (by decide +kernel)]; exact ⟨rfl, rfl⟩))
    (fun os started H enc _ => lifted os started H enc)

/-- THE STATEMENT -/
theorem proved : Rows.SignTellsCardSaid :=
  Claim7.holds_tied_plain_at .later [] [.data] true (true, "d6a244305f9c0f6a45b5964e7dfa2a72380d0d2b1b18890419a42f4a4042f7fa") false over (fun _ h => by cases h) (by kernel_rfl) (fun _ h => by cases h) signTells_row_tie rfl ⟨rfl, rfl⟩ (by kernel_rfl) rfl
    (fun f fn hf hfn => by
      obtain rfl : f = 3 := Option.some.inj ((show Tryd.prog.funcNamed "corsned/corsnedlaw07.SignTells" = some 3 by kernel_rfl).symm.trans hf) |>.symm
      obtain rfl : fn = Tryd.f3 := (Option.some.inj (Tryd.func3.symm.trans hfn)).symm
      exact ⟨by kernel_rfl, fun j t ht => by
        rw [Tryd.params3] at ht
        have hm : t ∈ [23, 25, 23, 26, 26, 28, 28] := by simpa using Array.mem_of_getElem? ht
        have hall : ([23, 25, 23, 26, 26, 28, 28].all fun u => !Tryd.prog.wantsStandIn u) = true := by kernel_rfl
        exact (show Tryd.prog.wantsStandIn t = false by simpa using List.all_eq_true.1 hall t hm)⟩)
    (by kernel_rfl)
end Go.Proofs.YtkpjpocokbmlbaaDoor.signTells
