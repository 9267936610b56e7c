/- The walk of the law SealNew: the Go text answers true, whatever the key and the bytes. -/
import Derived.Test.YtboogomenmlhjaaDoorSealSmall
import Derived.Test.YtboogomenmlhjaaDoorStrAll
set_option linter.unusedVariables false
set_option linter.unusedSimpArgs false
set_option maxRecDepth 10000
namespace Go.Proofs.YtboogomenmlhjaaDoor
open Go.RowKit Go.HashMath

def NewAt (W : World) (v : Value) (n : Nat) (si : Value) (wr : World) : Prop := ∃ i : Nat, i ≤ n ∧ si = .int .i64 (i : Int) ∧ (∃ L : List Nat, L.length = n ∧ Own8 wr W.heap.size v L) ∧ Keeps W wr
set_option maxHeartbeats 1000000 in
set_option maxRecDepth 100000 in
theorem snew_walk {R : World → Prop} (hR : Lasting R) (K : SealC R) (S : SumC R) (key xs : List Nat) (v : Value) (w : World) (hm : Sum32 key) (h : Holds8 w v xs) (hw : R w) :
    Calls Tryd.prog 8 #[.agg (vals8 key).toArray, v] w fun e w' => e = .returned (.bool true) ∧ Keeps w w' := by
  have RW := Lib.hid (fun w' (q : Keeps w w') => hR w w' hw q)
  have HM := Lib.hid hm
  have SM := Lib.hid (fun w' (q : Keeps w w') => seal_small hR K S w' (RW.out _ q))
  have CS := Lib.hid (fun v x w' (q : Keeps w w') (h : Holds8 w' v x) => K.cseal key v x w' HM.out h (RW.out _ q))
  have CO := Lib.hid (fun v x w' (q : Keeps w w') (h : Holds8 w' v x) => K.copen key v x w' HM.out h (RW.out _ q))
  have CT := Lib.hid (fun n w' (q : Keeps w w') (h0 : -9223372036854775808 ≤ n) (h1 : n ≤ 9223372036854775807) => K.cstream key n w' HM.out h0 h1 (RW.out _ q))
  have HX := Lib.hid h
  have lX := h.len
  obtain ⟨_, oX, nX, cX, rfl, hnX, _⟩ := h
  subst hnX
  have aX : (0 : Int) ≤ (xs.length : Int) := by omega
  have bX : (xs.length : Int) ≤ 9223372036854775807 := by omega
  clear hR K S hw hm
  go_enter Tryd.func8, Tryd.ntmps8
  go_upto_region 1 with fail
  obtain ⟨W0, eW⟩ : ∃ W, W = w.alloc (.cells (vals8 key).toArray 23) := ⟨_, rfl⟩
  have A0 : ArrN .u8 256 23 W0 w.heap.size key := by rw [eW]; exact ArrN.new w key HM.out.2
  have K0 : Keeps w W0 := by rw [eW]; exact (Keeps.refl w).alloc _
  change Code.wp _ _ _ _ (w.alloc (.cells (vals8 key).toArray 23))
  rw [← eW]
  clear eW
  obtain ⟨z, ez⟩ : ∃ z, z = w.heap.size := ⟨_, rfl⟩
  rw [← ez] at A0 ⊢
  clear ez
  go_upto_region 2 with (go_at_call 9; (refine (SM.out _ K0).mono ?_); rintro e w1 ⟨rfl, hk1⟩)
  have K1 := Lib.hid (K0.trans hk1)
  have A1 := Lib.hid (A0.keeps hk1)
  have HX := Lib.hid (HX.out.keeps K1.out)
  clear A0 K0 hk1
  by_cases g1 : (xs.length : Int) > 1000
  · go_wp2_with fail
    go_ret
    exact ⟨rfl, K1.out⟩
  · have BD := Lib.hid (show xs.length ≤ 1000 by omega)
    have CS0 := Lib.hid (fun w' (q : Keeps w w') (h : Holds8 w' (.slice oX xs.length cX) xs) => show Calls Tryd.prog 14 #[.agg (vals8 key).toArray, .slice oX xs.length cX] w' (GivesS w' (sealB key xs)) from by have q2 := CS.out _ _ w' q h; rw [sealL, if_pos (by omega)] at q2; exact q2)
    have OS := open_seal (key := key) (p := xs) (by omega)
    have CO0 := Lib.hid (fun v w' (q : Keeps w w') (h : Holds8 w' v (sealB key xs)) => show Calls Tryd.prog 10 #[.agg (vals8 key).toArray, v] w' (GivesSB w' xs true) from by have q2 := CO.out _ _ w' q h; rw [OS.1, OS.2] at q2; exact q2)
    clear OS CS CO CT
    have LB := Lib.hid (show ([] : List Nat).length + (xs).length ≤ 140737488355328 by have := BD.out; simp; omega)
    go_wp2_with (at_builtin; refine wpList_append8h rfl (.tmp 19) (.tmp 20) rfl w1.heap.size _ _ [] xs (by rfl) (own_lit8 w1 w1.heap.size (Nat.le_refl _) [] (by simp) (by simp) rfl rfl) (by rfl) (HX.out.keeps ((Keeps.refl _).alloc _)) LB.out (by rw [World.size_alloc]; omega) ?_)
    intro v0 w2 ho0 hb0 hg0
    have ho1 : Own8 w2 w1.heap.size v0 (xs) := ho0
    obtain ⟨o6, no6, co6, rfl⟩ : ∃ o n c, v0 = .slice o n c := (by obtain ⟨_, o, n, c, e, _⟩ := ho1.holds; exact ⟨o, n, c, e⟩)
    have KX := Lib.hid (show Keeps w1 w2 from Below.trans ((Keeps.refl _).alloc _) hb0)
    have G6 := Lib.hid ho1.holds
    have A1 := Lib.hid (A1.out.keeps KX.out)
    have HX := Lib.hid (HX.out.keeps KX.out)
    have K1 := Lib.hid (K1.out.trans KX.out)
    clear ho0 ho1 hb0 hg0 LB KX
    go_upto_region 5 with fail
    have RG := Lib.hid A1.out.range
    have kk := K1.out
    go_upto_region 6 with (first
      | (refine wpList_load_sm (L := key) rfl (.tmp 2) rfl (by rfl) RG.out HM.out.1 ?_)
      | (go_at_call 14; (refine (CS0.out _ kk HX.out).mono ?_); rintro e w3 ⟨v, rfl, own, k3⟩; have h7 := own.holds; obtain ⟨o7, no7, co7, rfl⟩ : ∃ o n c, v = .slice o n c := (by obtain ⟨_, o, n, c, e, _⟩ := own.holds; exact ⟨o, n, c, e⟩); clear own))
    have KX := Lib.hid (k3)
    have A1 := Lib.hid (A1.out.keeps KX.out)
    have HX := Lib.hid (HX.out.keeps KX.out)
    have G6 := Lib.hid (G6.out.keeps KX.out)
    have G7 := Lib.hid h7
    clear h7 k3 RG kk
    have K1 := Lib.hid (K1.out.trans KX.out)
    have LB := Lib.hid (show ([] : List Nat).length + (sealB key xs).length ≤ 140737488355328 by have := BD.out; rw [seal_len]; simp; omega)
    go_wp2_with (at_builtin; refine wpList_append8h rfl (.tmp 25) (.tmp 26) rfl w3.heap.size _ _ [] (sealB key xs) (by rfl) (own_lit8 w3 w3.heap.size (Nat.le_refl _) [] (by simp) (by simp) rfl rfl) (by rfl) (G7.out.keeps ((Keeps.refl _).alloc _)) LB.out (by rw [World.size_alloc]; omega) ?_)
    intro v0 w4 ho0 hb0 hg0
    have ho1 : Own8 w4 w3.heap.size v0 (sealB key xs) := ho0
    obtain ⟨o8, no8, co8, rfl⟩ : ∃ o n c, v0 = .slice o n c := (by obtain ⟨_, o, n, c, e, _⟩ := ho1.holds; exact ⟨o, n, c, e⟩)
    have KX := Lib.hid (show Keeps w3 w4 from Below.trans ((Keeps.refl _).alloc _) hb0)
    have G8 := Lib.hid ho1.holds
    have A1 := Lib.hid (A1.out.keeps KX.out)
    have HX := Lib.hid (HX.out.keeps KX.out)
    have G6 := Lib.hid (G6.out.keeps KX.out)
    have G7 := Lib.hid (G7.out.keeps KX.out)
    have K1 := Lib.hid (K1.out.trans KX.out)
    clear ho0 ho1 hb0 hg0 LB KX
    go_upto_region 7 with fail
    have RG := Lib.hid A1.out.range
    have kk := K1.out
    go_upto_region 8 with (first
      | (refine wpList_load_sm (L := key) rfl (.tmp 2) rfl (by rfl) RG.out HM.out.1 ?_)
      | (go_at_call 10; (refine (CO0.out _ _ kk G7.out).mono ?_); rintro e w5 ⟨v, rfl, own, k5⟩; obtain ⟨o9, no9, co9, rfl⟩ : ∃ o n c, v = .slice o n c := (by obtain ⟨_, o, n, c, e, _⟩ := own.holds; exact ⟨o, n, c, e⟩)))
    have KX := Lib.hid (k5)
    have O9 := Lib.hid own
    clear own k5 RG kk
    have K4 := Lib.hid K1.out
    have K1 := Lib.hid (K1.out.trans KX.out)
    have e9 : no9 = xs.length := O9.out.len
    have KB := Lib.hid KX.out
    clear KX
    go_wp2_with fail
    go_loopw [11] (fun si wr => NewAt w4 (.slice o9 no9 co9) xs.length si wr) (fun si _ => xs.length - (intOf si).toNat)
    case atStart => exact ⟨0, by omega, rfl, ⟨xs, rfl, O9.out⟩, KB.out⟩
    case round =>
      obtain ⟨i, hi, rfl, ⟨M, hM, hO⟩, hK⟩ := hrel
      have HK := Lib.hid hK
      have i0 : (0 : Int) ≤ (i : Int) := by omega
      by_cases g : i < xs.length
      · have i1 : (i : Int) < (no9 : Int) := by omega
        obtain ⟨gp, cp, ep, hB⟩ := hO.parts (by omega)
        cases ep
        obtain ⟨cl, fz⟩ := hO.cell i (by omega)
        have HO := Lib.hid hO
        have HM1 := Lib.hid (show i < M.length ∧ M.length = xs.length ∧ i < xs.length ∧ w4.heap.size ≤ gp from ⟨by omega, hM, g, hB⟩)
        generalize M.getD i 0 = x at *
        have U := Lib.hid (show ((x : Int) + 1) % 256 = (((x + 1) % 256 : Nat) : Int) by omega)
        clear hO hM hK hB hi g O9
        go_wp2_with fail
        first | rw [U.out] | skip
        have HO2 := Lib.hid (HO.out.set i ((x + 1) % 256) HM1.out.1 (Nat.mod_lt _ (by decide)))
        go_roundw
        case rel => exact ⟨i + 1, HM1.out.2.2.1, by go_num, ⟨_, by rw [List.length_set]; exact HM1.out.2.1, HO2.out⟩, Below.setCell HK.out HM1.out.2.2.2 _⟩
        case measure => have := HM1.out.2.2.1; simp [intOf] <;> omega
      · obtain rfl : i = xs.length := by omega
        have i1 : ¬ (xs.length : Int) < (no9 : Int) := by omega
        have K2 := Lib.hid (show Keeps w4 wr from hK)
        have A1 := Lib.hid (A1.out.keeps K2.out)
        have HX := Lib.hid (HX.out.keeps K2.out)
        have G6 := Lib.hid (G6.out.keeps K2.out)
        have G7 := Lib.hid (G7.out.keeps K2.out)
        have G8 := Lib.hid (G8.out.keeps K2.out)
        have K1 := Lib.hid (K4.out.trans K2.out)
        clear hi hM hO hK g O9 K4 K2 KB
        go_upto_region 12 with fail
        have RG := Lib.hid A1.out.range
        have kk := K1.out
        go_upto_region 13 with (first
          | (refine wpList_load_sm (L := key) rfl (.tmp 2) rfl (by rfl) RG.out HM.out.1 ?_)
          | (go_at_call 10; (refine (CO0.out _ _ kk G7.out).mono ?_); rintro e w6 ⟨v, rfl, own, k6⟩; have h12 := own.holds; obtain ⟨o12, no12, co12, rfl⟩ : ∃ o n c, v = .slice o n c := (by obtain ⟨_, o, n, c, e, _⟩ := own.holds; exact ⟨o, n, c, e⟩); clear own))
        have KX := Lib.hid (k6)
        have A1 := Lib.hid (A1.out.keeps KX.out)
        have HX := Lib.hid (HX.out.keeps KX.out)
        have G6 := Lib.hid (G6.out.keeps KX.out)
        have G7 := Lib.hid (G7.out.keeps KX.out)
        have G8 := Lib.hid (G8.out.keeps KX.out)
        have G12 := Lib.hid h12
        clear h12 k6 RG kk
        have K1 := Lib.hid (K1.out.trans KX.out)
        have sq1 := run_conv_all HX.out
        have sq2 := run_conv_all G6.out
        have sq3 := run_conv_all G7.out
        have sq4 := run_conv_all G8.out
        have sq5 := run_conv_all G12.out
        go_wp2_with fail
        go_ret
        exact ⟨rfl, K1.out⟩
end Go.Proofs.YtboogomenmlhjaaDoor
