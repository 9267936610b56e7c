/- The walk of the law NumTells: the Go text answers true, for any three numbers and any text; the world has at most new blocks. -/
import Derived.Test.YtjdpjefedbnkjaaNumRef
import Derived.Test.YtjdpjefedbnkjaaNumRefParse
namespace Go.Proofs.Ytjdpjefedbnkjaa
open Go.RowKit Go.NumDigits

set_option maxHeartbeats 4000000 in
set_option maxRecDepth 100000 in
theorem numTells_walk (a b c : Int) (s : ByteArray) (l0 : -9223372036854775808 ≤ a) (h0 : a ≤ 9223372036854775807) (h1 : b ≤ 9223372036854775807) (h2 : c ≤ 9223372036854775807) (hs : s.size ≤ maxLen) (w : World) :
    Calls Try.prog 3 #[.int .i64 a, .int .i64 b, .int .i64 c, .string s] w fun e w' => e = .returned (.bool true) ∧ Grown w w' := by
  have A1 := add_any a b
  have A2 := ref_add_any a b
  have S1 := sub_any a b
  have S2 := ref_sub_any a b
  have P1 := part_any a b c h1 h2
  have P2 := ref_part_any a b c h1 h2
  have U1 := up_any a b c h1 h2
  have U2 := ref_up_any a b c h1 h2
  have R1 := parse_any s hs b c
  have R2 := ref_parse_any s hs b c
  have T1 := text_any a l0 h0
  have T2 := ref_text_any a.natAbs a (Nat.le_refl _) l0 h0
  generalize addV a b = v1 at *
  generalize addB a b = k1 at *
  generalize subV a b = v2 at *
  generalize subB a b = k2 at *
  generalize quoV a b c = v3 at *
  generalize quoB a b c = k3 at *
  generalize upV a b c = v4 at *
  generalize upB a b c = k4 at *
  generalize readV (bts s) b c = v5 at *
  generalize readB (bts s) b c = k5 at *
  generalize strOfNums (txt a) = x at *
  unfold maxLen at hs
  by_cases hl : (100 : Int) < (s.size : Int)
  · clear A1 A2 S1 S2 P1 P2 U1 U2 R1 R2 T1 T2
    go_enter Try.func3, Try.ntmps3
    go_wp2_with (go_at_call 7; (with_reducible refine (small_any _).mono ?_); rintro e w' ⟨rfl, hg⟩)
    go_ret
    exact ⟨rfl, hg⟩
  · go_enter Try.func3, Try.ntmps3
    go_wp2_with (first
      | (go_at_call 7; (with_reducible refine (small_any _).mono ?_); rintro e w' ⟨rfl, hg⟩)
      | (go_at_call 8; (with_reducible refine (A1 _).mono ?_); rintro e w' ⟨rfl, rfl⟩)
      | (go_at_call 9; (with_reducible refine (A2 _).mono ?_); rintro e w' ⟨rfl, rfl⟩)
      | (go_at_call 10; (with_reducible refine (S1 _).mono ?_); rintro e w' ⟨rfl, rfl⟩)
      | (go_at_call 11; (with_reducible refine (S2 _).mono ?_); rintro e w' ⟨rfl, rfl⟩)
      | (go_at_call 12; (with_reducible refine (P1 _).mono ?_); rintro e w' ⟨rfl, hg⟩)
      | (go_at_call 13; (with_reducible refine (P2 _).mono ?_); rintro e w' ⟨rfl, rfl⟩)
      | (go_at_call 14; (with_reducible refine (U1 _).mono ?_); rintro e w' ⟨rfl, hg⟩)
      | (go_at_call 15; (with_reducible refine (U2 _).mono ?_); rintro e w' ⟨rfl, rfl⟩)
      | (go_at_call 16; (with_reducible refine (R1 _).mono ?_); rintro e w' ⟨rfl, hg⟩)
      | (go_at_call 17; (with_reducible refine (R2 _).mono ?_); rintro e w' ⟨rfl, hg⟩)
      | (go_at_call 18; (with_reducible refine (T1 _).mono ?_); rintro e w' ⟨rfl, hg⟩)
      | (go_at_call 19; (with_reducible refine (T2 _).mono ?_); rintro e w' ⟨rfl, hg⟩))
    go_ret
    refine ⟨rfl, ?_⟩
    repeat (first | (with_reducible assumption) | (apply grown_trans; (with_reducible assumption)))
end Go.Proofs.Ytjdpjefedbnkjaa
