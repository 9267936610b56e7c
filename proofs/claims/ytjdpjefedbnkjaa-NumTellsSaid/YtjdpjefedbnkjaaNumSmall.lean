/- The contract of the laws' small case: it comes out right. -/
import Derived.Test.YtjdpjefedbnkjaaNumAdd
import Derived.Test.YtjdpjefedbnkjaaNumText
import Derived.Test.YtjdpjefedbnkjaaNumParse
namespace Go.Proofs.Ytjdpjefedbnkjaa
open Go.RowKit Go.NumDigits

theorem dg_two {n : Nat} (h : 9 < n) (h2 : n < 100) : dg n = [48 + ((n / 10 : Nat) : Int), 48 + ((n % 10 : Nat) : Int)] := by
  rw [dg_great h, dg_small (by omega)]; rfl
theorem txt_305 : txt (-305) = [45, 51, 48, 53] := by
  have e : dg 305 = [51, 48, 53] := by rw [dg_great (by decide), dg_two (by decide) (by decide)]; rfl
  show (if (-305 : Int) < 0 then 45 :: dg (-305 : Int).natAbs else dg (-305 : Int).natAbs) = _
  rw [if_pos (by decide)]
  show 45 :: dg 305 = _
  rw [e]
theorem txt_10 : txt 10 = [49, 48] := by
  show (if (10 : Int) < 0 then 45 :: dg (10 : Int).natAbs else dg (10 : Int).natAbs) = _
  rw [if_neg (by decide)]
  show dg 10 = _
  rw [dg_two (by decide) (by decide)]; rfl

set_option maxHeartbeats 2000000 in
set_option maxRecDepth 100000 in
theorem small_any (w : World) : Calls Try.prog 7 #[] w fun e w' => e = .returned (.bool true) ∧ Grown w w' := by
  have a1 : addB 3 4 = true := by decide
  have a2 : addV 3 4 = 7 := by decide
  have a3 : addB 1125899906842624 1 = false := by decide
  have a5 : subB 7 4 = true := by decide
  have a6 : subV 7 4 = 3 := by decide
  have a7 : subB 4 7 = false := by decide
  have p1 : quoB 10 2 3 = true := by decide
  have p2 : quoV 10 2 3 = 6 := by decide
  have p3 : upB 10 2 3 = true := by decide
  have p4 : upV 10 2 3 = 7 := by decide
  have p5 : upB 9 2 3 = true := by decide
  have p6 : upV 9 2 3 = 6 := by decide
  have p7 : quoB 1125899906842624 2 1 = false := by decide
  have p8 : quoB 1125899906842624 9223372036854775807 9223372036854775807 = true := by decide
  have p9 : quoV 1125899906842624 9223372036854775807 9223372036854775807 = 1125899906842624 := by decide
  have r0 := read_mk (-305) (-305) 9 (by omega) (by omega) (by omega) (by omega)
  rw [txt_305] at r0
  have r1 : readB (bts { data := #[45, 51, 48, 53] }) (-305) 9 = true := r0.1
  have r2 : readV (bts { data := #[45, 51, 48, 53] }) (-305) 9 = -305 := r0.2
  have r3 : readB (bts { data := #[48, 48, 55] }) 0 9 = false := by
    refine (read_no fun n _ _ _ _ e => ?_).1
    rcases txt_shape e with ⟨_, h⟩ | ⟨_, d, v, c, k, h, _, c0⟩ | ⟨_, t, h, d, v, c, k, ht, _, c0⟩
    · exact absurd h (by decide)
    · exact c0 (List.cons.inj h).1.symm
    · exact absurd (List.cons.inj h).1 (by decide)
  have r4 : readB (bts { data := #[49, 48] }) 0 9 = false := by
    refine (read_no fun n _ _ _ h9 e => ?_).1
    have := txt_inj (e.trans txt_10.symm)
    omega
  have t1 : strOfNums (txt (-305)) = { data := #[45, 51, 48, 53] } := by rw [txt_305]; rfl
  have t2 : strOfNums (txt 0) = { data := #[48] } := by rw [txt_zero]; rfl
  clear r0
  go_enter Try.func7, Try.ntmps7
  go_wp2_with (first
    | (go_at_call 8; refine (add_any _ _ _).mono ?_; rintro e w' ⟨rfl, rfl⟩)
    | (go_at_call 10; refine (sub_any _ _ _).mono ?_; rintro e w' ⟨rfl, rfl⟩)
    | (go_at_call 12; refine (part_any _ _ _ ?_ ?_ _).mono ?_; omega; omega; rintro e w' ⟨rfl, hg⟩)
    | (go_at_call 14; refine (up_any _ _ _ ?_ ?_ _).mono ?_; omega; omega; rintro e w' ⟨rfl, hg⟩)
    | (go_at_call 16; refine (parse_any _ ?_ _ _ _).mono ?_; decide; rintro e w' ⟨rfl, hg⟩)
    | (go_at_call 18; refine (text_any _ ?_ ?_ _).mono ?_; omega; omega; rintro e w' ⟨rfl, hg⟩))
  go_ret
  refine ⟨rfl, ?_⟩
  repeat (first | (with_reducible assumption) | (apply grown_trans; (with_reducible assumption)))
end Go.Proofs.Ytjdpjefedbnkjaa
