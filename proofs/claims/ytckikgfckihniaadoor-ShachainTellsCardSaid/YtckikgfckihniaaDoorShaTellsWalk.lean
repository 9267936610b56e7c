/- The walk of the law ShachainTells: the Go text answers true, whatever the seed, the secrets, the numbers and the bytes. -/
import Derived.Test.YtckikgfckihniaaDoorShaTellsNo
import Derived.Test.YtckikgfckihniaaDoorShaTellsYes
import Derived.Test.YtckikgfckihniaaDoorShaTellsBad
set_option linter.unusedVariables false
set_option linter.unusedSimpArgs false
set_option maxRecDepth 10000
namespace Go.Proofs.YtckikgfckihniaaDoor
open Go.RowKit Go.HashMath Go.CodeMath

theorem tells_walk {R : World → Prop} {St SD : World → Value → (Nat → Prop) → Nat → KeptL → Prop} (hR : Lasting10 R) (CH : ShaC R St) (CD : ShaD SD) (Sm : Sum10 R) (sd : List Nat) (no kk : Int) (lv bv : Value) (l : List (List Nat)) (b : List Nat) (w00 : World) (hw : R w00) (hs : Sum32 sd) (hl : HoldsB vals8 32 w00 lv l) (hls : ∀ y ∈ l, Sum32 y) (hb : Holds8 w00 bv b) (n0 : -9223372036854775808 ≤ no) (n1 : no ≤ 9223372036854775807) (k0 : -9223372036854775808 ≤ kk) (k1 : kk ≤ 9223372036854775807) : Calls Tryd.prog 3 #[.agg (vals8 sd).toArray, .int .i64 no, lv, .int .i64 kk, bv] w00 fun e w' => e = .returned (.bool true) ∧ Keeps w00 w' := by
  by_cases h : l.length ≤ 60 ∧ b.length ≤ 800
  · by_cases g : ∃ n L, IsRead b n L
    · obtain ⟨n, L, ir⟩ := g
      exact tells_yes hR CH CD Sm sd no kk lv bv l b w00 hw hs hl hls hb n0 n1 k0 k1 n L ir h.1 h.2
    · exact tells_bad hR CH CD Sm sd no kk lv bv l b w00 hw hs hl hls hb n0 n1 k0 k1 (fun n L q => g ⟨n, L, q⟩) h.1 h.2
  · exact tells_no hR CH CD Sm sd no kk lv bv l b w00 hw hs hl hls hb n0 n1 k0 k1 h
end Go.Proofs.YtckikgfckihniaaDoor
