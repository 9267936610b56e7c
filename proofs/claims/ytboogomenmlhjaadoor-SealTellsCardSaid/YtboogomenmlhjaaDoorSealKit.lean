/- What is asked of package seal, as contracts: in a world of which R holds. -/
import Derived.Test.YtboogomenmlhjaaDoorSealMath
import Derived.Test.YtboogomenmlhjaaDoorApp8h
import Derived.Test.YtboogomenmlhjaaDoorSumEq
import Derived.Test.YtboogomenmlhjaaDoorDrawnM
import Derived.Test.YtboogomenmlhjaaDoorStrBytes
import Derived.Lib.Hide
import Derived.Lib.Walk
import Derived.Lib.BitFns
import Derived.IntWalk
import Derived.Outline
import Derived.Deep.DeepCutAuto
import Derived.Deep.CutBlock
import Derived.Deep.QuietTactic
import Derived.BigQuiet
set_option linter.unusedVariables false
set_option linter.unusedSimpArgs false
set_option maxRecDepth 10000
namespace Go.Proofs.YtboogomenmlhjaaDoor
open Go.RowKit Go.HashMath

def streamL (key : List Nat) (n : Int) : List Nat := if 0 ≤ n ∧ n ≤ 65536 then streamB key n.toNat else []
/-- A row of the call's own, of these bytes. -/
def GivesS (w : World) (xs : List Nat) (e : Ending) (w' : World) : Prop := ∃ v, e = .returned v ∧ Own8 w' w.heap.size v xs ∧ Keeps w w'
def GivesSB (w : World) (xs : List Nat) (b : Bool) (e : Ending) (w' : World) : Prop := ∃ v, e = .returned (.tuple #[v, .bool b]) ∧ Own8 w' w.heap.size v xs ∧ Keeps w w'
structure SealC (R : World → Prop) : Prop where
  cstream : ∀ (key : List Nat) (n : Int) (w : World), Sum32 key → -9223372036854775808 ≤ n → n ≤ 9223372036854775807 → R w → Calls Tryd.prog 12 #[.agg (vals8 key).toArray, .int .i64 n] w (GivesS w (streamL key n))
  cseal : ∀ (key : List Nat) (v : Value) (xs : List Nat) (w : World), Sum32 key → Holds8 w v xs → R w → Calls Tryd.prog 14 #[.agg (vals8 key).toArray, v] w (GivesS w (sealL key xs))
  copen : ∀ (key : List Nat) (v : Value) (xs : List Nat) (w : World), Sum32 key → Holds8 w v xs → R w → Calls Tryd.prog 10 #[.agg (vals8 key).toArray, v] w (GivesSB w (openV key xs) (opensB key xs))
end Go.Proofs.YtboogomenmlhjaaDoor
