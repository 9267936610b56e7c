/-
  No cell of these rows narrows 'for every input' (looked for: loops, veiled, ifaces, maps, wideKeys, modest, calm, conditions, laid).
  DERIVED. THE GIVEN ROWS OF THIS SEAT. 7 by the template 'for every input the law returns true; each argument reads behind the call as it read before'; 0 by the template 'total and deterministic' (their statements: YtachhphneamfhaaTotals.lean).
  GIVEN WITH THE SEED: the statements are not yours to turn. If you find one false, say at which input.
  Laid BY PROGRAM, IN A SANDBOX (cutbox-rows.mjs): the forced cells as the released guide's own fill.sh prints them over the translation 7d887392124819b7… (all of the seat's roots in one cut). By AI agents, Wed Nov 11 2026. No macro, syntax, notation, axiom, sorry.
-/
import Derived.Test.YtachhphneamfhaaChecked
import GoSem.Claim
import GoSem.ClaimJoined
import GoSem.ClaimMapViews
import Derived.JoinedTies
import Derived.KernelRfl
namespace Go.Proofs.Ytachhphneamfhaa
/- THE CELL 'sum', in the pinned program and in every row, IS THE sha256 OF THE DUMP (.gsa) THAT YtachhphneamfhaaProg.lean LOADS. Nothing in Lean hashes anything: it is a label: what it is worth is what the hold of that sum in a sandbox is worth. -/
noncomputable def Try.pinned : Pinned := { name := "ytachhphneamfhaa", sum := "7d887392124819b756dec4ba3d76fb1b5c58310b35c2ea0a4bef1aa6466e6ffd", checked := Try.checked }
namespace Rows
def none {H : Type} : Left H := { results := [], args := [] }

/-- 'corsnedlaw03.FracSpells': WHATEVER THE INPUT: true; the input reads as it did. -/
def fracSpellsSpec : ChangeSpec := { name := "fracSpells", fn := fun _ => fun
  | [d1, d2] => { results := [.lit (.bool true)], args := [d1, d2] }
  | _ => none }
def fracSpellsRow : OpenClaim := { program := "ytachhphneamfhaa", sum := "7d887392124819b756dec4ba3d76fb1b5c58310b35c2ea0a4bef1aa6466e6ffd", func := "corsned/corsnedlaw03.FracSpells", spec := "fracSpells", inPlace := ["internal/bytealg.IndexByteString", "internal/bytealg.IndexString"], unfollowed := true, recurses := true, named := ["internal/bytealg.MaxLen"], apart := false }
def FracSpellsSaid : Prop := fracSpellsRow.holds Try.pinned (OpenSpec.ofChange fracSpellsSpec)

/-- ITS FALSE NEIGHBOUR: 'it returns false'. Refute it at one input. -/
def fracSpellsWrong : ChangeSpec := { name := "fracSpells", fn := fun _ => fun
  | [d1, d2] => { results := [.lit (.bool false)], args := [d1, d2] }
  | _ => none }
def FracSpellsWrongFalsely : Prop := fracSpellsRow.holds Try.pinned (OpenSpec.ofChange fracSpellsWrong)

/-- 'corsnedlaw03.FracRing': WHATEVER THE INPUT: true; the input reads as it did. -/
def fracRingSpec : ChangeSpec := { name := "fracRing", fn := fun _ => fun
  | [d1, d2, d3] => { results := [.lit (.bool true)], args := [d1, d2, d3] }
  | _ => none }
def fracRingRow : OpenClaim := { program := "ytachhphneamfhaa", sum := "7d887392124819b756dec4ba3d76fb1b5c58310b35c2ea0a4bef1aa6466e6ffd", func := "corsned/corsnedlaw03.FracRing", spec := "fracRing", inPlace := ["internal/bytealg.IndexByteString", "internal/bytealg.IndexString"], unfollowed := true, recurses := true, named := ["internal/bytealg.MaxLen"], apart := false }
def FracRingSaid : Prop := fracRingRow.holds Try.pinned (OpenSpec.ofChange fracRingSpec)

/-- ITS FALSE NEIGHBOUR: 'it returns false'. Refute it at one input. -/
def fracRingWrong : ChangeSpec := { name := "fracRing", fn := fun _ => fun
  | [d1, d2, d3] => { results := [.lit (.bool false)], args := [d1, d2, d3] }
  | _ => none }
def FracRingWrongFalsely : Prop := fracRingRow.holds Try.pinned (OpenSpec.ofChange fracRingWrong)

/-- 'corsnedlaw03.FracOrder': WHATEVER THE INPUT: true; the input reads as it did. -/
def fracOrderSpec : ChangeSpec := { name := "fracOrder", fn := fun _ => fun
  | [d1, d2, d3] => { results := [.lit (.bool true)], args := [d1, d2, d3] }
  | _ => none }
def fracOrderRow : OpenClaim := { program := "ytachhphneamfhaa", sum := "7d887392124819b756dec4ba3d76fb1b5c58310b35c2ea0a4bef1aa6466e6ffd", func := "corsned/corsnedlaw03.FracOrder", spec := "fracOrder", inPlace := ["internal/bytealg.IndexByteString", "internal/bytealg.IndexString"], unfollowed := true, recurses := true, named := ["internal/bytealg.MaxLen"], apart := false }
def FracOrderSaid : Prop := fracOrderRow.holds Try.pinned (OpenSpec.ofChange fracOrderSpec)

/-- ITS FALSE NEIGHBOUR: 'it returns false'. Refute it at one input. -/
def fracOrderWrong : ChangeSpec := { name := "fracOrder", fn := fun _ => fun
  | [d1, d2, d3] => { results := [.lit (.bool false)], args := [d1, d2, d3] }
  | _ => none }
def FracOrderWrongFalsely : Prop := fracOrderRow.holds Try.pinned (OpenSpec.ofChange fracOrderWrong)

/-- 'corsnedlaw03.FracFloors': WHATEVER THE INPUT: true; the input reads as it did. -/
def fracFloorsSpec : ChangeSpec := { name := "fracFloors", fn := fun _ => fun
  | [d] => { results := [.lit (.bool true)], args := [d] }
  | _ => none }
def fracFloorsRow : OpenClaim := { program := "ytachhphneamfhaa", sum := "7d887392124819b756dec4ba3d76fb1b5c58310b35c2ea0a4bef1aa6466e6ffd", func := "corsned/corsnedlaw03.FracFloors", spec := "fracFloors", inPlace := ["internal/bytealg.IndexByteString", "internal/bytealg.IndexString"], unfollowed := true, recurses := true, named := ["internal/bytealg.MaxLen"], apart := false }
def FracFloorsSaid : Prop := fracFloorsRow.holds Try.pinned (OpenSpec.ofChange fracFloorsSpec)

/-- ITS FALSE NEIGHBOUR: 'it returns false'. Refute it at one input. -/
def fracFloorsWrong : ChangeSpec := { name := "fracFloors", fn := fun _ => fun
  | [d] => { results := [.lit (.bool false)], args := [d] }
  | _ => none }
def FracFloorsWrongFalsely : Prop := fracFloorsRow.holds Try.pinned (OpenSpec.ofChange fracFloorsWrong)

/-- 'corsnedlaw03.FracPowers': WHATEVER THE INPUT: true; the input reads as it did. -/
def fracPowersSpec : ChangeSpec := { name := "fracPowers", fn := fun _ => fun
  | [d1, d2, d3, d4] => { results := [.lit (.bool true)], args := [d1, d2, d3, d4] }
  | _ => none }
def fracPowersRow : OpenClaim := { program := "ytachhphneamfhaa", sum := "7d887392124819b756dec4ba3d76fb1b5c58310b35c2ea0a4bef1aa6466e6ffd", func := "corsned/corsnedlaw03.FracPowers", spec := "fracPowers", inPlace := ["internal/bytealg.IndexByteString", "internal/bytealg.IndexString"], unfollowed := true, recurses := true, named := ["internal/bytealg.MaxLen"], apart := false }
def FracPowersSaid : Prop := fracPowersRow.holds Try.pinned (OpenSpec.ofChange fracPowersSpec)

/-- ITS FALSE NEIGHBOUR: 'it returns false'. Refute it at one input. -/
def fracPowersWrong : ChangeSpec := { name := "fracPowers", fn := fun _ => fun
  | [d1, d2, d3, d4] => { results := [.lit (.bool false)], args := [d1, d2, d3, d4] }
  | _ => none }
def FracPowersWrongFalsely : Prop := fracPowersRow.holds Try.pinned (OpenSpec.ofChange fracPowersWrong)

/-- 'corsnedlaw03.FracTexts': WHATEVER THE INPUT: true; the input reads as it did. -/
def fracTextsSpec : ChangeSpec := { name := "fracTexts", fn := fun _ => fun
  | [d1, d2] => { results := [.lit (.bool true)], args := [d1, d2] }
  | _ => none }
def fracTextsRow : OpenClaim := { program := "ytachhphneamfhaa", sum := "7d887392124819b756dec4ba3d76fb1b5c58310b35c2ea0a4bef1aa6466e6ffd", func := "corsned/corsnedlaw03.FracTexts", spec := "fracTexts", inPlace := ["internal/bytealg.IndexByteString", "internal/bytealg.IndexString"], unfollowed := true, recurses := true, named := ["internal/bytealg.MaxLen"], apart := false }
def FracTextsSaid : Prop := fracTextsRow.holds Try.pinned (OpenSpec.ofChange fracTextsSpec)

/-- ITS FALSE NEIGHBOUR: 'it returns false'. Refute it at one input. -/
def fracTextsWrong : ChangeSpec := { name := "fracTexts", fn := fun _ => fun
  | [d1, d2] => { results := [.lit (.bool false)], args := [d1, d2] }
  | _ => none }
def FracTextsWrongFalsely : Prop := fracTextsRow.holds Try.pinned (OpenSpec.ofChange fracTextsWrong)

/-- 'corsnedlaw03.FracLow': WHATEVER THE INPUT: true; the input reads as it did. -/
def fracLowSpec : ChangeSpec := { name := "fracLow", fn := fun _ => fun
  | [d1, d2, d3] => { results := [.lit (.bool true)], args := [d1, d2, d3] }
  | _ => none }
def fracLowRow : OpenClaim := { program := "ytachhphneamfhaa", sum := "7d887392124819b756dec4ba3d76fb1b5c58310b35c2ea0a4bef1aa6466e6ffd", func := "corsned/corsnedlaw03.FracLow", spec := "fracLow", inPlace := ["internal/bytealg.IndexByteString", "internal/bytealg.IndexString"], unfollowed := true, recurses := true, named := ["internal/bytealg.MaxLen"], apart := false }
def FracLowSaid : Prop := fracLowRow.holds Try.pinned (OpenSpec.ofChange fracLowSpec)

/-- ITS FALSE NEIGHBOUR: 'it returns false'. Refute it at one input. -/
def fracLowWrong : ChangeSpec := { name := "fracLow", fn := fun _ => fun
  | [d1, d2, d3] => { results := [.lit (.bool false)], args := [d1, d2, d3] }
  | _ => none }
def FracLowWrongFalsely : Prop := fracLowRow.holds Try.pinned (OpenSpec.ofChange fracLowWrong)

/- THE SECOND FORM. 'bulk': how many values and letters a reading holds, each counted each time it is reached (what is shared counts as often as it is met; a slice's spare places count too). A statement '..UptoSaid' is the law's where the arguments, and the package variables that the reading takes, are together of bulk at most 1048576: NARROWER than '..Said'. Prove '..Said' where nothing that the law and all that it calls make is longer than what came in: it says more and counts as full. Else prove '..UptoSaid'. A law counts once. -/
mutual
def uptoBulk {H : Type} : DataW H → Nat
  | .lit (.string bytes) => bytes.length + 1
  | .lit _ => 1
  | .nil => 1
  | .ptr d => uptoBulk d + 1
  | .slice elems spare => uptoBulkAll elems + uptoBulkAll spare + 1
  | .agg parts => uptoBulkAll parts + 1
  | .iface _ d => uptoBulk d + 1
  | .map entries => uptoBulkEntries entries + 1
  | .held _ => 1
def uptoBulkAll {H : Type} : List (DataW H) → Nat
  | [] => 0
  | d :: r => uptoBulk d + uptoBulkAll r
def uptoBulkEntries {H : Type} : List (Lit × DataW H) → Nat
  | [] => 0
  | x :: r => uptoBulkEntry x + uptoBulkEntries r
def uptoBulkEntry {H : Type} : Lit × DataW H → Nat
  | (.string bytes, d) => bytes.length + uptoBulk d + 1
  | (_, d) => uptoBulk d + 1
 end
def uptoSmall : (H : Type) → List (DataW H) → Bool := fun _ ds => decide (uptoBulkAll ds ≤ 1048576)
def OpenSpec.upto (s : _root_.Go.ChangeSpec) : _root_.Go.OpenSpec := { _root_.Go.OpenSpec.ofChange s with cond := some uptoSmall }

/-- 'corsnedlaw03.FracSpells', WHERE WHAT IT READS IS OF BULK AT MOST 1048576: true; the input reads as it did. -/
def fracSpellsUptoRow : OpenClaim := { program := "ytachhphneamfhaa", sum := "7d887392124819b756dec4ba3d76fb1b5c58310b35c2ea0a4bef1aa6466e6ffd", func := "corsned/corsnedlaw03.FracSpells", spec := "fracSpells", inPlace := ["internal/bytealg.IndexByteString", "internal/bytealg.IndexString"], unfollowed := true, recurses := true, named := ["internal/bytealg.MaxLen"], apart := false, narrowed := true }
def FracSpellsUptoSaid : Prop := fracSpellsUptoRow.holds Try.pinned (OpenSpec.upto fracSpellsSpec)

/-- 'corsnedlaw03.FracRing', WHERE WHAT IT READS IS OF BULK AT MOST 1048576: true; the input reads as it did. -/
def fracRingUptoRow : OpenClaim := { program := "ytachhphneamfhaa", sum := "7d887392124819b756dec4ba3d76fb1b5c58310b35c2ea0a4bef1aa6466e6ffd", func := "corsned/corsnedlaw03.FracRing", spec := "fracRing", inPlace := ["internal/bytealg.IndexByteString", "internal/bytealg.IndexString"], unfollowed := true, recurses := true, named := ["internal/bytealg.MaxLen"], apart := false, narrowed := true }
def FracRingUptoSaid : Prop := fracRingUptoRow.holds Try.pinned (OpenSpec.upto fracRingSpec)

/-- 'corsnedlaw03.FracOrder', WHERE WHAT IT READS IS OF BULK AT MOST 1048576: true; the input reads as it did. -/
def fracOrderUptoRow : OpenClaim := { program := "ytachhphneamfhaa", sum := "7d887392124819b756dec4ba3d76fb1b5c58310b35c2ea0a4bef1aa6466e6ffd", func := "corsned/corsnedlaw03.FracOrder", spec := "fracOrder", inPlace := ["internal/bytealg.IndexByteString", "internal/bytealg.IndexString"], unfollowed := true, recurses := true, named := ["internal/bytealg.MaxLen"], apart := false, narrowed := true }
def FracOrderUptoSaid : Prop := fracOrderUptoRow.holds Try.pinned (OpenSpec.upto fracOrderSpec)

/-- 'corsnedlaw03.FracFloors', WHERE WHAT IT READS IS OF BULK AT MOST 1048576: true; the input reads as it did. -/
def fracFloorsUptoRow : OpenClaim := { program := "ytachhphneamfhaa", sum := "7d887392124819b756dec4ba3d76fb1b5c58310b35c2ea0a4bef1aa6466e6ffd", func := "corsned/corsnedlaw03.FracFloors", spec := "fracFloors", inPlace := ["internal/bytealg.IndexByteString", "internal/bytealg.IndexString"], unfollowed := true, recurses := true, named := ["internal/bytealg.MaxLen"], apart := false, narrowed := true }
def FracFloorsUptoSaid : Prop := fracFloorsUptoRow.holds Try.pinned (OpenSpec.upto fracFloorsSpec)

/-- 'corsnedlaw03.FracPowers', WHERE WHAT IT READS IS OF BULK AT MOST 1048576: true; the input reads as it did. -/
def fracPowersUptoRow : OpenClaim := { program := "ytachhphneamfhaa", sum := "7d887392124819b756dec4ba3d76fb1b5c58310b35c2ea0a4bef1aa6466e6ffd", func := "corsned/corsnedlaw03.FracPowers", spec := "fracPowers", inPlace := ["internal/bytealg.IndexByteString", "internal/bytealg.IndexString"], unfollowed := true, recurses := true, named := ["internal/bytealg.MaxLen"], apart := false, narrowed := true }
def FracPowersUptoSaid : Prop := fracPowersUptoRow.holds Try.pinned (OpenSpec.upto fracPowersSpec)

/-- 'corsnedlaw03.FracTexts', WHERE WHAT IT READS IS OF BULK AT MOST 1048576: true; the input reads as it did. -/
def fracTextsUptoRow : OpenClaim := { program := "ytachhphneamfhaa", sum := "7d887392124819b756dec4ba3d76fb1b5c58310b35c2ea0a4bef1aa6466e6ffd", func := "corsned/corsnedlaw03.FracTexts", spec := "fracTexts", inPlace := ["internal/bytealg.IndexByteString", "internal/bytealg.IndexString"], unfollowed := true, recurses := true, named := ["internal/bytealg.MaxLen"], apart := false, narrowed := true }
def FracTextsUptoSaid : Prop := fracTextsUptoRow.holds Try.pinned (OpenSpec.upto fracTextsSpec)

/-- 'corsnedlaw03.FracLow', WHERE WHAT IT READS IS OF BULK AT MOST 1048576: true; the input reads as it did. -/
def fracLowUptoRow : OpenClaim := { program := "ytachhphneamfhaa", sum := "7d887392124819b756dec4ba3d76fb1b5c58310b35c2ea0a4bef1aa6466e6ffd", func := "corsned/corsnedlaw03.FracLow", spec := "fracLow", inPlace := ["internal/bytealg.IndexByteString", "internal/bytealg.IndexString"], unfollowed := true, recurses := true, named := ["internal/bytealg.MaxLen"], apart := false, narrowed := true }
def FracLowUptoSaid : Prop := fracLowUptoRow.holds Try.pinned (OpenSpec.upto fracLowSpec)

end Rows
end Go.Proofs.Ytachhphneamfhaa
