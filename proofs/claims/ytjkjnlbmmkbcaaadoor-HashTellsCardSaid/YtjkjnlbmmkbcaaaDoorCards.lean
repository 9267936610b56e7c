/-
  DERIVED. GIVEN WITH THE SEED: THE CARDS: each row of YtjkjnlbmmkbcaaaDoorRows.lean that lists a variable, with what it lists TIED to the program's text (the seventh form; the later family's looks); each row that meets fmt, with fmt's text TOLD by the authors' own Lean function (tested against real Go, not proved from fmt's source: count such statements apart). THE CARD IS WHAT COUNTS. Prove the row's statement (the work); the ties are given (YtjkjnlbmmkbcaaaDoorTie.lean); close each card by the builder's one call (the guide's Derived/Test/ToyasCard.lean, 'card_holds'). Laid BY PROGRAM, IN A SANDBOX (cutbox-door.mjs). By AI agents, Wed Nov 11 2026. No macro, syntax, notation, axiom, sorry.
-/
import Derived.Test.YtjkjnlbmmkbcaaaDoorRows
import GoSem.ClaimSeven
namespace Go.Proofs.YtjkjnlbmmkbcaaaDoor
namespace Rows

/-- THE TIED CARD OF 'corsnedlaw04.HashTells'. -/
def hashTellsCard : Claim7 := { stood := { row := hashTellsRow, standIns := [], harness := (true, "ae07d06bf4665b94b79c9d2523fd9ee56d4e8d1707629e02f1a464d32df0ca47"), looks := false }, kinds := [], alts := [], laidByText := true, laidKinds := [.data], laidTests := true, laidLooks := .later }
def HashTellsCardSaid : Prop := Claim7.holds Tryd.pinned (.plain (OpenSpec.ofChange hashTellsSpec)) hashTellsCard

/-- THE TIED CARD OF 'corsnedlaw04.HashTags'. -/
def hashTagsCard : Claim7 := { stood := { row := hashTagsRow, standIns := [], harness := (true, "ae07d06bf4665b94b79c9d2523fd9ee56d4e8d1707629e02f1a464d32df0ca47"), looks := false }, kinds := [], alts := [], laidByText := true, laidKinds := [.data], laidTests := true, laidLooks := .later }
def HashTagsCardSaid : Prop := Claim7.holds Tryd.pinned (.plain (OpenSpec.ofChange hashTagsSpec)) hashTagsCard

/-- THE TIED CARD OF 'corsnedlaw04.HashBack'. -/
def hashBackCard : Claim7 := { stood := { row := hashBackRow, standIns := [], harness := (true, "ae07d06bf4665b94b79c9d2523fd9ee56d4e8d1707629e02f1a464d32df0ca47"), looks := false }, kinds := [], alts := [], laidByText := true, laidKinds := [.data], laidTests := true, laidLooks := .later }
def HashBackCardSaid : Prop := Claim7.holds Tryd.pinned (.plain (OpenSpec.ofChange hashBackSpec)) hashBackCard

/-- THE TIED CARD OF 'corsnedlaw04.HashNames'. -/
def hashNamesCard : Claim7 := { stood := { row := hashNamesRow, standIns := [], harness := (true, "ae07d06bf4665b94b79c9d2523fd9ee56d4e8d1707629e02f1a464d32df0ca47"), looks := false }, kinds := [], alts := [], laidByText := true, laidKinds := [.data], laidTests := true, laidLooks := .later }
def HashNamesCardSaid : Prop := Claim7.holds Tryd.pinned (.plain (OpenSpec.ofChange hashNamesSpec)) hashNamesCard

/-- THE SECOND FORM's CARD OF 'corsnedlaw04.HashTells'. -/
def hashTellsUptoCard : Claim7 := { stood := { row := hashTellsUptoRow, standIns := [], harness := (true, "ae07d06bf4665b94b79c9d2523fd9ee56d4e8d1707629e02f1a464d32df0ca47"), looks := false }, kinds := [], alts := [], laidByText := true, laidKinds := [.data], laidTests := true, laidLooks := .later }
def HashTellsUptoCardSaid : Prop := Claim7.holds Tryd.pinned (.plain (OpenSpec.upto hashTellsSpec)) hashTellsUptoCard

/-- THE SECOND FORM's CARD OF 'corsnedlaw04.HashTags'. -/
def hashTagsUptoCard : Claim7 := { stood := { row := hashTagsUptoRow, standIns := [], harness := (true, "ae07d06bf4665b94b79c9d2523fd9ee56d4e8d1707629e02f1a464d32df0ca47"), looks := false }, kinds := [], alts := [], laidByText := true, laidKinds := [.data], laidTests := true, laidLooks := .later }
def HashTagsUptoCardSaid : Prop := Claim7.holds Tryd.pinned (.plain (OpenSpec.upto hashTagsSpec)) hashTagsUptoCard

/-- THE SECOND FORM's CARD OF 'corsnedlaw04.HashBack'. -/
def hashBackUptoCard : Claim7 := { stood := { row := hashBackUptoRow, standIns := [], harness := (true, "ae07d06bf4665b94b79c9d2523fd9ee56d4e8d1707629e02f1a464d32df0ca47"), looks := false }, kinds := [], alts := [], laidByText := true, laidKinds := [.data], laidTests := true, laidLooks := .later }
def HashBackUptoCardSaid : Prop := Claim7.holds Tryd.pinned (.plain (OpenSpec.upto hashBackSpec)) hashBackUptoCard

/-- THE SECOND FORM's CARD OF 'corsnedlaw04.HashNames'. -/
def hashNamesUptoCard : Claim7 := { stood := { row := hashNamesUptoRow, standIns := [], harness := (true, "ae07d06bf4665b94b79c9d2523fd9ee56d4e8d1707629e02f1a464d32df0ca47"), looks := false }, kinds := [], alts := [], laidByText := true, laidKinds := [.data], laidTests := true, laidLooks := .later }
def HashNamesUptoCardSaid : Prop := Claim7.holds Tryd.pinned (.plain (OpenSpec.upto hashNamesSpec)) hashNamesUptoCard
end Rows
end Go.Proofs.YtjkjnlbmmkbcaaaDoor
