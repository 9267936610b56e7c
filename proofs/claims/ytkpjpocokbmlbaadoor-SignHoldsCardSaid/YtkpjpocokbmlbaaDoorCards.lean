/-
  DERIVED. GIVEN WITH THE SEED: THE CARDS: each row of YtkpjpocokbmlbaaDoorRows.lean that lists a variable, with what it lists TIED to the program's text (the seventh form; the later family's looks); each row that meets fmt, with fmt's text TOLD by the authors' own Lean function (tested against real Go, not proved from fmt's source: count such statements apart). THE CARD IS WHAT COUNTS. Prove the row's statement (the work); the ties are given (YtkpjpocokbmlbaaDoorTie.lean); close each card by the builder's one call (the guide's Derived/Test/ToyasCard.lean, 'card_holds'). Laid BY PROGRAM, IN A SANDBOX (cutbox-door.mjs). By AI agents, Wed Nov 11 2026. No macro, syntax, notation, axiom, sorry.
-/
import Derived.Test.YtkpjpocokbmlbaaDoorRows
import GoSem.ClaimSeven
namespace Go.Proofs.YtkpjpocokbmlbaaDoor
namespace Rows

/-- THE TIED CARD OF 'corsnedlaw07.SignTells'. -/
def signTellsCard : Claim7 := { stood := { row := signTellsRow, standIns := [], harness := (true, "d6a244305f9c0f6a45b5964e7dfa2a72380d0d2b1b18890419a42f4a4042f7fa"), looks := false }, kinds := [], alts := [], laidByText := true, laidKinds := [.data], laidTests := true, laidLooks := .later }
def SignTellsCardSaid : Prop := Claim7.holds Tryd.pinned (.plain (OpenSpec.ofChange signTellsSpec)) signTellsCard

/-- THE TIED CARD OF 'corsnedlaw07.SignHolds'. -/
def signHoldsCard : Claim7 := { stood := { row := signHoldsRow, standIns := [], harness := (true, "d6a244305f9c0f6a45b5964e7dfa2a72380d0d2b1b18890419a42f4a4042f7fa"), looks := false }, kinds := [], alts := [], laidByText := true, laidKinds := [.data], laidTests := true, laidLooks := .later }
def SignHoldsCardSaid : Prop := Claim7.holds Tryd.pinned (.plain (OpenSpec.ofChange signHoldsSpec)) signHoldsCard

/-- THE TIED CARD OF 'corsnedlaw07.SignAdapts'. -/
def signAdaptsCard : Claim7 := { stood := { row := signAdaptsRow, standIns := [], harness := (true, "d6a244305f9c0f6a45b5964e7dfa2a72380d0d2b1b18890419a42f4a4042f7fa"), looks := false }, kinds := [], alts := [], laidByText := true, laidKinds := [.data], laidTests := true, laidLooks := .later }
def SignAdaptsCardSaid : Prop := Claim7.holds Tryd.pinned (.plain (OpenSpec.ofChange signAdaptsSpec)) signAdaptsCard

/-- THE TIED CARD OF 'corsnedlaw07.SignOne'. -/
def signOneCard : Claim7 := { stood := { row := signOneRow, standIns := [], harness := (true, "d6a244305f9c0f6a45b5964e7dfa2a72380d0d2b1b18890419a42f4a4042f7fa"), looks := false }, kinds := [], alts := [], laidByText := true, laidKinds := [.data], laidTests := true, laidLooks := .later }
def SignOneCardSaid : Prop := Claim7.holds Tryd.pinned (.plain (OpenSpec.ofChange signOneSpec)) signOneCard

/-- THE TIED CARD OF 'corsnedlaw07.SignSwaps'. -/
def signSwapsCard : Claim7 := { stood := { row := signSwapsRow, standIns := [], harness := (true, "d6a244305f9c0f6a45b5964e7dfa2a72380d0d2b1b18890419a42f4a4042f7fa"), looks := false }, kinds := [], alts := [], laidByText := true, laidKinds := [.data], laidTests := true, laidLooks := .later }
def SignSwapsCardSaid : Prop := Claim7.holds Tryd.pinned (.plain (OpenSpec.ofChange signSwapsSpec)) signSwapsCard

/-- THE SECOND FORM's CARD OF 'corsnedlaw07.SignTells'. -/
def signTellsUptoCard : Claim7 := { stood := { row := signTellsUptoRow, standIns := [], harness := (true, "d6a244305f9c0f6a45b5964e7dfa2a72380d0d2b1b18890419a42f4a4042f7fa"), looks := false }, kinds := [], alts := [], laidByText := true, laidKinds := [.data], laidTests := true, laidLooks := .later }
def SignTellsUptoCardSaid : Prop := Claim7.holds Tryd.pinned (.plain (OpenSpec.upto signTellsSpec)) signTellsUptoCard

/-- THE SECOND FORM's CARD OF 'corsnedlaw07.SignHolds'. -/
def signHoldsUptoCard : Claim7 := { stood := { row := signHoldsUptoRow, standIns := [], harness := (true, "d6a244305f9c0f6a45b5964e7dfa2a72380d0d2b1b18890419a42f4a4042f7fa"), looks := false }, kinds := [], alts := [], laidByText := true, laidKinds := [.data], laidTests := true, laidLooks := .later }
def SignHoldsUptoCardSaid : Prop := Claim7.holds Tryd.pinned (.plain (OpenSpec.upto signHoldsSpec)) signHoldsUptoCard

/-- THE SECOND FORM's CARD OF 'corsnedlaw07.SignAdapts'. -/
def signAdaptsUptoCard : Claim7 := { stood := { row := signAdaptsUptoRow, standIns := [], harness := (true, "d6a244305f9c0f6a45b5964e7dfa2a72380d0d2b1b18890419a42f4a4042f7fa"), looks := false }, kinds := [], alts := [], laidByText := true, laidKinds := [.data], laidTests := true, laidLooks := .later }
def SignAdaptsUptoCardSaid : Prop := Claim7.holds Tryd.pinned (.plain (OpenSpec.upto signAdaptsSpec)) signAdaptsUptoCard

/-- THE SECOND FORM's CARD OF 'corsnedlaw07.SignOne'. -/
def signOneUptoCard : Claim7 := { stood := { row := signOneUptoRow, standIns := [], harness := (true, "d6a244305f9c0f6a45b5964e7dfa2a72380d0d2b1b18890419a42f4a4042f7fa"), looks := false }, kinds := [], alts := [], laidByText := true, laidKinds := [.data], laidTests := true, laidLooks := .later }
def SignOneUptoCardSaid : Prop := Claim7.holds Tryd.pinned (.plain (OpenSpec.upto signOneSpec)) signOneUptoCard

/-- THE SECOND FORM's CARD OF 'corsnedlaw07.SignSwaps'. -/
def signSwapsUptoCard : Claim7 := { stood := { row := signSwapsUptoRow, standIns := [], harness := (true, "d6a244305f9c0f6a45b5964e7dfa2a72380d0d2b1b18890419a42f4a4042f7fa"), looks := false }, kinds := [], alts := [], laidByText := true, laidKinds := [.data], laidTests := true, laidLooks := .later }
def SignSwapsUptoCardSaid : Prop := Claim7.holds Tryd.pinned (.plain (OpenSpec.upto signSwapsSpec)) signSwapsUptoCard
end Rows
end Go.Proofs.YtkpjpocokbmlbaaDoor
