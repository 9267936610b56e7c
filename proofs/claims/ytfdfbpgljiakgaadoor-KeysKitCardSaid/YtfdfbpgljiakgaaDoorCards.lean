/-
  DERIVED. GIVEN WITH THE SEED: THE CARDS: each row of YtfdfbpgljiakgaaDoorRows.lean that lists a variable, with what it lists TIED to the program's text (the seventh form; the later family's looks); each row that meets fmt, with fmt's text TOLD by the authors' own Lean function (tested against real Go, not proved from fmt's source: count such statements apart). THE CARD IS WHAT COUNTS. Prove the row's statement (the work); the ties are given (YtfdfbpgljiakgaaDoorTie.lean); close each card by the builder's one call (the guide's Derived/Test/ToyasCard.lean, 'card_holds'). Laid BY PROGRAM, IN A SANDBOX (cutbox-door.mjs). By AI agents, Wed Nov 11 2026. No macro, syntax, notation, axiom, sorry.
-/
import Derived.Test.YtfdfbpgljiakgaaDoorRows
import GoSem.ClaimSeven
namespace Go.Proofs.YtfdfbpgljiakgaaDoor
namespace Rows

/-- THE TIED CARD OF 'corsnedlaw11.KeysTells'. -/
def keysTellsCard : Claim7 := { stood := { row := keysTellsRow, standIns := [], harness := (true, "ffefa86b628b7a4ce59a440e68592f3dca5a90bacc6c68edc8d1b7d92a691c42"), looks := false }, kinds := [], alts := [], laidByText := true, laidKinds := [.data, .data, .data], laidTests := true, laidLooks := .later }
def KeysTellsCardSaid : Prop := Claim7.holds Tryd.pinned (.plain (OpenSpec.ofChange keysTellsSpec)) keysTellsCard

/-- THE TIED CARD OF 'corsnedlaw11.KeysMeet'. -/
def keysMeetCard : Claim7 := { stood := { row := keysMeetRow, standIns := [], harness := (true, "ffefa86b628b7a4ce59a440e68592f3dca5a90bacc6c68edc8d1b7d92a691c42"), looks := false }, kinds := [], alts := [], laidByText := true, laidKinds := [.data, .data, .data], laidTests := true, laidLooks := .later }
def KeysMeetCardSaid : Prop := Claim7.holds Tryd.pinned (.plain (OpenSpec.ofChange keysMeetSpec)) keysMeetCard

/-- THE TIED CARD OF 'corsnedlaw11.KeysStored'. -/
def keysStoredCard : Claim7 := { stood := { row := keysStoredRow, standIns := [], harness := (true, "ffefa86b628b7a4ce59a440e68592f3dca5a90bacc6c68edc8d1b7d92a691c42"), looks := false }, kinds := [], alts := [], laidByText := true, laidKinds := [.data, .data, .data], laidTests := true, laidLooks := .later }
def KeysStoredCardSaid : Prop := Claim7.holds Tryd.pinned (.plain (OpenSpec.ofChange keysStoredSpec)) keysStoredCard

/-- THE TIED CARD OF 'corsnedlaw11.KeysSign'. -/
def keysSignCard : Claim7 := { stood := { row := keysSignRow, standIns := [], harness := (true, "ffefa86b628b7a4ce59a440e68592f3dca5a90bacc6c68edc8d1b7d92a691c42"), looks := false }, kinds := [], alts := [], laidByText := true, laidKinds := [.data, .data, .data], laidTests := true, laidLooks := .later }
def KeysSignCardSaid : Prop := Claim7.holds Tryd.pinned (.plain (OpenSpec.ofChange keysSignSpec)) keysSignCard

/-- THE TIED CARD OF 'corsnedlaw11.KeysKit'. -/
def keysKitCard : Claim7 := { stood := { row := keysKitRow, standIns := [], harness := (true, "ffefa86b628b7a4ce59a440e68592f3dca5a90bacc6c68edc8d1b7d92a691c42"), looks := false }, kinds := [], alts := [], laidByText := true, laidKinds := [.data, .data, .data], laidTests := true, laidLooks := .later }
def KeysKitCardSaid : Prop := Claim7.holds Tryd.pinned (.plain (OpenSpec.ofChange keysKitSpec)) keysKitCard

/-- THE SECOND FORM's CARD OF 'corsnedlaw11.KeysTells'. -/
def keysTellsUptoCard : Claim7 := { stood := { row := keysTellsUptoRow, standIns := [], harness := (true, "ffefa86b628b7a4ce59a440e68592f3dca5a90bacc6c68edc8d1b7d92a691c42"), looks := false }, kinds := [], alts := [], laidByText := true, laidKinds := [.data, .data, .data], laidTests := true, laidLooks := .later }
def KeysTellsUptoCardSaid : Prop := Claim7.holds Tryd.pinned (.plain (OpenSpec.upto keysTellsSpec)) keysTellsUptoCard

/-- THE SECOND FORM's CARD OF 'corsnedlaw11.KeysMeet'. -/
def keysMeetUptoCard : Claim7 := { stood := { row := keysMeetUptoRow, standIns := [], harness := (true, "ffefa86b628b7a4ce59a440e68592f3dca5a90bacc6c68edc8d1b7d92a691c42"), looks := false }, kinds := [], alts := [], laidByText := true, laidKinds := [.data, .data, .data], laidTests := true, laidLooks := .later }
def KeysMeetUptoCardSaid : Prop := Claim7.holds Tryd.pinned (.plain (OpenSpec.upto keysMeetSpec)) keysMeetUptoCard

/-- THE SECOND FORM's CARD OF 'corsnedlaw11.KeysStored'. -/
def keysStoredUptoCard : Claim7 := { stood := { row := keysStoredUptoRow, standIns := [], harness := (true, "ffefa86b628b7a4ce59a440e68592f3dca5a90bacc6c68edc8d1b7d92a691c42"), looks := false }, kinds := [], alts := [], laidByText := true, laidKinds := [.data, .data, .data], laidTests := true, laidLooks := .later }
def KeysStoredUptoCardSaid : Prop := Claim7.holds Tryd.pinned (.plain (OpenSpec.upto keysStoredSpec)) keysStoredUptoCard

/-- THE SECOND FORM's CARD OF 'corsnedlaw11.KeysSign'. -/
def keysSignUptoCard : Claim7 := { stood := { row := keysSignUptoRow, standIns := [], harness := (true, "ffefa86b628b7a4ce59a440e68592f3dca5a90bacc6c68edc8d1b7d92a691c42"), looks := false }, kinds := [], alts := [], laidByText := true, laidKinds := [.data, .data, .data], laidTests := true, laidLooks := .later }
def KeysSignUptoCardSaid : Prop := Claim7.holds Tryd.pinned (.plain (OpenSpec.upto keysSignSpec)) keysSignUptoCard

/-- THE SECOND FORM's CARD OF 'corsnedlaw11.KeysKit'. -/
def keysKitUptoCard : Claim7 := { stood := { row := keysKitUptoRow, standIns := [], harness := (true, "ffefa86b628b7a4ce59a440e68592f3dca5a90bacc6c68edc8d1b7d92a691c42"), looks := false }, kinds := [], alts := [], laidByText := true, laidKinds := [.data, .data, .data], laidTests := true, laidLooks := .later }
def KeysKitUptoCardSaid : Prop := Claim7.holds Tryd.pinned (.plain (OpenSpec.upto keysKitSpec)) keysKitUptoCard
end Rows
end Go.Proofs.YtfdfbpgljiakgaaDoor
