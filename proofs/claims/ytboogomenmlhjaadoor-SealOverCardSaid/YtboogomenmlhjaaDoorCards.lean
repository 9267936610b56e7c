/-
  DERIVED. GIVEN WITH THE SEED: THE CARDS: each row of YtboogomenmlhjaaDoorRows.lean that lists a variable, with what it lists TIED to the program's text (the seventh form; the later family's looks); each row that meets fmt, with fmt's text TOLD by the authors' own Lean function (tested against real Go, not proved from fmt's source: count such statements apart). THE CARD IS WHAT COUNTS. Prove the row's statement (the work); the ties are given (YtboogomenmlhjaaDoorTie.lean); close each card by the builder's one call (the guide's Derived/Test/ToyasCard.lean, 'card_holds'). Laid BY PROGRAM, IN A SANDBOX (cutbox-door.mjs). By AI agents, Wed Nov 11 2026. No macro, syntax, notation, axiom, sorry.
-/
import Derived.Test.YtboogomenmlhjaaDoorRows
import GoSem.ClaimSeven
namespace Go.Proofs.YtboogomenmlhjaaDoor
namespace Rows

/-- THE TIED CARD OF 'corsnedlaw09.SealTells'. -/
def sealTellsCard : Claim7 := { stood := { row := sealTellsRow, standIns := [], harness := (true, "b0209d0c8d1dfd776ecb2e6df2fe8e8d60bf95bc6e5acc3eb776fd50d733d8b7"), looks := false }, kinds := [], alts := [], laidByText := true, laidKinds := [.data], laidTests := true, laidLooks := .later }
def SealTellsCardSaid : Prop := Claim7.holds Tryd.pinned (.plain (OpenSpec.ofChange sealTellsSpec)) sealTellsCard

/-- THE TIED CARD OF 'corsnedlaw09.SealBack'. -/
def sealBackCard : Claim7 := { stood := { row := sealBackRow, standIns := [], harness := (true, "b0209d0c8d1dfd776ecb2e6df2fe8e8d60bf95bc6e5acc3eb776fd50d733d8b7"), looks := false }, kinds := [], alts := [], laidByText := true, laidKinds := [.data], laidTests := true, laidLooks := .later }
def SealBackCardSaid : Prop := Claim7.holds Tryd.pinned (.plain (OpenSpec.ofChange sealBackSpec)) sealBackCard

/-- THE TIED CARD OF 'corsnedlaw09.SealStreams'. -/
def sealStreamsCard : Claim7 := { stood := { row := sealStreamsRow, standIns := [], harness := (true, "b0209d0c8d1dfd776ecb2e6df2fe8e8d60bf95bc6e5acc3eb776fd50d733d8b7"), looks := false }, kinds := [], alts := [], laidByText := true, laidKinds := [.data], laidTests := true, laidLooks := .later }
def SealStreamsCardSaid : Prop := Claim7.holds Tryd.pinned (.plain (OpenSpec.ofChange sealStreamsSpec)) sealStreamsCard

/-- THE TIED CARD OF 'corsnedlaw09.SealOver'. -/
def sealOverCard : Claim7 := { stood := { row := sealOverRow, standIns := [], harness := (true, "b0209d0c8d1dfd776ecb2e6df2fe8e8d60bf95bc6e5acc3eb776fd50d733d8b7"), looks := false }, kinds := [], alts := [], laidByText := true, laidKinds := [.data], laidTests := true, laidLooks := .later }
def SealOverCardSaid : Prop := Claim7.holds Tryd.pinned (.plain (OpenSpec.ofChange sealOverSpec)) sealOverCard

/-- THE TIED CARD OF 'corsnedlaw09.SealTagged'. -/
def sealTaggedCard : Claim7 := { stood := { row := sealTaggedRow, standIns := [], harness := (true, "b0209d0c8d1dfd776ecb2e6df2fe8e8d60bf95bc6e5acc3eb776fd50d733d8b7"), looks := false }, kinds := [], alts := [], laidByText := true, laidKinds := [.data], laidTests := true, laidLooks := .later }
def SealTaggedCardSaid : Prop := Claim7.holds Tryd.pinned (.plain (OpenSpec.ofChange sealTaggedSpec)) sealTaggedCard

/-- THE TIED CARD OF 'corsnedlaw09.SealNew'. -/
def sealNewCard : Claim7 := { stood := { row := sealNewRow, standIns := [], harness := (true, "b0209d0c8d1dfd776ecb2e6df2fe8e8d60bf95bc6e5acc3eb776fd50d733d8b7"), looks := false }, kinds := [], alts := [], laidByText := true, laidKinds := [.data], laidTests := true, laidLooks := .later }
def SealNewCardSaid : Prop := Claim7.holds Tryd.pinned (.plain (OpenSpec.ofChange sealNewSpec)) sealNewCard

/-- THE SECOND FORM's CARD OF 'corsnedlaw09.SealTells'. -/
def sealTellsUptoCard : Claim7 := { stood := { row := sealTellsUptoRow, standIns := [], harness := (true, "b0209d0c8d1dfd776ecb2e6df2fe8e8d60bf95bc6e5acc3eb776fd50d733d8b7"), looks := false }, kinds := [], alts := [], laidByText := true, laidKinds := [.data], laidTests := true, laidLooks := .later }
def SealTellsUptoCardSaid : Prop := Claim7.holds Tryd.pinned (.plain (OpenSpec.upto sealTellsSpec)) sealTellsUptoCard

/-- THE SECOND FORM's CARD OF 'corsnedlaw09.SealBack'. -/
def sealBackUptoCard : Claim7 := { stood := { row := sealBackUptoRow, standIns := [], harness := (true, "b0209d0c8d1dfd776ecb2e6df2fe8e8d60bf95bc6e5acc3eb776fd50d733d8b7"), looks := false }, kinds := [], alts := [], laidByText := true, laidKinds := [.data], laidTests := true, laidLooks := .later }
def SealBackUptoCardSaid : Prop := Claim7.holds Tryd.pinned (.plain (OpenSpec.upto sealBackSpec)) sealBackUptoCard

/-- THE SECOND FORM's CARD OF 'corsnedlaw09.SealStreams'. -/
def sealStreamsUptoCard : Claim7 := { stood := { row := sealStreamsUptoRow, standIns := [], harness := (true, "b0209d0c8d1dfd776ecb2e6df2fe8e8d60bf95bc6e5acc3eb776fd50d733d8b7"), looks := false }, kinds := [], alts := [], laidByText := true, laidKinds := [.data], laidTests := true, laidLooks := .later }
def SealStreamsUptoCardSaid : Prop := Claim7.holds Tryd.pinned (.plain (OpenSpec.upto sealStreamsSpec)) sealStreamsUptoCard

/-- THE SECOND FORM's CARD OF 'corsnedlaw09.SealOver'. -/
def sealOverUptoCard : Claim7 := { stood := { row := sealOverUptoRow, standIns := [], harness := (true, "b0209d0c8d1dfd776ecb2e6df2fe8e8d60bf95bc6e5acc3eb776fd50d733d8b7"), looks := false }, kinds := [], alts := [], laidByText := true, laidKinds := [.data], laidTests := true, laidLooks := .later }
def SealOverUptoCardSaid : Prop := Claim7.holds Tryd.pinned (.plain (OpenSpec.upto sealOverSpec)) sealOverUptoCard

/-- THE SECOND FORM's CARD OF 'corsnedlaw09.SealTagged'. -/
def sealTaggedUptoCard : Claim7 := { stood := { row := sealTaggedUptoRow, standIns := [], harness := (true, "b0209d0c8d1dfd776ecb2e6df2fe8e8d60bf95bc6e5acc3eb776fd50d733d8b7"), looks := false }, kinds := [], alts := [], laidByText := true, laidKinds := [.data], laidTests := true, laidLooks := .later }
def SealTaggedUptoCardSaid : Prop := Claim7.holds Tryd.pinned (.plain (OpenSpec.upto sealTaggedSpec)) sealTaggedUptoCard

/-- THE SECOND FORM's CARD OF 'corsnedlaw09.SealNew'. -/
def sealNewUptoCard : Claim7 := { stood := { row := sealNewUptoRow, standIns := [], harness := (true, "b0209d0c8d1dfd776ecb2e6df2fe8e8d60bf95bc6e5acc3eb776fd50d733d8b7"), looks := false }, kinds := [], alts := [], laidByText := true, laidKinds := [.data], laidTests := true, laidLooks := .later }
def SealNewUptoCardSaid : Prop := Claim7.holds Tryd.pinned (.plain (OpenSpec.upto sealNewSpec)) sealNewUptoCard
end Rows
end Go.Proofs.YtboogomenmlhjaaDoor
