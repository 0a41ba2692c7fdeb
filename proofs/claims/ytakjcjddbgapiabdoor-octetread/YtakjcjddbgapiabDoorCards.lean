/-
  DERIVED. GIVEN WITH THE SEED: THE CARDS: each row of YtakjcjddbgapiabDoorRows.lean that lists a variable, with what it lists TIED to the program's text (the seventh form; the later family's looks); each row that meets fmt, with fmt's text TOLD by the authors' own Lean function (tested against real Go, not proved from fmt's source: count such statements apart). THE CARD IS WHAT COUNTS. Prove the row's statement (the work); the ties are given (YtakjcjddbgapiabDoorTie.lean); close each card by the builder's one call (the guide's Derived/Test/ToyasCard.lean, 'card_holds'). Laid BY PROGRAM, IN A SANDBOX (cutbox-door.mjs). By AI agents, Wed Nov 11 2026. No macro, syntax, notation, axiom, sorry.
-/
import Derived.Test.YtakjcjddbgapiabDoorRows
import GoSem.ClaimSeven
namespace Go.Proofs.YtakjcjddbgapiabDoor
namespace Rows

/-- THE TIED CARD OF 'slipwaylaw01.OctetTurns'. -/
def octetTurnsCard : Claim7 := { stood := { row := octetTurnsRow, standIns := [], harness := (true, "46225992e812b80f8a4d1a540277922433f4b300f7088ec66f9f0de680151a9b"), looks := false }, kinds := [], alts := [], laidByText := true, laidKinds := [.data, .data, .data], laidTests := true, laidLooks := .later }
def OctetTurnsCardSaid : Prop := Claim7.holds Tryd.pinned (.plain (OpenSpec.ofChange octetTurnsSpec)) octetTurnsCard

/-- THE TIED CARD OF 'slipwaylaw01.OctetTurned'. -/
def octetTurnedCard : Claim7 := { stood := { row := octetTurnedRow, standIns := [], harness := (true, "46225992e812b80f8a4d1a540277922433f4b300f7088ec66f9f0de680151a9b"), looks := false }, kinds := [], alts := [], laidByText := true, laidKinds := [.data, .data, .data], laidTests := true, laidLooks := .later }
def OctetTurnedCardSaid : Prop := Claim7.holds Tryd.pinned (.plain (OpenSpec.ofChange octetTurnedSpec)) octetTurnedCard

/-- THE TIED CARD OF 'slipwaylaw01.OctetLaid'. -/
def octetLaidCard : Claim7 := { stood := { row := octetLaidRow, standIns := [], harness := (true, "46225992e812b80f8a4d1a540277922433f4b300f7088ec66f9f0de680151a9b"), looks := false }, kinds := [], alts := [], laidByText := true, laidKinds := [.data, .data, .data], laidTests := true, laidLooks := .later }
def OctetLaidCardSaid : Prop := Claim7.holds Tryd.pinned (.plain (OpenSpec.ofChange octetLaidSpec)) octetLaidCard

/-- THE TIED CARD OF 'slipwaylaw01.OctetTexts'. -/
def octetTextsCard : Claim7 := { stood := { row := octetTextsRow, standIns := [], harness := (true, "46225992e812b80f8a4d1a540277922433f4b300f7088ec66f9f0de680151a9b"), looks := false }, kinds := [], alts := [], laidByText := true, laidKinds := [.data, .data, .data], laidTests := true, laidLooks := .later }
def OctetTextsCardSaid : Prop := Claim7.holds Tryd.pinned (.plain (OpenSpec.ofChange octetTextsSpec)) octetTextsCard

/-- THE TIED CARD OF 'slipwaylaw01.OctetRead'. -/
def octetReadCard : Claim7 := { stood := { row := octetReadRow, standIns := [], harness := (true, "46225992e812b80f8a4d1a540277922433f4b300f7088ec66f9f0de680151a9b"), looks := false }, kinds := [], alts := [], laidByText := true, laidKinds := [.data, .data, .data], laidTests := true, laidLooks := .later }
def OctetReadCardSaid : Prop := Claim7.holds Tryd.pinned (.plain (OpenSpec.ofChange octetReadSpec)) octetReadCard

/-- THE TIED CARD OF 'slipwaylaw01.OctetMasks'. -/
def octetMasksCard : Claim7 := { stood := { row := octetMasksRow, standIns := [], harness := (true, "46225992e812b80f8a4d1a540277922433f4b300f7088ec66f9f0de680151a9b"), looks := false }, kinds := [], alts := [], laidByText := true, laidKinds := [.data, .data, .data], laidTests := true, laidLooks := .later }
def OctetMasksCardSaid : Prop := Claim7.holds Tryd.pinned (.plain (OpenSpec.ofChange octetMasksSpec)) octetMasksCard

/-- THE SECOND FORM's CARD OF 'slipwaylaw01.OctetTurns'. -/
def octetTurnsUptoCard : Claim7 := { stood := { row := octetTurnsUptoRow, standIns := [], harness := (true, "46225992e812b80f8a4d1a540277922433f4b300f7088ec66f9f0de680151a9b"), looks := false }, kinds := [], alts := [], laidByText := true, laidKinds := [.data, .data, .data], laidTests := true, laidLooks := .later }
def OctetTurnsUptoCardSaid : Prop := Claim7.holds Tryd.pinned (.plain (OpenSpec.upto octetTurnsSpec)) octetTurnsUptoCard

/-- THE SECOND FORM's CARD OF 'slipwaylaw01.OctetTurned'. -/
def octetTurnedUptoCard : Claim7 := { stood := { row := octetTurnedUptoRow, standIns := [], harness := (true, "46225992e812b80f8a4d1a540277922433f4b300f7088ec66f9f0de680151a9b"), looks := false }, kinds := [], alts := [], laidByText := true, laidKinds := [.data, .data, .data], laidTests := true, laidLooks := .later }
def OctetTurnedUptoCardSaid : Prop := Claim7.holds Tryd.pinned (.plain (OpenSpec.upto octetTurnedSpec)) octetTurnedUptoCard

/-- THE SECOND FORM's CARD OF 'slipwaylaw01.OctetLaid'. -/
def octetLaidUptoCard : Claim7 := { stood := { row := octetLaidUptoRow, standIns := [], harness := (true, "46225992e812b80f8a4d1a540277922433f4b300f7088ec66f9f0de680151a9b"), looks := false }, kinds := [], alts := [], laidByText := true, laidKinds := [.data, .data, .data], laidTests := true, laidLooks := .later }
def OctetLaidUptoCardSaid : Prop := Claim7.holds Tryd.pinned (.plain (OpenSpec.upto octetLaidSpec)) octetLaidUptoCard

/-- THE SECOND FORM's CARD OF 'slipwaylaw01.OctetTexts'. -/
def octetTextsUptoCard : Claim7 := { stood := { row := octetTextsUptoRow, standIns := [], harness := (true, "46225992e812b80f8a4d1a540277922433f4b300f7088ec66f9f0de680151a9b"), looks := false }, kinds := [], alts := [], laidByText := true, laidKinds := [.data, .data, .data], laidTests := true, laidLooks := .later }
def OctetTextsUptoCardSaid : Prop := Claim7.holds Tryd.pinned (.plain (OpenSpec.upto octetTextsSpec)) octetTextsUptoCard

/-- THE SECOND FORM's CARD OF 'slipwaylaw01.OctetRead'. -/
def octetReadUptoCard : Claim7 := { stood := { row := octetReadUptoRow, standIns := [], harness := (true, "46225992e812b80f8a4d1a540277922433f4b300f7088ec66f9f0de680151a9b"), looks := false }, kinds := [], alts := [], laidByText := true, laidKinds := [.data, .data, .data], laidTests := true, laidLooks := .later }
def OctetReadUptoCardSaid : Prop := Claim7.holds Tryd.pinned (.plain (OpenSpec.upto octetReadSpec)) octetReadUptoCard

/-- THE SECOND FORM's CARD OF 'slipwaylaw01.OctetMasks'. -/
def octetMasksUptoCard : Claim7 := { stood := { row := octetMasksUptoRow, standIns := [], harness := (true, "46225992e812b80f8a4d1a540277922433f4b300f7088ec66f9f0de680151a9b"), looks := false }, kinds := [], alts := [], laidByText := true, laidKinds := [.data, .data, .data], laidTests := true, laidLooks := .later }
def OctetMasksUptoCardSaid : Prop := Claim7.holds Tryd.pinned (.plain (OpenSpec.upto octetMasksSpec)) octetMasksUptoCard
end Rows
end Go.Proofs.YtakjcjddbgapiabDoor
