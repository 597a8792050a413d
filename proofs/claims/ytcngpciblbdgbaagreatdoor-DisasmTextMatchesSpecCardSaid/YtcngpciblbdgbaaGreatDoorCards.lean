/-
  DERIVED. GIVEN WITH THE SEED: THE CARDS: each row of YtcngpciblbdgbaaGreatDoorRows.lean that lists a variable, with what it lists TIED to the program's text (the seventh form; the later family's looks); each row that meets fmt, with fmt's text TOLD by the authors' own Lean function (tested against real Go, not proved from fmt's source: count such statements apart). THE CARD IS WHAT COUNTS. Prove the row's statement (the work); the ties are given (YtcngpciblbdgbaaGreatDoorTie.lean); close each card by the builder's one call (the guide's Derived/Test/ToyasCard.lean, 'card_holds'). Laid BY PROGRAM, IN A SANDBOX (cutbox-door.mjs). By AI agents, Wed Nov 11 2026. No macro, syntax, notation, axiom, sorry.
-/
import Derived.Test.YtcngpciblbdgbaaGreatDoorRows
import GoSem.ClaimSeven
namespace Go.Proofs.YtcngpciblbdgbaaGreatDoor
namespace Rows

/-- THE TIED CARD OF 'linkhouselaw1.DisasmAllMatchesSpec'. -/
def disasmAllMatchesSpecCard : Claim7 := { stood := { row := disasmAllMatchesSpecRow, standIns := [], harness := (true, "d80c784acab456705d6b1eaa2e8505d0de0b49f5cefa445fc4be3de32e7efd9b"), looks := true }, kinds := [], alts := [], laidByText := true, laidKinds := [.data, .data, .data, .data, .sentinel, .sentinel, .pinned], laidTests := true, laidLooks := .later }
def DisasmAllMatchesSpecCardSaid : Prop := Claim7.holds Tryz.pinned (.plain (OpenSpec.ofChange disasmAllMatchesSpecSpec)) disasmAllMatchesSpecCard

/-- THE TIED CARD OF 'linkhouselaw1.DisasmTextMatchesSpec'. -/
def disasmTextMatchesSpecCard : Claim7 := { stood := { row := disasmTextMatchesSpecRow, standIns := [], harness := (true, "d80c784acab456705d6b1eaa2e8505d0de0b49f5cefa445fc4be3de32e7efd9b"), looks := true }, kinds := [], alts := [], laidByText := true, laidKinds := [.data, .data, .data, .data, .sentinel, .sentinel, .pinned], laidTests := true, laidLooks := .later }
def DisasmTextMatchesSpecCardSaid : Prop := Claim7.holds Tryz.pinned (.plain (OpenSpec.ofChange disasmTextMatchesSpecSpec)) disasmTextMatchesSpecCard

/-- THE TIED CARD OF 'linkhouselaw1.DisasmReadsTextsOnly'. -/
def disasmReadsTextsOnlyCard : Claim7 := { stood := { row := disasmReadsTextsOnlyRow, standIns := [], harness := (true, "d80c784acab456705d6b1eaa2e8505d0de0b49f5cefa445fc4be3de32e7efd9b"), looks := true }, kinds := [], alts := [], laidByText := true, laidKinds := [.data, .data, .data, .data, .sentinel, .sentinel, .pinned], laidTests := true, laidLooks := .later }
def DisasmReadsTextsOnlyCardSaid : Prop := Claim7.holds Tryz.pinned (.plain (OpenSpec.ofChange disasmReadsTextsOnlySpec)) disasmReadsTextsOnlyCard

/-- THE TIED CARD OF 'linkhouselaw1.DisasmListsEncoded'. -/
def disasmListsEncodedCard : Claim7 := { stood := { row := disasmListsEncodedRow, standIns := [], harness := (true, "d80c784acab456705d6b1eaa2e8505d0de0b49f5cefa445fc4be3de32e7efd9b"), looks := true }, kinds := [], alts := [], laidByText := true, laidKinds := [.data, .data, .data, .data, .sentinel, .sentinel, .pinned], laidTests := true, laidLooks := .later }
def DisasmListsEncodedCardSaid : Prop := Claim7.holds Tryz.pinned (.plain (OpenSpec.ofChange disasmListsEncodedSpec)) disasmListsEncodedCard

/-- THE TIED CARD OF 'linkhouselaw1.DisasmParts'. -/
def disasmPartsCard : Claim7 := { stood := { row := disasmPartsRow, standIns := [], harness := (true, "d80c784acab456705d6b1eaa2e8505d0de0b49f5cefa445fc4be3de32e7efd9b"), looks := true }, kinds := [], alts := [], laidByText := true, laidKinds := [.data, .data, .data, .data, .sentinel, .sentinel, .pinned], laidTests := true, laidLooks := .later }
def DisasmPartsCardSaid : Prop := Claim7.holds Tryz.pinned (.plain (OpenSpec.ofChange disasmPartsSpec)) disasmPartsCard

/-- THE SECOND FORM's CARD OF 'linkhouselaw1.DisasmAllMatchesSpec'. -/
def disasmAllMatchesSpecUptoCard : Claim7 := { stood := { row := disasmAllMatchesSpecUptoRow, standIns := [], harness := (true, "d80c784acab456705d6b1eaa2e8505d0de0b49f5cefa445fc4be3de32e7efd9b"), looks := true }, kinds := [], alts := [], laidByText := true, laidKinds := [.data, .data, .data, .data, .sentinel, .sentinel, .pinned], laidTests := true, laidLooks := .later }
def DisasmAllMatchesSpecUptoCardSaid : Prop := Claim7.holds Tryz.pinned (.plain (OpenSpec.upto disasmAllMatchesSpecSpec)) disasmAllMatchesSpecUptoCard

/-- THE SECOND FORM's CARD OF 'linkhouselaw1.DisasmTextMatchesSpec'. -/
def disasmTextMatchesSpecUptoCard : Claim7 := { stood := { row := disasmTextMatchesSpecUptoRow, standIns := [], harness := (true, "d80c784acab456705d6b1eaa2e8505d0de0b49f5cefa445fc4be3de32e7efd9b"), looks := true }, kinds := [], alts := [], laidByText := true, laidKinds := [.data, .data, .data, .data, .sentinel, .sentinel, .pinned], laidTests := true, laidLooks := .later }
def DisasmTextMatchesSpecUptoCardSaid : Prop := Claim7.holds Tryz.pinned (.plain (OpenSpec.upto disasmTextMatchesSpecSpec)) disasmTextMatchesSpecUptoCard

/-- THE SECOND FORM's CARD OF 'linkhouselaw1.DisasmReadsTextsOnly'. -/
def disasmReadsTextsOnlyUptoCard : Claim7 := { stood := { row := disasmReadsTextsOnlyUptoRow, standIns := [], harness := (true, "d80c784acab456705d6b1eaa2e8505d0de0b49f5cefa445fc4be3de32e7efd9b"), looks := true }, kinds := [], alts := [], laidByText := true, laidKinds := [.data, .data, .data, .data, .sentinel, .sentinel, .pinned], laidTests := true, laidLooks := .later }
def DisasmReadsTextsOnlyUptoCardSaid : Prop := Claim7.holds Tryz.pinned (.plain (OpenSpec.upto disasmReadsTextsOnlySpec)) disasmReadsTextsOnlyUptoCard

/-- THE SECOND FORM's CARD OF 'linkhouselaw1.DisasmListsEncoded'. -/
def disasmListsEncodedUptoCard : Claim7 := { stood := { row := disasmListsEncodedUptoRow, standIns := [], harness := (true, "d80c784acab456705d6b1eaa2e8505d0de0b49f5cefa445fc4be3de32e7efd9b"), looks := true }, kinds := [], alts := [], laidByText := true, laidKinds := [.data, .data, .data, .data, .sentinel, .sentinel, .pinned], laidTests := true, laidLooks := .later }
def DisasmListsEncodedUptoCardSaid : Prop := Claim7.holds Tryz.pinned (.plain (OpenSpec.upto disasmListsEncodedSpec)) disasmListsEncodedUptoCard

/-- THE SECOND FORM's CARD OF 'linkhouselaw1.DisasmParts'. -/
def disasmPartsUptoCard : Claim7 := { stood := { row := disasmPartsUptoRow, standIns := [], harness := (true, "d80c784acab456705d6b1eaa2e8505d0de0b49f5cefa445fc4be3de32e7efd9b"), looks := true }, kinds := [], alts := [], laidByText := true, laidKinds := [.data, .data, .data, .data, .sentinel, .sentinel, .pinned], laidTests := true, laidLooks := .later }
def DisasmPartsUptoCardSaid : Prop := Claim7.holds Tryz.pinned (.plain (OpenSpec.upto disasmPartsSpec)) disasmPartsUptoCard
end Rows
end Go.Proofs.YtcngpciblbdgbaaGreatDoor
