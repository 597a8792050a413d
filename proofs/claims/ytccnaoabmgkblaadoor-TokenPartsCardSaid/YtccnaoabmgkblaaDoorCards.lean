/-
  DERIVED. GIVEN WITH THE SEED: THE CARDS: each row of YtccnaoabmgkblaaDoorRows.lean that lists a variable, with what it lists TIED to the program's text (the seventh form; the later family's looks); each row that meets fmt, with fmt's text TOLD by the authors' own Lean function (tested against real Go, not proved from fmt's source: count such statements apart). THE CARD IS WHAT COUNTS. Prove the row's statement (the work); the ties are given (YtccnaoabmgkblaaDoorTie.lean); close each card by the builder's one call (the guide's Derived/Test/ToyasCard.lean, 'card_holds'). Laid BY PROGRAM, IN A SANDBOX (cutbox-door.mjs). By AI agents, Wed Nov 11 2026. No macro, syntax, notation, axiom, sorry.
-/
import Derived.Test.YtccnaoabmgkblaaDoorRows
import GoSem.ClaimSeven
namespace Go.Proofs.YtccnaoabmgkblaaDoor
namespace Rows

/-- THE TIED CARD OF 'linkhouselaw1.TokenSplitMatchesSpec'. -/
def tokenSplitMatchesSpecCard : Claim7 := { stood := { row := tokenSplitMatchesSpecRow, standIns := [], harness := (true, "6c71dfbe48d60c3046dc3feb6051ec09fb3c4f02db30527bd3ab0346294d5a28"), looks := true }, kinds := [], alts := [], laidByText := true, laidKinds := [.data, .data, .data, .sentinel, .sentinel], laidTests := true, laidLooks := .later }
def TokenSplitMatchesSpecCardSaid : Prop := Claim7.holds Tryd.pinned (.plain (OpenSpec.ofChange tokenSplitMatchesSpecSpec)) tokenSplitMatchesSpecCard

/-- THE TIED CARD OF 'linkhouselaw1.TokenJoinMatchesSpec'. -/
def tokenJoinMatchesSpecCard : Claim7 := { stood := { row := tokenJoinMatchesSpecRow, standIns := [], harness := (true, "6c71dfbe48d60c3046dc3feb6051ec09fb3c4f02db30527bd3ab0346294d5a28"), looks := true }, kinds := [], alts := [], laidByText := true, laidKinds := [.data, .data, .data, .sentinel, .sentinel], laidTests := true, laidLooks := .later }
def TokenJoinMatchesSpecCardSaid : Prop := Claim7.holds Tryd.pinned (.plain (OpenSpec.ofChange tokenJoinMatchesSpecSpec)) tokenJoinMatchesSpecCard

/-- THE TIED CARD OF 'linkhouselaw1.TokenRoundTrip'. -/
def tokenRoundTripCard : Claim7 := { stood := { row := tokenRoundTripRow, standIns := [], harness := (true, "6c71dfbe48d60c3046dc3feb6051ec09fb3c4f02db30527bd3ab0346294d5a28"), looks := true }, kinds := [], alts := [], laidByText := true, laidKinds := [.data, .data, .data, .sentinel, .sentinel], laidTests := true, laidLooks := .later }
def TokenRoundTripCardSaid : Prop := Claim7.holds Tryd.pinned (.plain (OpenSpec.ofChange tokenRoundTripSpec)) tokenRoundTripCard

/-- THE TIED CARD OF 'linkhouselaw1.TokenComments'. -/
def tokenCommentsCard : Claim7 := { stood := { row := tokenCommentsRow, standIns := [], harness := (true, "6c71dfbe48d60c3046dc3feb6051ec09fb3c4f02db30527bd3ab0346294d5a28"), looks := true }, kinds := [], alts := [], laidByText := true, laidKinds := [.data, .data, .data, .sentinel, .sentinel], laidTests := true, laidLooks := .later }
def TokenCommentsCardSaid : Prop := Claim7.holds Tryd.pinned (.plain (OpenSpec.ofChange tokenCommentsSpec)) tokenCommentsCard

/-- THE TIED CARD OF 'linkhouselaw1.TokenParts'. -/
def tokenPartsCard : Claim7 := { stood := { row := tokenPartsRow, standIns := [], harness := (true, "6c71dfbe48d60c3046dc3feb6051ec09fb3c4f02db30527bd3ab0346294d5a28"), looks := true }, kinds := [], alts := [], laidByText := true, laidKinds := [.data, .data, .data, .sentinel, .sentinel], laidTests := true, laidLooks := .later }
def TokenPartsCardSaid : Prop := Claim7.holds Tryd.pinned (.plain (OpenSpec.ofChange tokenPartsSpec)) tokenPartsCard

/-- THE SECOND FORM's CARD OF 'linkhouselaw1.TokenSplitMatchesSpec'. -/
def tokenSplitMatchesSpecUptoCard : Claim7 := { stood := { row := tokenSplitMatchesSpecUptoRow, standIns := [], harness := (true, "6c71dfbe48d60c3046dc3feb6051ec09fb3c4f02db30527bd3ab0346294d5a28"), looks := true }, kinds := [], alts := [], laidByText := true, laidKinds := [.data, .data, .data, .sentinel, .sentinel], laidTests := true, laidLooks := .later }
def TokenSplitMatchesSpecUptoCardSaid : Prop := Claim7.holds Tryd.pinned (.plain (OpenSpec.upto tokenSplitMatchesSpecSpec)) tokenSplitMatchesSpecUptoCard

/-- THE SECOND FORM's CARD OF 'linkhouselaw1.TokenJoinMatchesSpec'. -/
def tokenJoinMatchesSpecUptoCard : Claim7 := { stood := { row := tokenJoinMatchesSpecUptoRow, standIns := [], harness := (true, "6c71dfbe48d60c3046dc3feb6051ec09fb3c4f02db30527bd3ab0346294d5a28"), looks := true }, kinds := [], alts := [], laidByText := true, laidKinds := [.data, .data, .data, .sentinel, .sentinel], laidTests := true, laidLooks := .later }
def TokenJoinMatchesSpecUptoCardSaid : Prop := Claim7.holds Tryd.pinned (.plain (OpenSpec.upto tokenJoinMatchesSpecSpec)) tokenJoinMatchesSpecUptoCard

/-- THE SECOND FORM's CARD OF 'linkhouselaw1.TokenRoundTrip'. -/
def tokenRoundTripUptoCard : Claim7 := { stood := { row := tokenRoundTripUptoRow, standIns := [], harness := (true, "6c71dfbe48d60c3046dc3feb6051ec09fb3c4f02db30527bd3ab0346294d5a28"), looks := true }, kinds := [], alts := [], laidByText := true, laidKinds := [.data, .data, .data, .sentinel, .sentinel], laidTests := true, laidLooks := .later }
def TokenRoundTripUptoCardSaid : Prop := Claim7.holds Tryd.pinned (.plain (OpenSpec.upto tokenRoundTripSpec)) tokenRoundTripUptoCard

/-- THE SECOND FORM's CARD OF 'linkhouselaw1.TokenComments'. -/
def tokenCommentsUptoCard : Claim7 := { stood := { row := tokenCommentsUptoRow, standIns := [], harness := (true, "6c71dfbe48d60c3046dc3feb6051ec09fb3c4f02db30527bd3ab0346294d5a28"), looks := true }, kinds := [], alts := [], laidByText := true, laidKinds := [.data, .data, .data, .sentinel, .sentinel], laidTests := true, laidLooks := .later }
def TokenCommentsUptoCardSaid : Prop := Claim7.holds Tryd.pinned (.plain (OpenSpec.upto tokenCommentsSpec)) tokenCommentsUptoCard

/-- THE SECOND FORM's CARD OF 'linkhouselaw1.TokenParts'. -/
def tokenPartsUptoCard : Claim7 := { stood := { row := tokenPartsUptoRow, standIns := [], harness := (true, "6c71dfbe48d60c3046dc3feb6051ec09fb3c4f02db30527bd3ab0346294d5a28"), looks := true }, kinds := [], alts := [], laidByText := true, laidKinds := [.data, .data, .data, .sentinel, .sentinel], laidTests := true, laidLooks := .later }
def TokenPartsUptoCardSaid : Prop := Claim7.holds Tryd.pinned (.plain (OpenSpec.upto tokenPartsSpec)) tokenPartsUptoCard
end Rows
end Go.Proofs.YtccnaoabmgkblaaDoor
