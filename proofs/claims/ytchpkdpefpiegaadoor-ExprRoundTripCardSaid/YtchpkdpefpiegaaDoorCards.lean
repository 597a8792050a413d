/-
  DERIVED. GIVEN WITH THE SEED: THE CARDS: each row of YtchpkdpefpiegaaDoorRows.lean that lists a variable, with what it lists TIED to the program's text (the seventh form; the later family's looks); each row that meets fmt, with fmt's text TOLD by the authors' own Lean function (tested against real Go, not proved from fmt's source: count such statements apart). THE CARD IS WHAT COUNTS. Prove the row's statement (the work); the ties are given (YtchpkdpefpiegaaDoorTie.lean); close each card by the builder's one call (the guide's Derived/Test/ToyasCard.lean, 'card_holds'). Laid BY PROGRAM, IN A SANDBOX (cutbox-door.mjs). By AI agents, Wed Nov 11 2026. No macro, syntax, notation, axiom, sorry.
-/
import Derived.Test.YtchpkdpefpiegaaDoorRows
import GoSem.ClaimSeven
namespace Go.Proofs.YtchpkdpefpiegaaDoor
namespace Rows

/-- THE TIED CARD OF 'linkhouselaw1.ExprParseMatchesSpec'. -/
def exprParseMatchesSpecCard : Claim7 := { stood := { row := exprParseMatchesSpecRow, standIns := [], harness := (true, "d1ecf4967a4cb08a61f70c8ba1ad1e25d924885ebf6010f482519ba9c313b4d7"), looks := false }, kinds := [], alts := [], laidByText := true, laidKinds := [.data], laidTests := true, laidLooks := .later }
def ExprParseMatchesSpecCardSaid : Prop := Claim7.holds Tryd.pinned (.plain (OpenSpec.ofChange exprParseMatchesSpecSpec)) exprParseMatchesSpecCard

/-- THE TIED CARD OF 'linkhouselaw1.ExprValueMatchesSpec'. -/
def exprValueMatchesSpecCard : Claim7 := { stood := { row := exprValueMatchesSpecRow, standIns := [], harness := (true, "d1ecf4967a4cb08a61f70c8ba1ad1e25d924885ebf6010f482519ba9c313b4d7"), looks := false }, kinds := [], alts := [], laidByText := true, laidKinds := [.data], laidTests := true, laidLooks := .later }
def ExprValueMatchesSpecCardSaid : Prop := Claim7.holds Tryd.pinned (.plain (OpenSpec.ofChange exprValueMatchesSpecSpec)) exprValueMatchesSpecCard

/-- THE TIED CARD OF 'linkhouselaw1.ExprTokensMatchesSpec'. -/
def exprTokensMatchesSpecCard : Claim7 := { stood := { row := exprTokensMatchesSpecRow, standIns := [], harness := (true, "d1ecf4967a4cb08a61f70c8ba1ad1e25d924885ebf6010f482519ba9c313b4d7"), looks := false }, kinds := [], alts := [], laidByText := true, laidKinds := [.data], laidTests := true, laidLooks := .later }
def ExprTokensMatchesSpecCardSaid : Prop := Claim7.holds Tryd.pinned (.plain (OpenSpec.ofChange exprTokensMatchesSpecSpec)) exprTokensMatchesSpecCard

/-- THE TIED CARD OF 'linkhouselaw1.ExprRoundTrip'. -/
def exprRoundTripCard : Claim7 := { stood := { row := exprRoundTripRow, standIns := [], harness := (true, "d1ecf4967a4cb08a61f70c8ba1ad1e25d924885ebf6010f482519ba9c313b4d7"), looks := false }, kinds := [], alts := [], laidByText := true, laidKinds := [.data], laidTests := true, laidLooks := .later }
def ExprRoundTripCardSaid : Prop := Claim7.holds Tryd.pinned (.plain (OpenSpec.ofChange exprRoundTripSpec)) exprRoundTripCard

/-- THE TIED CARD OF 'linkhouselaw1.ExprSubstitutes'. -/
def exprSubstitutesCard : Claim7 := { stood := { row := exprSubstitutesRow, standIns := [], harness := (true, "d1ecf4967a4cb08a61f70c8ba1ad1e25d924885ebf6010f482519ba9c313b4d7"), looks := false }, kinds := [], alts := [], laidByText := true, laidKinds := [.data], laidTests := true, laidLooks := .later }
def ExprSubstitutesCardSaid : Prop := Claim7.holds Tryd.pinned (.plain (OpenSpec.ofChange exprSubstitutesSpec)) exprSubstitutesCard

/-- THE TIED CARD OF 'linkhouselaw1.ExprSpaces'. -/
def exprSpacesCard : Claim7 := { stood := { row := exprSpacesRow, standIns := [], harness := (true, "d1ecf4967a4cb08a61f70c8ba1ad1e25d924885ebf6010f482519ba9c313b4d7"), looks := false }, kinds := [], alts := [], laidByText := true, laidKinds := [.data], laidTests := true, laidLooks := .later }
def ExprSpacesCardSaid : Prop := Claim7.holds Tryd.pinned (.plain (OpenSpec.ofChange exprSpacesSpec)) exprSpacesCard

/-- THE SECOND FORM's CARD OF 'linkhouselaw1.ExprParseMatchesSpec'. -/
def exprParseMatchesSpecUptoCard : Claim7 := { stood := { row := exprParseMatchesSpecUptoRow, standIns := [], harness := (true, "d1ecf4967a4cb08a61f70c8ba1ad1e25d924885ebf6010f482519ba9c313b4d7"), looks := false }, kinds := [], alts := [], laidByText := true, laidKinds := [.data], laidTests := true, laidLooks := .later }
def ExprParseMatchesSpecUptoCardSaid : Prop := Claim7.holds Tryd.pinned (.plain (OpenSpec.upto exprParseMatchesSpecSpec)) exprParseMatchesSpecUptoCard

/-- THE SECOND FORM's CARD OF 'linkhouselaw1.ExprValueMatchesSpec'. -/
def exprValueMatchesSpecUptoCard : Claim7 := { stood := { row := exprValueMatchesSpecUptoRow, standIns := [], harness := (true, "d1ecf4967a4cb08a61f70c8ba1ad1e25d924885ebf6010f482519ba9c313b4d7"), looks := false }, kinds := [], alts := [], laidByText := true, laidKinds := [.data], laidTests := true, laidLooks := .later }
def ExprValueMatchesSpecUptoCardSaid : Prop := Claim7.holds Tryd.pinned (.plain (OpenSpec.upto exprValueMatchesSpecSpec)) exprValueMatchesSpecUptoCard

/-- THE SECOND FORM's CARD OF 'linkhouselaw1.ExprTokensMatchesSpec'. -/
def exprTokensMatchesSpecUptoCard : Claim7 := { stood := { row := exprTokensMatchesSpecUptoRow, standIns := [], harness := (true, "d1ecf4967a4cb08a61f70c8ba1ad1e25d924885ebf6010f482519ba9c313b4d7"), looks := false }, kinds := [], alts := [], laidByText := true, laidKinds := [.data], laidTests := true, laidLooks := .later }
def ExprTokensMatchesSpecUptoCardSaid : Prop := Claim7.holds Tryd.pinned (.plain (OpenSpec.upto exprTokensMatchesSpecSpec)) exprTokensMatchesSpecUptoCard

/-- THE SECOND FORM's CARD OF 'linkhouselaw1.ExprRoundTrip'. -/
def exprRoundTripUptoCard : Claim7 := { stood := { row := exprRoundTripUptoRow, standIns := [], harness := (true, "d1ecf4967a4cb08a61f70c8ba1ad1e25d924885ebf6010f482519ba9c313b4d7"), looks := false }, kinds := [], alts := [], laidByText := true, laidKinds := [.data], laidTests := true, laidLooks := .later }
def ExprRoundTripUptoCardSaid : Prop := Claim7.holds Tryd.pinned (.plain (OpenSpec.upto exprRoundTripSpec)) exprRoundTripUptoCard

/-- THE SECOND FORM's CARD OF 'linkhouselaw1.ExprSubstitutes'. -/
def exprSubstitutesUptoCard : Claim7 := { stood := { row := exprSubstitutesUptoRow, standIns := [], harness := (true, "d1ecf4967a4cb08a61f70c8ba1ad1e25d924885ebf6010f482519ba9c313b4d7"), looks := false }, kinds := [], alts := [], laidByText := true, laidKinds := [.data], laidTests := true, laidLooks := .later }
def ExprSubstitutesUptoCardSaid : Prop := Claim7.holds Tryd.pinned (.plain (OpenSpec.upto exprSubstitutesSpec)) exprSubstitutesUptoCard

/-- THE SECOND FORM's CARD OF 'linkhouselaw1.ExprSpaces'. -/
def exprSpacesUptoCard : Claim7 := { stood := { row := exprSpacesUptoRow, standIns := [], harness := (true, "d1ecf4967a4cb08a61f70c8ba1ad1e25d924885ebf6010f482519ba9c313b4d7"), looks := false }, kinds := [], alts := [], laidByText := true, laidKinds := [.data], laidTests := true, laidLooks := .later }
def ExprSpacesUptoCardSaid : Prop := Claim7.holds Tryd.pinned (.plain (OpenSpec.upto exprSpacesSpec)) exprSpacesUptoCard
end Rows
end Go.Proofs.YtchpkdpefpiegaaDoor
