/-
  DERIVED. GIVEN WITH THE SEED: THE CARDS: each row of YtbpnogpjpklmjaaDoorRows.lean that lists a variable, with what it lists TIED to the program's text (the seventh form; the later family's looks); each row that meets fmt, with fmt's text TOLD by the authors' own Lean function (tested against real Go, not proved from fmt's source: count such statements apart). THE CARD IS WHAT COUNTS. Prove the row's statement (the work); the ties are given (YtbpnogpjpklmjaaDoorTie.lean); close each card by the builder's one call (the guide's Derived/Test/ToyasCard.lean, 'card_holds'). Laid BY PROGRAM, IN A SANDBOX (cutbox-door.mjs). By AI agents, Wed Nov 11 2026. No macro, syntax, notation, axiom, sorry.
-/
import Derived.Test.YtbpnogpjpklmjaaDoorRows
import GoSem.ClaimSeven
namespace Go.Proofs.YtbpnogpjpklmjaaDoor
namespace Rows

/-- THE TIED CARD OF 'linkhouselaw1.IsaValidateMatchesSpec'. -/
def isaValidateMatchesSpecCard : Claim7 := { stood := { row := isaValidateMatchesSpecRow, standIns := [], harness := (true, "5a05774145e36250da7b6bc57579dbce6bfc82e2c5776ae3a816a6ccf1a9870b"), looks := false }, kinds := [], alts := [], laidByText := true, laidKinds := [.data, .listed, .data, .pinned], laidTests := true, laidLooks := .later }
def IsaValidateMatchesSpecCardSaid : Prop := Claim7.holds Tryd.pinned (.plain (OpenSpec.ofChange isaValidateMatchesSpecSpec)) isaValidateMatchesSpecCard

/-- THE TIED CARD OF 'linkhouselaw1.IsaFindMatchesSpec'. -/
def isaFindMatchesSpecCard : Claim7 := { stood := { row := isaFindMatchesSpecRow, standIns := [], harness := (true, "5a05774145e36250da7b6bc57579dbce6bfc82e2c5776ae3a816a6ccf1a9870b"), looks := false }, kinds := [], alts := [], laidByText := true, laidKinds := [.data, .listed, .data, .pinned], laidTests := true, laidLooks := .later }
def IsaFindMatchesSpecCardSaid : Prop := Claim7.holds Tryd.pinned (.plain (OpenSpec.ofChange isaFindMatchesSpecSpec)) isaFindMatchesSpecCard

/-- THE TIED CARD OF 'linkhouselaw1.IsaDefaultMatchesSpec'. -/
def isaDefaultMatchesSpecCard : Claim7 := { stood := { row := isaDefaultMatchesSpecRow, standIns := [], harness := (true, "5a05774145e36250da7b6bc57579dbce6bfc82e2c5776ae3a816a6ccf1a9870b"), looks := false }, kinds := [], alts := [], laidByText := true, laidKinds := [.data, .listed, .data, .pinned], laidTests := true, laidLooks := .later }
def IsaDefaultMatchesSpecCardSaid : Prop := Claim7.holds Tryd.pinned (.plain (OpenSpec.ofChange isaDefaultMatchesSpecSpec)) isaDefaultMatchesSpecCard

/-- THE TIED CARD OF 'linkhouselaw1.IsaFindsAll'. -/
def isaFindsAllCard : Claim7 := { stood := { row := isaFindsAllRow, standIns := [], harness := (true, "5a05774145e36250da7b6bc57579dbce6bfc82e2c5776ae3a816a6ccf1a9870b"), looks := false }, kinds := [], alts := [], laidByText := true, laidKinds := [.data, .listed, .data, .pinned], laidTests := true, laidLooks := .later }
def IsaFindsAllCardSaid : Prop := Claim7.holds Tryd.pinned (.plain (OpenSpec.ofChange isaFindsAllSpec)) isaFindsAllCard

/-- THE TIED CARD OF 'linkhouselaw1.IsaOrderIrrelevant'. -/
def isaOrderIrrelevantCard : Claim7 := { stood := { row := isaOrderIrrelevantRow, standIns := [], harness := (true, "5a05774145e36250da7b6bc57579dbce6bfc82e2c5776ae3a816a6ccf1a9870b"), looks := false }, kinds := [], alts := [], laidByText := true, laidKinds := [.data, .listed, .data, .pinned], laidTests := true, laidLooks := .later }
def IsaOrderIrrelevantCardSaid : Prop := Claim7.holds Tryd.pinned (.plain (OpenSpec.ofChange isaOrderIrrelevantSpec)) isaOrderIrrelevantCard

/-- THE SECOND FORM's CARD OF 'linkhouselaw1.IsaValidateMatchesSpec'. -/
def isaValidateMatchesSpecUptoCard : Claim7 := { stood := { row := isaValidateMatchesSpecUptoRow, standIns := [], harness := (true, "5a05774145e36250da7b6bc57579dbce6bfc82e2c5776ae3a816a6ccf1a9870b"), looks := false }, kinds := [], alts := [], laidByText := true, laidKinds := [.data, .listed, .data, .pinned], laidTests := true, laidLooks := .later }
def IsaValidateMatchesSpecUptoCardSaid : Prop := Claim7.holds Tryd.pinned (.plain (OpenSpec.upto isaValidateMatchesSpecSpec)) isaValidateMatchesSpecUptoCard

/-- THE SECOND FORM's CARD OF 'linkhouselaw1.IsaFindMatchesSpec'. -/
def isaFindMatchesSpecUptoCard : Claim7 := { stood := { row := isaFindMatchesSpecUptoRow, standIns := [], harness := (true, "5a05774145e36250da7b6bc57579dbce6bfc82e2c5776ae3a816a6ccf1a9870b"), looks := false }, kinds := [], alts := [], laidByText := true, laidKinds := [.data, .listed, .data, .pinned], laidTests := true, laidLooks := .later }
def IsaFindMatchesSpecUptoCardSaid : Prop := Claim7.holds Tryd.pinned (.plain (OpenSpec.upto isaFindMatchesSpecSpec)) isaFindMatchesSpecUptoCard

/-- THE SECOND FORM's CARD OF 'linkhouselaw1.IsaDefaultMatchesSpec'. -/
def isaDefaultMatchesSpecUptoCard : Claim7 := { stood := { row := isaDefaultMatchesSpecUptoRow, standIns := [], harness := (true, "5a05774145e36250da7b6bc57579dbce6bfc82e2c5776ae3a816a6ccf1a9870b"), looks := false }, kinds := [], alts := [], laidByText := true, laidKinds := [.data, .listed, .data, .pinned], laidTests := true, laidLooks := .later }
def IsaDefaultMatchesSpecUptoCardSaid : Prop := Claim7.holds Tryd.pinned (.plain (OpenSpec.upto isaDefaultMatchesSpecSpec)) isaDefaultMatchesSpecUptoCard

/-- THE SECOND FORM's CARD OF 'linkhouselaw1.IsaFindsAll'. -/
def isaFindsAllUptoCard : Claim7 := { stood := { row := isaFindsAllUptoRow, standIns := [], harness := (true, "5a05774145e36250da7b6bc57579dbce6bfc82e2c5776ae3a816a6ccf1a9870b"), looks := false }, kinds := [], alts := [], laidByText := true, laidKinds := [.data, .listed, .data, .pinned], laidTests := true, laidLooks := .later }
def IsaFindsAllUptoCardSaid : Prop := Claim7.holds Tryd.pinned (.plain (OpenSpec.upto isaFindsAllSpec)) isaFindsAllUptoCard

/-- THE SECOND FORM's CARD OF 'linkhouselaw1.IsaOrderIrrelevant'. -/
def isaOrderIrrelevantUptoCard : Claim7 := { stood := { row := isaOrderIrrelevantUptoRow, standIns := [], harness := (true, "5a05774145e36250da7b6bc57579dbce6bfc82e2c5776ae3a816a6ccf1a9870b"), looks := false }, kinds := [], alts := [], laidByText := true, laidKinds := [.data, .listed, .data, .pinned], laidTests := true, laidLooks := .later }
def IsaOrderIrrelevantUptoCardSaid : Prop := Claim7.holds Tryd.pinned (.plain (OpenSpec.upto isaOrderIrrelevantSpec)) isaOrderIrrelevantUptoCard
end Rows
end Go.Proofs.YtbpnogpjpklmjaaDoor
