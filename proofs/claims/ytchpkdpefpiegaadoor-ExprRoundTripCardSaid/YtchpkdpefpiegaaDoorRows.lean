/-
  NARROWER THAN 'FOR EVERY INPUT', by the rows' own cells (each row's printed sentence says how): ExprParseMatchesSpec: laid · ExprValueMatchesSpec: laid · ExprTokensMatchesSpec: laid · ExprRoundTrip: laid · ExprSubstitutes: laid · ExprSpaces: laid.
  DERIVED. THE GIVEN ROWS OF THIS SEAT. 6 by the template 'for every input the law returns true; each argument reads behind the call as it read before'; 0 by the template 'total and deterministic' (their statements: YtchpkdpefpiegaaDoorTotals.lean).
  GIVEN WITH THE SEED: the statements are not yours to turn. If you find one false, say at which input.
  Laid BY PROGRAM, IN A SANDBOX (cutbox-rows.mjs): the forced cells as the released guide's own fill.sh prints them over the translation a94fde4ab69859f0… (all of the seat's roots in one cut). By AI agents, Wed Nov 11 2026. No macro, syntax, notation, axiom, sorry.
-/
import Derived.Test.YtchpkdpefpiegaaDoorChecked
import GoSem.Claim
import GoSem.ClaimJoined
import GoSem.ClaimMapViews
import Derived.JoinedTies
import Derived.KernelRfl
namespace Go.Proofs.YtchpkdpefpiegaaDoor
/- THE CELL 'sum', in the pinned program and in every row, IS THE sha256 OF THE DUMP (.gsa) THAT YtchpkdpefpiegaaDoorProg.lean LOADS. Nothing in Lean hashes anything: it is a label: what it is worth is what the hold of that sum in a sandbox is worth. -/
noncomputable def Tryd.pinned : Pinned := { name := "ytchpkdpefpiegaadoor", sum := "a94fde4ab69859f02459636bdc6a92f8cdf5559a65f528e80af7cfadff87be65", checked := Tryd.checked }
namespace Rows
def none {H : Type} : Left H := { results := [], args := [] }

/- WHAT THE LISTED PACKAGE-LEVEL VARIABLES READ AS WHEN THE CALL BEGINS. Each datum BY PROGRAM (the guide's laid-datum.mjs) off the statement by which the dump's own 'gosem.cut.vars' lays the variable. In a bare row this is a premise. The card (YtchpkdpefpiegaaDoorCards.lean) ties it to the program's text. -/
def laid_linkhouse_expr_kinds {H : Type} : DataW H := .agg [.agg [.lit (.int .i64 0), .lit (.string []), .lit (.int .i64 0)], .agg [.lit (.int .i64 0), .lit (.string []), .lit (.int .i64 0)], .agg [.lit (.int .i64 0), .lit (.string []), .lit (.int .i64 0)], .agg [.lit (.int .i64 1), .lit (.string [45]), .lit (.int .i64 0)], .agg [.lit (.int .i64 1), .lit (.string [126]), .lit (.int .i64 0)], .agg [.lit (.int .i64 2), .lit (.string [43]), .lit (.int .i64 5)], .agg [.lit (.int .i64 2), .lit (.string [45]), .lit (.int .i64 5)], .agg [.lit (.int .i64 2), .lit (.string [42]), .lit (.int .i64 6)], .agg [.lit (.int .i64 2), .lit (.string [47]), .lit (.int .i64 6)], .agg [.lit (.int .i64 2), .lit (.string [37]), .lit (.int .i64 6)], .agg [.lit (.int .i64 2), .lit (.string [60, 60]), .lit (.int .i64 4)], .agg [.lit (.int .i64 2), .lit (.string [62, 62]), .lit (.int .i64 4)], .agg [.lit (.int .i64 2), .lit (.string [38]), .lit (.int .i64 3)], .agg [.lit (.int .i64 2), .lit (.string [94]), .lit (.int .i64 2)], .agg [.lit (.int .i64 2), .lit (.string [124]), .lit (.int .i64 1)]]

/-- 'linkhouselaw1.ExprParseMatchesSpec': WHATEVER THE INPUT: true; the input reads as it did. -/
def exprParseMatchesSpecSpec : ChangeSpec := { name := "exprParseMatchesSpec", fn := fun _ => fun
  | [d] => { results := [.lit (.bool true)], args := [d] }
  | _ => none }
def exprParseMatchesSpecRow : OpenClaim := { program := "ytchpkdpefpiegaadoor", sum := "a94fde4ab69859f02459636bdc6a92f8cdf5559a65f528e80af7cfadff87be65", func := "linkhouse/linkhouselaw1.ExprParseMatchesSpec", spec := "exprParseMatchesSpec", inPlace := ["internal/bytealg.IndexByteString"], unfollowed := true, recurses := true, named := ["linkhouse/expr.kinds"], apart := false, laid := [("linkhouse/expr.kinds", laid_linkhouse_expr_kinds)] }
def ExprParseMatchesSpecSaid : Prop := exprParseMatchesSpecRow.holds Tryd.pinned (OpenSpec.ofChange exprParseMatchesSpecSpec)

/-- ITS FALSE NEIGHBOUR: 'it returns false'. Refute it at one input. -/
def exprParseMatchesSpecWrong : ChangeSpec := { name := "exprParseMatchesSpec", fn := fun _ => fun
  | [d] => { results := [.lit (.bool false)], args := [d] }
  | _ => none }
def ExprParseMatchesSpecWrongFalsely : Prop := exprParseMatchesSpecRow.holds Tryd.pinned (OpenSpec.ofChange exprParseMatchesSpecWrong)

/-- 'linkhouselaw1.ExprValueMatchesSpec': WHATEVER THE INPUT: true; the input reads as it did. -/
def exprValueMatchesSpecSpec : ChangeSpec := { name := "exprValueMatchesSpec", fn := fun _ => fun
  | [d1, d2] => { results := [.lit (.bool true)], args := [d1, d2] }
  | _ => none }
def exprValueMatchesSpecRow : OpenClaim := { program := "ytchpkdpefpiegaadoor", sum := "a94fde4ab69859f02459636bdc6a92f8cdf5559a65f528e80af7cfadff87be65", func := "linkhouse/linkhouselaw1.ExprValueMatchesSpec", spec := "exprValueMatchesSpec", inPlace := ["internal/bytealg.IndexByteString"], unfollowed := true, recurses := true, named := ["linkhouse/expr.kinds"], apart := false, laid := [("linkhouse/expr.kinds", laid_linkhouse_expr_kinds)] }
def ExprValueMatchesSpecSaid : Prop := exprValueMatchesSpecRow.holds Tryd.pinned (OpenSpec.ofChange exprValueMatchesSpecSpec)

/-- ITS FALSE NEIGHBOUR: 'it returns false'. Refute it at one input. -/
def exprValueMatchesSpecWrong : ChangeSpec := { name := "exprValueMatchesSpec", fn := fun _ => fun
  | [d1, d2] => { results := [.lit (.bool false)], args := [d1, d2] }
  | _ => none }
def ExprValueMatchesSpecWrongFalsely : Prop := exprValueMatchesSpecRow.holds Tryd.pinned (OpenSpec.ofChange exprValueMatchesSpecWrong)

/-- 'linkhouselaw1.ExprTokensMatchesSpec': WHATEVER THE INPUT: true; the input reads as it did. -/
def exprTokensMatchesSpecSpec : ChangeSpec := { name := "exprTokensMatchesSpec", fn := fun _ => fun
  | [d] => { results := [.lit (.bool true)], args := [d] }
  | _ => none }
def exprTokensMatchesSpecRow : OpenClaim := { program := "ytchpkdpefpiegaadoor", sum := "a94fde4ab69859f02459636bdc6a92f8cdf5559a65f528e80af7cfadff87be65", func := "linkhouse/linkhouselaw1.ExprTokensMatchesSpec", spec := "exprTokensMatchesSpec", inPlace := ["internal/bytealg.IndexByteString"], unfollowed := true, recurses := true, named := ["linkhouse/expr.kinds"], apart := false, laid := [("linkhouse/expr.kinds", laid_linkhouse_expr_kinds)] }
def ExprTokensMatchesSpecSaid : Prop := exprTokensMatchesSpecRow.holds Tryd.pinned (OpenSpec.ofChange exprTokensMatchesSpecSpec)

/-- ITS FALSE NEIGHBOUR: 'it returns false'. Refute it at one input. -/
def exprTokensMatchesSpecWrong : ChangeSpec := { name := "exprTokensMatchesSpec", fn := fun _ => fun
  | [d] => { results := [.lit (.bool false)], args := [d] }
  | _ => none }
def ExprTokensMatchesSpecWrongFalsely : Prop := exprTokensMatchesSpecRow.holds Tryd.pinned (OpenSpec.ofChange exprTokensMatchesSpecWrong)

/-- 'linkhouselaw1.ExprRoundTrip': WHATEVER THE INPUT: true; the input reads as it did. -/
def exprRoundTripSpec : ChangeSpec := { name := "exprRoundTrip", fn := fun _ => fun
  | [d1, d2] => { results := [.lit (.bool true)], args := [d1, d2] }
  | _ => none }
def exprRoundTripRow : OpenClaim := { program := "ytchpkdpefpiegaadoor", sum := "a94fde4ab69859f02459636bdc6a92f8cdf5559a65f528e80af7cfadff87be65", func := "linkhouse/linkhouselaw1.ExprRoundTrip", spec := "exprRoundTrip", inPlace := ["internal/bytealg.IndexByteString"], unfollowed := true, recurses := true, named := ["linkhouse/expr.kinds"], apart := false, laid := [("linkhouse/expr.kinds", laid_linkhouse_expr_kinds)] }
def ExprRoundTripSaid : Prop := exprRoundTripRow.holds Tryd.pinned (OpenSpec.ofChange exprRoundTripSpec)

/-- ITS FALSE NEIGHBOUR: 'it returns false'. Refute it at one input. -/
def exprRoundTripWrong : ChangeSpec := { name := "exprRoundTrip", fn := fun _ => fun
  | [d1, d2] => { results := [.lit (.bool false)], args := [d1, d2] }
  | _ => none }
def ExprRoundTripWrongFalsely : Prop := exprRoundTripRow.holds Tryd.pinned (OpenSpec.ofChange exprRoundTripWrong)

/-- 'linkhouselaw1.ExprSubstitutes': WHATEVER THE INPUT: true; the input reads as it did. -/
def exprSubstitutesSpec : ChangeSpec := { name := "exprSubstitutes", fn := fun _ => fun
  | [d1, d2, d3] => { results := [.lit (.bool true)], args := [d1, d2, d3] }
  | _ => none }
def exprSubstitutesRow : OpenClaim := { program := "ytchpkdpefpiegaadoor", sum := "a94fde4ab69859f02459636bdc6a92f8cdf5559a65f528e80af7cfadff87be65", func := "linkhouse/linkhouselaw1.ExprSubstitutes", spec := "exprSubstitutes", inPlace := ["internal/bytealg.IndexByteString"], unfollowed := true, recurses := true, named := ["linkhouse/expr.kinds"], apart := false, laid := [("linkhouse/expr.kinds", laid_linkhouse_expr_kinds)] }
def ExprSubstitutesSaid : Prop := exprSubstitutesRow.holds Tryd.pinned (OpenSpec.ofChange exprSubstitutesSpec)

/-- ITS FALSE NEIGHBOUR: 'it returns false'. Refute it at one input. -/
def exprSubstitutesWrong : ChangeSpec := { name := "exprSubstitutes", fn := fun _ => fun
  | [d1, d2, d3] => { results := [.lit (.bool false)], args := [d1, d2, d3] }
  | _ => none }
def ExprSubstitutesWrongFalsely : Prop := exprSubstitutesRow.holds Tryd.pinned (OpenSpec.ofChange exprSubstitutesWrong)

/-- 'linkhouselaw1.ExprSpaces': WHATEVER THE INPUT: true; the input reads as it did. -/
def exprSpacesSpec : ChangeSpec := { name := "exprSpaces", fn := fun _ => fun
  | [d] => { results := [.lit (.bool true)], args := [d] }
  | _ => none }
def exprSpacesRow : OpenClaim := { program := "ytchpkdpefpiegaadoor", sum := "a94fde4ab69859f02459636bdc6a92f8cdf5559a65f528e80af7cfadff87be65", func := "linkhouse/linkhouselaw1.ExprSpaces", spec := "exprSpaces", inPlace := ["internal/bytealg.IndexByteString"], unfollowed := true, recurses := true, named := ["linkhouse/expr.kinds"], apart := false, laid := [("linkhouse/expr.kinds", laid_linkhouse_expr_kinds)] }
def ExprSpacesSaid : Prop := exprSpacesRow.holds Tryd.pinned (OpenSpec.ofChange exprSpacesSpec)

/-- ITS FALSE NEIGHBOUR: 'it returns false'. Refute it at one input. -/
def exprSpacesWrong : ChangeSpec := { name := "exprSpaces", fn := fun _ => fun
  | [d] => { results := [.lit (.bool false)], args := [d] }
  | _ => none }
def ExprSpacesWrongFalsely : Prop := exprSpacesRow.holds Tryd.pinned (OpenSpec.ofChange exprSpacesWrong)

/- THE SECOND FORM. 'bulk': how many values and letters a reading holds, each counted each time it is reached (what is shared counts as often as it is met; a slice's spare places count too). A statement '..UptoSaid' is the law's where the arguments, and the package variables that the reading takes, are together of bulk at most 1048576: NARROWER than '..Said'. Prove '..Said' where nothing that the law and all that it calls make is longer than what came in: it says more and counts as full. Else prove '..UptoSaid'. A law counts once. -/
mutual
def uptoBulk {H : Type} : DataW H → Nat
  | .lit (.string bytes) => bytes.length + 1
  | .lit _ => 1
  | .nil => 1
  | .ptr d => uptoBulk d + 1
  | .slice elems spare => uptoBulkAll elems + uptoBulkAll spare + 1
  | .agg parts => uptoBulkAll parts + 1
  | .iface _ d => uptoBulk d + 1
  | .map entries => uptoBulkEntries entries + 1
  | .held _ => 1
def uptoBulkAll {H : Type} : List (DataW H) → Nat
  | [] => 0
  | d :: r => uptoBulk d + uptoBulkAll r
def uptoBulkEntries {H : Type} : List (Lit × DataW H) → Nat
  | [] => 0
  | x :: r => uptoBulkEntry x + uptoBulkEntries r
def uptoBulkEntry {H : Type} : Lit × DataW H → Nat
  | (.string bytes, d) => bytes.length + uptoBulk d + 1
  | (_, d) => uptoBulk d + 1
 end
def uptoSmall : (H : Type) → List (DataW H) → Bool := fun _ ds => decide (uptoBulkAll ds ≤ 1048576)
def OpenSpec.upto (s : _root_.Go.ChangeSpec) : _root_.Go.OpenSpec := { _root_.Go.OpenSpec.ofChange s with cond := some uptoSmall }

/-- 'linkhouselaw1.ExprParseMatchesSpec', WHERE WHAT IT READS IS OF BULK AT MOST 1048576: true; the input reads as it did. -/
def exprParseMatchesSpecUptoRow : OpenClaim := { program := "ytchpkdpefpiegaadoor", sum := "a94fde4ab69859f02459636bdc6a92f8cdf5559a65f528e80af7cfadff87be65", func := "linkhouse/linkhouselaw1.ExprParseMatchesSpec", spec := "exprParseMatchesSpec", inPlace := ["internal/bytealg.IndexByteString"], unfollowed := true, recurses := true, named := ["linkhouse/expr.kinds"], apart := false, laid := [("linkhouse/expr.kinds", laid_linkhouse_expr_kinds)], narrowed := true }
def ExprParseMatchesSpecUptoSaid : Prop := exprParseMatchesSpecUptoRow.holds Tryd.pinned (OpenSpec.upto exprParseMatchesSpecSpec)

/-- 'linkhouselaw1.ExprValueMatchesSpec', WHERE WHAT IT READS IS OF BULK AT MOST 1048576: true; the input reads as it did. -/
def exprValueMatchesSpecUptoRow : OpenClaim := { program := "ytchpkdpefpiegaadoor", sum := "a94fde4ab69859f02459636bdc6a92f8cdf5559a65f528e80af7cfadff87be65", func := "linkhouse/linkhouselaw1.ExprValueMatchesSpec", spec := "exprValueMatchesSpec", inPlace := ["internal/bytealg.IndexByteString"], unfollowed := true, recurses := true, named := ["linkhouse/expr.kinds"], apart := false, laid := [("linkhouse/expr.kinds", laid_linkhouse_expr_kinds)], narrowed := true }
def ExprValueMatchesSpecUptoSaid : Prop := exprValueMatchesSpecUptoRow.holds Tryd.pinned (OpenSpec.upto exprValueMatchesSpecSpec)

/-- 'linkhouselaw1.ExprTokensMatchesSpec', WHERE WHAT IT READS IS OF BULK AT MOST 1048576: true; the input reads as it did. -/
def exprTokensMatchesSpecUptoRow : OpenClaim := { program := "ytchpkdpefpiegaadoor", sum := "a94fde4ab69859f02459636bdc6a92f8cdf5559a65f528e80af7cfadff87be65", func := "linkhouse/linkhouselaw1.ExprTokensMatchesSpec", spec := "exprTokensMatchesSpec", inPlace := ["internal/bytealg.IndexByteString"], unfollowed := true, recurses := true, named := ["linkhouse/expr.kinds"], apart := false, laid := [("linkhouse/expr.kinds", laid_linkhouse_expr_kinds)], narrowed := true }
def ExprTokensMatchesSpecUptoSaid : Prop := exprTokensMatchesSpecUptoRow.holds Tryd.pinned (OpenSpec.upto exprTokensMatchesSpecSpec)

/-- 'linkhouselaw1.ExprRoundTrip', WHERE WHAT IT READS IS OF BULK AT MOST 1048576: true; the input reads as it did. -/
def exprRoundTripUptoRow : OpenClaim := { program := "ytchpkdpefpiegaadoor", sum := "a94fde4ab69859f02459636bdc6a92f8cdf5559a65f528e80af7cfadff87be65", func := "linkhouse/linkhouselaw1.ExprRoundTrip", spec := "exprRoundTrip", inPlace := ["internal/bytealg.IndexByteString"], unfollowed := true, recurses := true, named := ["linkhouse/expr.kinds"], apart := false, laid := [("linkhouse/expr.kinds", laid_linkhouse_expr_kinds)], narrowed := true }
def ExprRoundTripUptoSaid : Prop := exprRoundTripUptoRow.holds Tryd.pinned (OpenSpec.upto exprRoundTripSpec)

/-- 'linkhouselaw1.ExprSubstitutes', WHERE WHAT IT READS IS OF BULK AT MOST 1048576: true; the input reads as it did. -/
def exprSubstitutesUptoRow : OpenClaim := { program := "ytchpkdpefpiegaadoor", sum := "a94fde4ab69859f02459636bdc6a92f8cdf5559a65f528e80af7cfadff87be65", func := "linkhouse/linkhouselaw1.ExprSubstitutes", spec := "exprSubstitutes", inPlace := ["internal/bytealg.IndexByteString"], unfollowed := true, recurses := true, named := ["linkhouse/expr.kinds"], apart := false, laid := [("linkhouse/expr.kinds", laid_linkhouse_expr_kinds)], narrowed := true }
def ExprSubstitutesUptoSaid : Prop := exprSubstitutesUptoRow.holds Tryd.pinned (OpenSpec.upto exprSubstitutesSpec)

/-- 'linkhouselaw1.ExprSpaces', WHERE WHAT IT READS IS OF BULK AT MOST 1048576: true; the input reads as it did. -/
def exprSpacesUptoRow : OpenClaim := { program := "ytchpkdpefpiegaadoor", sum := "a94fde4ab69859f02459636bdc6a92f8cdf5559a65f528e80af7cfadff87be65", func := "linkhouse/linkhouselaw1.ExprSpaces", spec := "exprSpaces", inPlace := ["internal/bytealg.IndexByteString"], unfollowed := true, recurses := true, named := ["linkhouse/expr.kinds"], apart := false, laid := [("linkhouse/expr.kinds", laid_linkhouse_expr_kinds)], narrowed := true }
def ExprSpacesUptoSaid : Prop := exprSpacesUptoRow.holds Tryd.pinned (OpenSpec.upto exprSpacesSpec)

end Rows
end Go.Proofs.YtchpkdpefpiegaaDoor
