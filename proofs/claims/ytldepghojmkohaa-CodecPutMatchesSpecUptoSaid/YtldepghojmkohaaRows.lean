/-
  No cell of these rows narrows 'for every input' (looked for: loops, veiled, ifaces, maps, wideKeys, modest, calm, conditions, laid).
  DERIVED. THE GIVEN ROWS OF THIS SEAT. 5 by the template 'for every input the law returns true; each argument reads behind the call as it read before'; 0 by the template 'total and deterministic' (their statements: YtldepghojmkohaaTotals.lean).
  GIVEN WITH THE SEED: the statements are not yours to turn. If you find one false, say at which input.
  Laid BY PROGRAM, IN A SANDBOX (cutbox-rows.mjs): the forced cells as the released guide's own fill.sh prints them over the translation 21c2d95b557cebfd… (all of the seat's roots in one cut). By AI agents, Wed Nov 11 2026. No macro, syntax, notation, axiom, sorry.
-/
import Derived.Test.YtldepghojmkohaaChecked
import GoSem.Claim
import GoSem.ClaimJoined
import GoSem.ClaimMapViews
import Derived.JoinedTies
import Derived.KernelRfl
namespace Go.Proofs.Ytldepghojmkohaa
/- THE CELL 'sum', in the pinned program and in every row, IS THE sha256 OF THE DUMP (.gsa) THAT YtldepghojmkohaaProg.lean LOADS. Nothing in Lean hashes anything: it is a label: what it is worth is what the hold of that sum in a sandbox is worth. -/
noncomputable def Try.pinned : Pinned := { name := "ytldepghojmkohaa", sum := "21c2d95b557cebfd87880575fe4d998dec6c4c77065f5a0cffb530e36847fa47", checked := Try.checked }
namespace Rows
def none {H : Type} : Left H := { results := [], args := [] }

/-- 'linkhouselaw1.CodecPutMatchesSpec': WHATEVER THE INPUT: true; the input reads as it did. -/
def codecPutMatchesSpecSpec : ChangeSpec := { name := "codecPutMatchesSpec", fn := fun _ => fun
  | [d1, d2] => { results := [.lit (.bool true)], args := [d1, d2] }
  | _ => none }
def codecPutMatchesSpecRow : OpenClaim := { program := "ytldepghojmkohaa", sum := "21c2d95b557cebfd87880575fe4d998dec6c4c77065f5a0cffb530e36847fa47", func := "linkhouse/linkhouselaw1.CodecPutMatchesSpec", spec := "codecPutMatchesSpec", unfollowed := true, recurses := true, apart := false }
def CodecPutMatchesSpecSaid : Prop := codecPutMatchesSpecRow.holds Try.pinned (OpenSpec.ofChange codecPutMatchesSpecSpec)

/-- ITS FALSE NEIGHBOUR: 'it returns false'. Refute it at one input. -/
def codecPutMatchesSpecWrong : ChangeSpec := { name := "codecPutMatchesSpec", fn := fun _ => fun
  | [d1, d2] => { results := [.lit (.bool false)], args := [d1, d2] }
  | _ => none }
def CodecPutMatchesSpecWrongFalsely : Prop := codecPutMatchesSpecRow.holds Try.pinned (OpenSpec.ofChange codecPutMatchesSpecWrong)

/-- 'linkhouselaw1.CodecGetMatchesSpec': WHATEVER THE INPUT: true; the input reads as it did. -/
def codecGetMatchesSpecSpec : ChangeSpec := { name := "codecGetMatchesSpec", fn := fun _ => fun
  | [d] => { results := [.lit (.bool true)], args := [d] }
  | _ => none }
def codecGetMatchesSpecRow : OpenClaim := { program := "ytldepghojmkohaa", sum := "21c2d95b557cebfd87880575fe4d998dec6c4c77065f5a0cffb530e36847fa47", func := "linkhouse/linkhouselaw1.CodecGetMatchesSpec", spec := "codecGetMatchesSpec", unfollowed := true, recurses := true, apart := false }
def CodecGetMatchesSpecSaid : Prop := codecGetMatchesSpecRow.holds Try.pinned (OpenSpec.ofChange codecGetMatchesSpecSpec)

/-- ITS FALSE NEIGHBOUR: 'it returns false'. Refute it at one input. -/
def codecGetMatchesSpecWrong : ChangeSpec := { name := "codecGetMatchesSpec", fn := fun _ => fun
  | [d] => { results := [.lit (.bool false)], args := [d] }
  | _ => none }
def CodecGetMatchesSpecWrongFalsely : Prop := codecGetMatchesSpecRow.holds Try.pinned (OpenSpec.ofChange codecGetMatchesSpecWrong)

/-- 'linkhouselaw1.CodecRoundTrip': WHATEVER THE INPUT: true; the input reads as it did. -/
def codecRoundTripSpec : ChangeSpec := { name := "codecRoundTrip", fn := fun _ => fun
  | [d1, d2] => { results := [.lit (.bool true)], args := [d1, d2] }
  | _ => none }
def codecRoundTripRow : OpenClaim := { program := "ytldepghojmkohaa", sum := "21c2d95b557cebfd87880575fe4d998dec6c4c77065f5a0cffb530e36847fa47", func := "linkhouse/linkhouselaw1.CodecRoundTrip", spec := "codecRoundTrip", unfollowed := true, recurses := true, apart := false }
def CodecRoundTripSaid : Prop := codecRoundTripRow.holds Try.pinned (OpenSpec.ofChange codecRoundTripSpec)

/-- ITS FALSE NEIGHBOUR: 'it returns false'. Refute it at one input. -/
def codecRoundTripWrong : ChangeSpec := { name := "codecRoundTrip", fn := fun _ => fun
  | [d1, d2] => { results := [.lit (.bool false)], args := [d1, d2] }
  | _ => none }
def CodecRoundTripWrongFalsely : Prop := codecRoundTripRow.holds Try.pinned (OpenSpec.ofChange codecRoundTripWrong)

/-- 'linkhouselaw1.CodecTextUnique': WHATEVER THE INPUT: true; the input reads as it did. -/
def codecTextUniqueSpec : ChangeSpec := { name := "codecTextUnique", fn := fun _ => fun
  | [d] => { results := [.lit (.bool true)], args := [d] }
  | _ => none }
def codecTextUniqueRow : OpenClaim := { program := "ytldepghojmkohaa", sum := "21c2d95b557cebfd87880575fe4d998dec6c4c77065f5a0cffb530e36847fa47", func := "linkhouse/linkhouselaw1.CodecTextUnique", spec := "codecTextUnique", unfollowed := true, recurses := true, apart := false }
def CodecTextUniqueSaid : Prop := codecTextUniqueRow.holds Try.pinned (OpenSpec.ofChange codecTextUniqueSpec)

/-- ITS FALSE NEIGHBOUR: 'it returns false'. Refute it at one input. -/
def codecTextUniqueWrong : ChangeSpec := { name := "codecTextUnique", fn := fun _ => fun
  | [d] => { results := [.lit (.bool false)], args := [d] }
  | _ => none }
def CodecTextUniqueWrongFalsely : Prop := codecTextUniqueRow.holds Try.pinned (OpenSpec.ofChange codecTextUniqueWrong)

/-- 'linkhouselaw1.CodecPrefixFree': WHATEVER THE INPUT: true; the input reads as it did. -/
def codecPrefixFreeSpec : ChangeSpec := { name := "codecPrefixFree", fn := fun _ => fun
  | [d1, d2] => { results := [.lit (.bool true)], args := [d1, d2] }
  | _ => none }
def codecPrefixFreeRow : OpenClaim := { program := "ytldepghojmkohaa", sum := "21c2d95b557cebfd87880575fe4d998dec6c4c77065f5a0cffb530e36847fa47", func := "linkhouse/linkhouselaw1.CodecPrefixFree", spec := "codecPrefixFree", unfollowed := true, recurses := true, apart := false }
def CodecPrefixFreeSaid : Prop := codecPrefixFreeRow.holds Try.pinned (OpenSpec.ofChange codecPrefixFreeSpec)

/-- ITS FALSE NEIGHBOUR: 'it returns false'. Refute it at one input. -/
def codecPrefixFreeWrong : ChangeSpec := { name := "codecPrefixFree", fn := fun _ => fun
  | [d1, d2] => { results := [.lit (.bool false)], args := [d1, d2] }
  | _ => none }
def CodecPrefixFreeWrongFalsely : Prop := codecPrefixFreeRow.holds Try.pinned (OpenSpec.ofChange codecPrefixFreeWrong)

/- THE SECOND FORM. 'bulk': how many values and letters a reading holds, each counted each time it is reached (what is shared counts as often as it is met; a slice's spare places count too). A statement '..UptoSaid' is the law's where the arguments, and the package variables that the reading takes, are together of bulk at most 1048576: NARROWER than '..Said'. Prove '..Said' where nothing that the law and all that it calls make is longer than what came in: it says more and counts as full. Else prove '..UptoSaid'. A law counts once. -/
mutual
def uptoBulk {H : Type} : DataW H → Nat
  | .lit (.string bytes) => bytes.length + 1
  | .lit _ => 1
  | .nil => 1
  | .ptr d => uptoBulk d + 1
  | .slice elems spare => uptoBulkAll elems + uptoBulkAll spare + 1
  | .agg parts => uptoBulkAll parts + 1
  | .iface _ d => uptoBulk d + 1
  | .map entries => uptoBulkEntries entries + 1
  | .held _ => 1
def uptoBulkAll {H : Type} : List (DataW H) → Nat
  | [] => 0
  | d :: r => uptoBulk d + uptoBulkAll r
def uptoBulkEntries {H : Type} : List (Lit × DataW H) → Nat
  | [] => 0
  | x :: r => uptoBulkEntry x + uptoBulkEntries r
def uptoBulkEntry {H : Type} : Lit × DataW H → Nat
  | (.string bytes, d) => bytes.length + uptoBulk d + 1
  | (_, d) => uptoBulk d + 1
 end
def uptoSmall : (H : Type) → List (DataW H) → Bool := fun _ ds => decide (uptoBulkAll ds ≤ 1048576)
def OpenSpec.upto (s : _root_.Go.ChangeSpec) : _root_.Go.OpenSpec := { _root_.Go.OpenSpec.ofChange s with cond := some uptoSmall }

/-- 'linkhouselaw1.CodecPutMatchesSpec', WHERE WHAT IT READS IS OF BULK AT MOST 1048576: true; the input reads as it did. -/
def codecPutMatchesSpecUptoRow : OpenClaim := { program := "ytldepghojmkohaa", sum := "21c2d95b557cebfd87880575fe4d998dec6c4c77065f5a0cffb530e36847fa47", func := "linkhouse/linkhouselaw1.CodecPutMatchesSpec", spec := "codecPutMatchesSpec", unfollowed := true, recurses := true, apart := false, narrowed := true }
def CodecPutMatchesSpecUptoSaid : Prop := codecPutMatchesSpecUptoRow.holds Try.pinned (OpenSpec.upto codecPutMatchesSpecSpec)

/-- 'linkhouselaw1.CodecGetMatchesSpec', WHERE WHAT IT READS IS OF BULK AT MOST 1048576: true; the input reads as it did. -/
def codecGetMatchesSpecUptoRow : OpenClaim := { program := "ytldepghojmkohaa", sum := "21c2d95b557cebfd87880575fe4d998dec6c4c77065f5a0cffb530e36847fa47", func := "linkhouse/linkhouselaw1.CodecGetMatchesSpec", spec := "codecGetMatchesSpec", unfollowed := true, recurses := true, apart := false, narrowed := true }
def CodecGetMatchesSpecUptoSaid : Prop := codecGetMatchesSpecUptoRow.holds Try.pinned (OpenSpec.upto codecGetMatchesSpecSpec)

/-- 'linkhouselaw1.CodecRoundTrip', WHERE WHAT IT READS IS OF BULK AT MOST 1048576: true; the input reads as it did. -/
def codecRoundTripUptoRow : OpenClaim := { program := "ytldepghojmkohaa", sum := "21c2d95b557cebfd87880575fe4d998dec6c4c77065f5a0cffb530e36847fa47", func := "linkhouse/linkhouselaw1.CodecRoundTrip", spec := "codecRoundTrip", unfollowed := true, recurses := true, apart := false, narrowed := true }
def CodecRoundTripUptoSaid : Prop := codecRoundTripUptoRow.holds Try.pinned (OpenSpec.upto codecRoundTripSpec)

/-- 'linkhouselaw1.CodecTextUnique', WHERE WHAT IT READS IS OF BULK AT MOST 1048576: true; the input reads as it did. -/
def codecTextUniqueUptoRow : OpenClaim := { program := "ytldepghojmkohaa", sum := "21c2d95b557cebfd87880575fe4d998dec6c4c77065f5a0cffb530e36847fa47", func := "linkhouse/linkhouselaw1.CodecTextUnique", spec := "codecTextUnique", unfollowed := true, recurses := true, apart := false, narrowed := true }
def CodecTextUniqueUptoSaid : Prop := codecTextUniqueUptoRow.holds Try.pinned (OpenSpec.upto codecTextUniqueSpec)

/-- 'linkhouselaw1.CodecPrefixFree', WHERE WHAT IT READS IS OF BULK AT MOST 1048576: true; the input reads as it did. -/
def codecPrefixFreeUptoRow : OpenClaim := { program := "ytldepghojmkohaa", sum := "21c2d95b557cebfd87880575fe4d998dec6c4c77065f5a0cffb530e36847fa47", func := "linkhouse/linkhouselaw1.CodecPrefixFree", spec := "codecPrefixFree", unfollowed := true, recurses := true, apart := false, narrowed := true }
def CodecPrefixFreeUptoSaid : Prop := codecPrefixFreeUptoRow.holds Try.pinned (OpenSpec.upto codecPrefixFreeSpec)

end Rows
end Go.Proofs.Ytldepghojmkohaa
