/-
  No cell of these rows narrows 'for every input' (looked for: loops, veiled, ifaces, maps, wideKeys, modest, calm, conditions, laid).
  DERIVED. THE GIVEN ROWS OF THIS SEAT. 3 by the template 'for every input the law returns true; each argument reads behind the call as it read before'; 0 by the template 'total and deterministic' (their statements: YtianmiipnlkihaaTotals.lean).
  GIVEN WITH THE SEED: the statements are not yours to turn. If you find one false, say at which input.
  Laid BY PROGRAM, IN A SANDBOX (cutbox-rows.mjs): the forced cells as the released guide's own fill.sh prints them over the translation feea63cc454a872b… (all of the seat's roots in one cut). By AI agents, Wed Nov 11 2026. No macro, syntax, notation, axiom, sorry.
-/
import Derived.Test.YtianmiipnlkihaaChecked
import GoSem.Claim
import GoSem.ClaimJoined
import GoSem.ClaimMapViews
import Derived.JoinedTies
import Derived.KernelRfl
namespace Go.Proofs.Ytianmiipnlkihaa
/- THE CELL 'sum', in the pinned program and in every row, IS THE sha256 OF THE DUMP (.gsa) THAT YtianmiipnlkihaaProg.lean LOADS. Nothing in Lean hashes anything: it is a label: what it is worth is what the hold of that sum in a sandbox is worth. -/
noncomputable def Try.pinned : Pinned := { name := "ytianmiipnlkihaa", sum := "feea63cc454a872bd22f81bea48d11c816eb80b9c691ed9d1a612cd48f90901d", checked := Try.checked }
namespace Rows
def none {H : Type} : Left H := { results := [], args := [] }

/-- 'linkhouselaw1.EncodeMatchesSpec': WHATEVER THE INPUT: true; the input reads as it did. -/
def encodeMatchesSpecSpec : ChangeSpec := { name := "encodeMatchesSpec", fn := fun _ => fun
  | [d1, d2] => { results := [.lit (.bool true)], args := [d1, d2] }
  | _ => none }
def encodeMatchesSpecRow : OpenClaim := { program := "ytianmiipnlkihaa", sum := "feea63cc454a872bd22f81bea48d11c816eb80b9c691ed9d1a612cd48f90901d", func := "linkhouse/linkhouselaw1.EncodeMatchesSpec", spec := "encodeMatchesSpec", unfollowed := true, recurses := true, apart := false }
def EncodeMatchesSpecSaid : Prop := encodeMatchesSpecRow.holds Try.pinned (OpenSpec.ofChange encodeMatchesSpecSpec)

/-- ITS FALSE NEIGHBOUR: 'it returns false'. Refute it at one input. -/
def encodeMatchesSpecWrong : ChangeSpec := { name := "encodeMatchesSpec", fn := fun _ => fun
  | [d1, d2] => { results := [.lit (.bool false)], args := [d1, d2] }
  | _ => none }
def EncodeMatchesSpecWrongFalsely : Prop := encodeMatchesSpecRow.holds Try.pinned (OpenSpec.ofChange encodeMatchesSpecWrong)

/-- 'linkhouselaw1.DecodeMatchesSpec': WHATEVER THE INPUT: true; the input reads as it did. -/
def decodeMatchesSpecSpec : ChangeSpec := { name := "decodeMatchesSpec", fn := fun _ => fun
  | [d1, d2, d3] => { results := [.lit (.bool true)], args := [d1, d2, d3] }
  | _ => none }
def decodeMatchesSpecRow : OpenClaim := { program := "ytianmiipnlkihaa", sum := "feea63cc454a872bd22f81bea48d11c816eb80b9c691ed9d1a612cd48f90901d", func := "linkhouse/linkhouselaw1.DecodeMatchesSpec", spec := "decodeMatchesSpec", unfollowed := true, recurses := true, apart := false }
def DecodeMatchesSpecSaid : Prop := decodeMatchesSpecRow.holds Try.pinned (OpenSpec.ofChange decodeMatchesSpecSpec)

/-- ITS FALSE NEIGHBOUR: 'it returns false'. Refute it at one input. -/
def decodeMatchesSpecWrong : ChangeSpec := { name := "decodeMatchesSpec", fn := fun _ => fun
  | [d1, d2, d3] => { results := [.lit (.bool false)], args := [d1, d2, d3] }
  | _ => none }
def DecodeMatchesSpecWrongFalsely : Prop := decodeMatchesSpecRow.holds Try.pinned (OpenSpec.ofChange decodeMatchesSpecWrong)

/-- 'linkhouselaw1.PatchMatchesSpec': WHATEVER THE INPUT: true; the input reads as it did. -/
def patchMatchesSpecSpec : ChangeSpec := { name := "patchMatchesSpec", fn := fun _ => fun
  | [d1, d2, d3, d4, d5] => { results := [.lit (.bool true)], args := [d1, d2, d3, d4, d5] }
  | _ => none }
def patchMatchesSpecRow : OpenClaim := { program := "ytianmiipnlkihaa", sum := "feea63cc454a872bd22f81bea48d11c816eb80b9c691ed9d1a612cd48f90901d", func := "linkhouse/linkhouselaw1.PatchMatchesSpec", spec := "patchMatchesSpec", unfollowed := true, recurses := true, apart := false }
def PatchMatchesSpecSaid : Prop := patchMatchesSpecRow.holds Try.pinned (OpenSpec.ofChange patchMatchesSpecSpec)

/-- ITS FALSE NEIGHBOUR: 'it returns false'. Refute it at one input. -/
def patchMatchesSpecWrong : ChangeSpec := { name := "patchMatchesSpec", fn := fun _ => fun
  | [d1, d2, d3, d4, d5] => { results := [.lit (.bool false)], args := [d1, d2, d3, d4, d5] }
  | _ => none }
def PatchMatchesSpecWrongFalsely : Prop := patchMatchesSpecRow.holds Try.pinned (OpenSpec.ofChange patchMatchesSpecWrong)

/- THE SECOND FORM. 'bulk': how many values and letters a reading holds, each counted each time it is reached (what is shared counts as often as it is met; a slice's spare places count too). A statement '..UptoSaid' is the law's where the arguments, and the package variables that the reading takes, are together of bulk at most 1048576: NARROWER than '..Said'. Prove '..Said' where nothing that the law and all that it calls make is longer than what came in: it says more and counts as full. Else prove '..UptoSaid'. A law counts once. -/
mutual
def uptoBulk {H : Type} : DataW H → Nat
  | .lit (.string bytes) => bytes.length + 1
  | .lit _ => 1
  | .nil => 1
  | .ptr d => uptoBulk d + 1
  | .slice elems spare => uptoBulkAll elems + uptoBulkAll spare + 1
  | .agg parts => uptoBulkAll parts + 1
  | .iface _ d => uptoBulk d + 1
  | .map entries => uptoBulkEntries entries + 1
  | .held _ => 1
def uptoBulkAll {H : Type} : List (DataW H) → Nat
  | [] => 0
  | d :: r => uptoBulk d + uptoBulkAll r
def uptoBulkEntries {H : Type} : List (Lit × DataW H) → Nat
  | [] => 0
  | x :: r => uptoBulkEntry x + uptoBulkEntries r
def uptoBulkEntry {H : Type} : Lit × DataW H → Nat
  | (.string bytes, d) => bytes.length + uptoBulk d + 1
  | (_, d) => uptoBulk d + 1
 end
def uptoSmall : (H : Type) → List (DataW H) → Bool := fun _ ds => decide (uptoBulkAll ds ≤ 1048576)
def OpenSpec.upto (s : _root_.Go.ChangeSpec) : _root_.Go.OpenSpec := { _root_.Go.OpenSpec.ofChange s with cond := some uptoSmall }

/-- 'linkhouselaw1.EncodeMatchesSpec', WHERE WHAT IT READS IS OF BULK AT MOST 1048576: true; the input reads as it did. -/
def encodeMatchesSpecUptoRow : OpenClaim := { program := "ytianmiipnlkihaa", sum := "feea63cc454a872bd22f81bea48d11c816eb80b9c691ed9d1a612cd48f90901d", func := "linkhouse/linkhouselaw1.EncodeMatchesSpec", spec := "encodeMatchesSpec", unfollowed := true, recurses := true, apart := false, narrowed := true }
def EncodeMatchesSpecUptoSaid : Prop := encodeMatchesSpecUptoRow.holds Try.pinned (OpenSpec.upto encodeMatchesSpecSpec)

/-- 'linkhouselaw1.DecodeMatchesSpec', WHERE WHAT IT READS IS OF BULK AT MOST 1048576: true; the input reads as it did. -/
def decodeMatchesSpecUptoRow : OpenClaim := { program := "ytianmiipnlkihaa", sum := "feea63cc454a872bd22f81bea48d11c816eb80b9c691ed9d1a612cd48f90901d", func := "linkhouse/linkhouselaw1.DecodeMatchesSpec", spec := "decodeMatchesSpec", unfollowed := true, recurses := true, apart := false, narrowed := true }
def DecodeMatchesSpecUptoSaid : Prop := decodeMatchesSpecUptoRow.holds Try.pinned (OpenSpec.upto decodeMatchesSpecSpec)

/-- 'linkhouselaw1.PatchMatchesSpec', WHERE WHAT IT READS IS OF BULK AT MOST 1048576: true; the input reads as it did. -/
def patchMatchesSpecUptoRow : OpenClaim := { program := "ytianmiipnlkihaa", sum := "feea63cc454a872bd22f81bea48d11c816eb80b9c691ed9d1a612cd48f90901d", func := "linkhouse/linkhouselaw1.PatchMatchesSpec", spec := "patchMatchesSpec", unfollowed := true, recurses := true, apart := false, narrowed := true }
def PatchMatchesSpecUptoSaid : Prop := patchMatchesSpecUptoRow.holds Try.pinned (OpenSpec.upto patchMatchesSpecSpec)

end Rows
end Go.Proofs.Ytianmiipnlkihaa
