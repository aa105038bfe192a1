/-
  NARROWER THAN 'FOR EVERY INPUT', by the rows' own cells (each row's printed sentence says how): CauseSame: laid · CauseUnwraps: laid · PolyKnown: laid · PolySays: laid.
  DERIVED. THE GIVEN ROWS OF THIS SEAT. 4 by the template 'for every input the law returns true; each argument reads behind the call as it read before'; 0 by the template 'total and deterministic' (their statements: YtpfckamobjcdhabDoorTotals.lean).
  GIVEN WITH THE SEED: the statements are not yours to turn. If you find one false, say at which input.
  Laid BY PROGRAM, IN A SANDBOX (cutbox-rows.mjs): the forced cells as the released guide's own fill.sh prints them over the translation 6f1d53471b9d939c… (all of the seat's roots in one cut). By AI agents, Wed Nov 11 2026. No macro, syntax, notation, axiom, sorry.
-/
import Derived.Test.YtpfckamobjcdhabDoorChecked
import GoSem.Claim
import GoSem.ClaimJoined
import GoSem.ClaimMapViews
import Derived.JoinedTies
import Derived.KernelRfl
namespace Go.Proofs.YtpfckamobjcdhabDoor
/- THE CELL 'sum', in the pinned program and in every row, IS THE sha256 OF THE DUMP (.gsa) THAT YtpfckamobjcdhabDoorProg.lean LOADS. Nothing in Lean hashes anything: it is a label: what it is worth is what the hold of that sum in a sandbox is worth. -/
noncomputable def Tryd.pinned : Pinned := { name := "ytpfckamobjcdhabdoor", sum := "6f1d53471b9d939c18a61a4de4f867a1a200795dd3dd5938f164993303470a5f", checked := Tryd.checked }
namespace Rows
def none {H : Type} : Left H := { results := [], args := [] }

/- WHAT THE LISTED PACKAGE-LEVEL VARIABLES READ AS WHEN THE CALL BEGINS. Each datum BY PROGRAM (the guide's laid-datum.mjs) off the statement by which the dump's own 'gosem.cut.vars' lays the variable. In a bare row this is a premise. The card (YtpfckamobjcdhabDoorCards.lean) ties it to the program's text. -/
def laid_errors_errorType {H : Type} : DataW H := .iface "internal/reflectlite.rtype" (.agg [.ptr (.lit (.string [101, 114, 114, 111, 114]))])
def laid_tallyman_cause_Stages {H : Type} : DataW H := .slice [.lit (.string [108, 105, 110, 107]), .lit (.string [104, 101, 108, 108, 111]), .lit (.string [114, 101, 99, 111, 110]), .lit (.string [102, 101, 116, 99, 104]), .lit (.string [119, 114, 105, 116, 101]), .lit (.string [99, 104, 101, 99, 107])] []
def laid_tallyman_poly_rests {H : Type} : DataW H := .agg [.lit (.int .u32 0), .lit (.int .u32 498536548), .lit (.int .u32 997073096), .lit (.int .u32 651767980), .lit (.int .u32 1994146192), .lit (.int .u32 1802195444), .lit (.int .u32 1303535960), .lit (.int .u32 1342533948), .lit (.int .u32 3988292384), .lit (.int .u32 4027552580), .lit (.int .u32 3604390888), .lit (.int .u32 3412177804), .lit (.int .u32 2607071920), .lit (.int .u32 2262029012), .lit (.int .u32 2685067896), .lit (.int .u32 3183342108)]

/-- 'tallymanlaw2.CauseSame': WHATEVER THE INPUT: true; the input reads as it did. -/
def causeSameSpec : ChangeSpec := { name := "causeSame", fn := fun _ => fun
  | [d1, d2, d3, d4, d5] => { results := [.lit (.bool true)], args := [d1, d2, d3, d4, d5] }
  | _ => none }
def causeSameRow : OpenClaim := { program := "ytpfckamobjcdhabdoor", sum := "6f1d53471b9d939c18a61a4de4f867a1a200795dd3dd5938f164993303470a5f", func := "tallyman/tallymanlaw2.CauseSame", spec := "causeSame", inPlace := ["internal/reflectlite.ValueOf", "(internal/reflectlite.Value).Type", "(internal/reflectlite.Value).IsNil", "internal/reflectlite.TypeOf", "(internal/reflectlite.Value).Elem", "(internal/reflectlite.Value).Set"], unfollowed := true, recurses := true, named := ["tallyman/cause.Stages", "errors.errorType"], apart := false, laid := [("errors.errorType", laid_errors_errorType), ("tallyman/cause.Stages", laid_tallyman_cause_Stages)] }
def CauseSameSaid : Prop := causeSameRow.holds Tryd.pinned (OpenSpec.ofChange causeSameSpec)

/-- ITS FALSE NEIGHBOUR: 'it returns false'. Refute it at one input. -/
def causeSameWrong : ChangeSpec := { name := "causeSame", fn := fun _ => fun
  | [d1, d2, d3, d4, d5] => { results := [.lit (.bool false)], args := [d1, d2, d3, d4, d5] }
  | _ => none }
def CauseSameWrongFalsely : Prop := causeSameRow.holds Tryd.pinned (OpenSpec.ofChange causeSameWrong)

/-- 'tallymanlaw2.CauseUnwraps': WHATEVER THE INPUT: true; the input reads as it did. -/
def causeUnwrapsSpec : ChangeSpec := { name := "causeUnwraps", fn := fun _ => fun
  | [d1, d2, d3] => { results := [.lit (.bool true)], args := [d1, d2, d3] }
  | _ => none }
def causeUnwrapsRow : OpenClaim := { program := "ytpfckamobjcdhabdoor", sum := "6f1d53471b9d939c18a61a4de4f867a1a200795dd3dd5938f164993303470a5f", func := "tallyman/tallymanlaw2.CauseUnwraps", spec := "causeUnwraps", inPlace := ["internal/reflectlite.ValueOf", "(internal/reflectlite.Value).Type", "(internal/reflectlite.Value).IsNil", "internal/reflectlite.TypeOf", "(internal/reflectlite.Value).Elem", "(internal/reflectlite.Value).Set"], unfollowed := true, recurses := true, named := ["tallyman/cause.Stages", "errors.errorType"], apart := false, laid := [("errors.errorType", laid_errors_errorType), ("tallyman/cause.Stages", laid_tallyman_cause_Stages)] }
def CauseUnwrapsSaid : Prop := causeUnwrapsRow.holds Tryd.pinned (OpenSpec.ofChange causeUnwrapsSpec)

/-- ITS FALSE NEIGHBOUR: 'it returns false'. Refute it at one input. -/
def causeUnwrapsWrong : ChangeSpec := { name := "causeUnwraps", fn := fun _ => fun
  | [d1, d2, d3] => { results := [.lit (.bool false)], args := [d1, d2, d3] }
  | _ => none }
def CauseUnwrapsWrongFalsely : Prop := causeUnwrapsRow.holds Tryd.pinned (OpenSpec.ofChange causeUnwrapsWrong)

/-- 'tallymanlaw3.PolyKnown': WHATEVER THE INPUT: true; the input reads as it did. -/
def polyKnownSpec : ChangeSpec := { name := "polyKnown", fn := fun _ => fun
  | [] => { results := [.lit (.bool true)], args := [] }
  | _ => none }
def polyKnownRow : OpenClaim := { program := "ytpfckamobjcdhabdoor", sum := "6f1d53471b9d939c18a61a4de4f867a1a200795dd3dd5938f164993303470a5f", func := "tallyman/tallymanlaw3.PolyKnown", spec := "polyKnown", named := ["tallyman/poly.rests"], apart := false, laid := [("tallyman/poly.rests", laid_tallyman_poly_rests)] }
def PolyKnownSaid : Prop := polyKnownRow.holds Tryd.pinned (OpenSpec.ofChange polyKnownSpec)

/-- ITS FALSE NEIGHBOUR: 'it returns false'. Refute it at one input. -/
def polyKnownWrong : ChangeSpec := { name := "polyKnown", fn := fun _ => fun
  | [] => { results := [.lit (.bool false)], args := [] }
  | _ => none }
def PolyKnownWrongFalsely : Prop := polyKnownRow.holds Tryd.pinned (OpenSpec.ofChange polyKnownWrong)

/-- 'tallymanlaw3.PolySays': WHATEVER THE INPUT: true; the input reads as it did. -/
def polySaysSpec : ChangeSpec := { name := "polySays", fn := fun _ => fun
  | [d1, d2, d3, d4] => { results := [.lit (.bool true)], args := [d1, d2, d3, d4] }
  | _ => none }
def polySaysRow : OpenClaim := { program := "ytpfckamobjcdhabdoor", sum := "6f1d53471b9d939c18a61a4de4f867a1a200795dd3dd5938f164993303470a5f", func := "tallyman/tallymanlaw3.PolySays", spec := "polySays", named := ["tallyman/poly.rests"], apart := false, laid := [("tallyman/poly.rests", laid_tallyman_poly_rests)] }
def PolySaysSaid : Prop := polySaysRow.holds Tryd.pinned (OpenSpec.ofChange polySaysSpec)

/-- ITS FALSE NEIGHBOUR: 'it returns false'. Refute it at one input. -/
def polySaysWrong : ChangeSpec := { name := "polySays", fn := fun _ => fun
  | [d1, d2, d3, d4] => { results := [.lit (.bool false)], args := [d1, d2, d3, d4] }
  | _ => none }
def PolySaysWrongFalsely : Prop := polySaysRow.holds Tryd.pinned (OpenSpec.ofChange polySaysWrong)

/- THE SECOND FORM. 'bulk': how many values and letters a reading holds, each counted each time it is reached (what is shared counts as often as it is met; a slice's spare places count too). A statement '..UptoSaid' is the law's where the arguments, and the package variables that the reading takes, are together of bulk at most 1048576: NARROWER than '..Said'. Prove '..Said' where nothing that the law and all that it calls make is longer than what came in: it says more and counts as full. Else prove '..UptoSaid'. A law counts once. -/
mutual
def uptoBulk {H : Type} : DataW H → Nat
  | .lit (.string bytes) => bytes.length + 1
  | .lit _ => 1
  | .nil => 1
  | .ptr d => uptoBulk d + 1
  | .slice elems spare => uptoBulkAll elems + uptoBulkAll spare + 1
  | .agg parts => uptoBulkAll parts + 1
  | .iface _ d => uptoBulk d + 1
  | .map entries => uptoBulkEntries entries + 1
  | .held _ => 1
def uptoBulkAll {H : Type} : List (DataW H) → Nat
  | [] => 0
  | d :: r => uptoBulk d + uptoBulkAll r
def uptoBulkEntries {H : Type} : List (Lit × DataW H) → Nat
  | [] => 0
  | x :: r => uptoBulkEntry x + uptoBulkEntries r
def uptoBulkEntry {H : Type} : Lit × DataW H → Nat
  | (.string bytes, d) => bytes.length + uptoBulk d + 1
  | (_, d) => uptoBulk d + 1
 end
def uptoSmall : (H : Type) → List (DataW H) → Bool := fun _ ds => decide (uptoBulkAll ds ≤ 1048576)
def OpenSpec.upto (s : _root_.Go.ChangeSpec) : _root_.Go.OpenSpec := { _root_.Go.OpenSpec.ofChange s with cond := some uptoSmall }

/-- 'tallymanlaw2.CauseSame', WHERE WHAT IT READS IS OF BULK AT MOST 1048576: true; the input reads as it did. -/
def causeSameUptoRow : OpenClaim := { program := "ytpfckamobjcdhabdoor", sum := "6f1d53471b9d939c18a61a4de4f867a1a200795dd3dd5938f164993303470a5f", func := "tallyman/tallymanlaw2.CauseSame", spec := "causeSame", inPlace := ["internal/reflectlite.ValueOf", "(internal/reflectlite.Value).Type", "(internal/reflectlite.Value).IsNil", "internal/reflectlite.TypeOf", "(internal/reflectlite.Value).Elem", "(internal/reflectlite.Value).Set"], unfollowed := true, recurses := true, named := ["tallyman/cause.Stages", "errors.errorType"], apart := false, laid := [("errors.errorType", laid_errors_errorType), ("tallyman/cause.Stages", laid_tallyman_cause_Stages)], narrowed := true }
def CauseSameUptoSaid : Prop := causeSameUptoRow.holds Tryd.pinned (OpenSpec.upto causeSameSpec)

/-- 'tallymanlaw2.CauseUnwraps', WHERE WHAT IT READS IS OF BULK AT MOST 1048576: true; the input reads as it did. -/
def causeUnwrapsUptoRow : OpenClaim := { program := "ytpfckamobjcdhabdoor", sum := "6f1d53471b9d939c18a61a4de4f867a1a200795dd3dd5938f164993303470a5f", func := "tallyman/tallymanlaw2.CauseUnwraps", spec := "causeUnwraps", inPlace := ["internal/reflectlite.ValueOf", "(internal/reflectlite.Value).Type", "(internal/reflectlite.Value).IsNil", "internal/reflectlite.TypeOf", "(internal/reflectlite.Value).Elem", "(internal/reflectlite.Value).Set"], unfollowed := true, recurses := true, named := ["tallyman/cause.Stages", "errors.errorType"], apart := false, laid := [("errors.errorType", laid_errors_errorType), ("tallyman/cause.Stages", laid_tallyman_cause_Stages)], narrowed := true }
def CauseUnwrapsUptoSaid : Prop := causeUnwrapsUptoRow.holds Tryd.pinned (OpenSpec.upto causeUnwrapsSpec)

/-- 'tallymanlaw3.PolyKnown', WHERE WHAT IT READS IS OF BULK AT MOST 1048576: true; the input reads as it did. -/
def polyKnownUptoRow : OpenClaim := { program := "ytpfckamobjcdhabdoor", sum := "6f1d53471b9d939c18a61a4de4f867a1a200795dd3dd5938f164993303470a5f", func := "tallyman/tallymanlaw3.PolyKnown", spec := "polyKnown", named := ["tallyman/poly.rests"], apart := false, laid := [("tallyman/poly.rests", laid_tallyman_poly_rests)], narrowed := true }
def PolyKnownUptoSaid : Prop := polyKnownUptoRow.holds Tryd.pinned (OpenSpec.upto polyKnownSpec)

/-- 'tallymanlaw3.PolySays', WHERE WHAT IT READS IS OF BULK AT MOST 1048576: true; the input reads as it did. -/
def polySaysUptoRow : OpenClaim := { program := "ytpfckamobjcdhabdoor", sum := "6f1d53471b9d939c18a61a4de4f867a1a200795dd3dd5938f164993303470a5f", func := "tallyman/tallymanlaw3.PolySays", spec := "polySays", named := ["tallyman/poly.rests"], apart := false, laid := [("tallyman/poly.rests", laid_tallyman_poly_rests)], narrowed := true }
def PolySaysUptoSaid : Prop := polySaysUptoRow.holds Tryd.pinned (OpenSpec.upto polySaysSpec)

end Rows
end Go.Proofs.YtpfckamobjcdhabDoor
