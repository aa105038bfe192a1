/-
  No cell of these rows narrows 'for every input' (looked for: loops, veiled, ifaces, maps, wideKeys, modest, calm, conditions, laid).
  DERIVED. THE GIVEN ROWS OF THIS SEAT. 6 by the template 'for every input the law returns true; each argument reads behind the call as it read before'; 0 by the template 'total and deterministic' (their statements: YtkfelfcmpabjoaaTotals.lean).
  GIVEN WITH THE SEED: the statements are not yours to turn. If you find one false, say at which input.
  Laid BY PROGRAM, IN A SANDBOX (cutbox-rows.mjs): the forced cells as the released guide's own fill.sh prints them over the translation 5b8fe6ff886b3828… (all of the seat's roots in one cut). By AI agents, Wed Nov 11 2026. No macro, syntax, notation, axiom, sorry.
-/
import Derived.Test.YtkfelfcmpabjoaaChecked
import GoSem.Claim
import GoSem.ClaimJoined
import GoSem.ClaimMapViews
import Derived.JoinedTies
import Derived.KernelRfl
namespace Go.Proofs.Ytkfelfcmpabjoaa
/- THE CELL 'sum', in the pinned program and in every row, IS THE sha256 OF THE DUMP (.gsa) THAT YtkfelfcmpabjoaaProg.lean LOADS. Nothing in Lean hashes anything: it is a label: what it is worth is what the hold of that sum in a sandbox is worth. -/
noncomputable def Try.pinned : Pinned := { name := "ytkfelfcmpabjoaa", sum := "5b8fe6ff886b38287874fecd173ac697ffd964d2594b476d15e6e06a991e0277", checked := Try.checked }
namespace Rows
def none {H : Type} : Left H := { results := [], args := [] }

/-- 'tallymanlaw6.CutKnown': WHATEVER THE INPUT: true; the input reads as it did. -/
def cutKnownSpec : ChangeSpec := { name := "cutKnown", fn := fun _ => fun
  | [] => { results := [.lit (.bool true)], args := [] }
  | _ => none }
def cutKnownRow : OpenClaim := { program := "ytkfelfcmpabjoaa", sum := "5b8fe6ff886b38287874fecd173ac697ffd964d2594b476d15e6e06a991e0277", func := "tallyman/tallymanlaw6.CutKnown", spec := "cutKnown", apart := false }
def CutKnownSaid : Prop := cutKnownRow.holds Try.pinned (OpenSpec.ofChange cutKnownSpec)

/-- ITS FALSE NEIGHBOUR: 'it returns false'. Refute it at one input. -/
def cutKnownWrong : ChangeSpec := { name := "cutKnown", fn := fun _ => fun
  | [] => { results := [.lit (.bool false)], args := [] }
  | _ => none }
def CutKnownWrongFalsely : Prop := cutKnownRow.holds Try.pinned (OpenSpec.ofChange cutKnownWrong)

/-- 'tallymanlaw6.CutSays': WHATEVER THE INPUT: true; the input reads as it did. -/
def cutSaysSpec : ChangeSpec := { name := "cutSays", fn := fun _ => fun
  | [d1, d2] => { results := [.lit (.bool true)], args := [d1, d2] }
  | _ => none }
def cutSaysRow : OpenClaim := { program := "ytkfelfcmpabjoaa", sum := "5b8fe6ff886b38287874fecd173ac697ffd964d2594b476d15e6e06a991e0277", func := "tallyman/tallymanlaw6.CutSays", spec := "cutSays", apart := false }
def CutSaysSaid : Prop := cutSaysRow.holds Try.pinned (OpenSpec.ofChange cutSaysSpec)

/-- ITS FALSE NEIGHBOUR: 'it returns false'. Refute it at one input. -/
def cutSaysWrong : ChangeSpec := { name := "cutSays", fn := fun _ => fun
  | [d1, d2] => { results := [.lit (.bool false)], args := [d1, d2] }
  | _ => none }
def CutSaysWrongFalsely : Prop := cutSaysRow.holds Try.pinned (OpenSpec.ofChange cutSaysWrong)

/-- 'tallymanlaw6.CutPlain': WHATEVER THE INPUT: true; the input reads as it did. -/
def cutPlainSpec : ChangeSpec := { name := "cutPlain", fn := fun _ => fun
  | [d] => { results := [.lit (.bool true)], args := [d] }
  | _ => none }
def cutPlainRow : OpenClaim := { program := "ytkfelfcmpabjoaa", sum := "5b8fe6ff886b38287874fecd173ac697ffd964d2594b476d15e6e06a991e0277", func := "tallyman/tallymanlaw6.CutPlain", spec := "cutPlain", apart := false }
def CutPlainSaid : Prop := cutPlainRow.holds Try.pinned (OpenSpec.ofChange cutPlainSpec)

/-- ITS FALSE NEIGHBOUR: 'it returns false'. Refute it at one input. -/
def cutPlainWrong : ChangeSpec := { name := "cutPlain", fn := fun _ => fun
  | [d] => { results := [.lit (.bool false)], args := [d] }
  | _ => none }
def CutPlainWrongFalsely : Prop := cutPlainRow.holds Try.pinned (OpenSpec.ofChange cutPlainWrong)

/-- 'tallymanlaw6.CutAgain': WHATEVER THE INPUT: true; the input reads as it did. -/
def cutAgainSpec : ChangeSpec := { name := "cutAgain", fn := fun _ => fun
  | [d1, d2, d3, d4] => { results := [.lit (.bool true)], args := [d1, d2, d3, d4] }
  | _ => none }
def cutAgainRow : OpenClaim := { program := "ytkfelfcmpabjoaa", sum := "5b8fe6ff886b38287874fecd173ac697ffd964d2594b476d15e6e06a991e0277", func := "tallyman/tallymanlaw6.CutAgain", spec := "cutAgain", apart := false }
def CutAgainSaid : Prop := cutAgainRow.holds Try.pinned (OpenSpec.ofChange cutAgainSpec)

/-- ITS FALSE NEIGHBOUR: 'it returns false'. Refute it at one input. -/
def cutAgainWrong : ChangeSpec := { name := "cutAgain", fn := fun _ => fun
  | [d1, d2, d3, d4] => { results := [.lit (.bool false)], args := [d1, d2, d3, d4] }
  | _ => none }
def CutAgainWrongFalsely : Prop := cutAgainRow.holds Try.pinned (OpenSpec.ofChange cutAgainWrong)

/-- 'tallymanlaw6.CutLocal': WHATEVER THE INPUT: true; the input reads as it did. -/
def cutLocalSpec : ChangeSpec := { name := "cutLocal", fn := fun _ => fun
  | [d1, d2, d3] => { results := [.lit (.bool true)], args := [d1, d2, d3] }
  | _ => none }
def cutLocalRow : OpenClaim := { program := "ytkfelfcmpabjoaa", sum := "5b8fe6ff886b38287874fecd173ac697ffd964d2594b476d15e6e06a991e0277", func := "tallyman/tallymanlaw6.CutLocal", spec := "cutLocal", apart := false }
def CutLocalSaid : Prop := cutLocalRow.holds Try.pinned (OpenSpec.ofChange cutLocalSpec)

/-- ITS FALSE NEIGHBOUR: 'it returns false'. Refute it at one input. -/
def cutLocalWrong : ChangeSpec := { name := "cutLocal", fn := fun _ => fun
  | [d1, d2, d3] => { results := [.lit (.bool false)], args := [d1, d2, d3] }
  | _ => none }
def CutLocalWrongFalsely : Prop := cutLocalRow.holds Try.pinned (OpenSpec.ofChange cutLocalWrong)

/-- 'tallymanlaw6.CutFew': WHATEVER THE INPUT: true; the input reads as it did. -/
def cutFewSpec : ChangeSpec := { name := "cutFew", fn := fun _ => fun
  | [d1, d2] => { results := [.lit (.bool true)], args := [d1, d2] }
  | _ => none }
def cutFewRow : OpenClaim := { program := "ytkfelfcmpabjoaa", sum := "5b8fe6ff886b38287874fecd173ac697ffd964d2594b476d15e6e06a991e0277", func := "tallyman/tallymanlaw6.CutFew", spec := "cutFew", apart := false }
def CutFewSaid : Prop := cutFewRow.holds Try.pinned (OpenSpec.ofChange cutFewSpec)

/-- ITS FALSE NEIGHBOUR: 'it returns false'. Refute it at one input. -/
def cutFewWrong : ChangeSpec := { name := "cutFew", fn := fun _ => fun
  | [d1, d2] => { results := [.lit (.bool false)], args := [d1, d2] }
  | _ => none }
def CutFewWrongFalsely : Prop := cutFewRow.holds Try.pinned (OpenSpec.ofChange cutFewWrong)

/- THE SECOND FORM. 'bulk': how many values and letters a reading holds, each counted each time it is reached (what is shared counts as often as it is met; a slice's spare places count too). A statement '..UptoSaid' is the law's where the arguments, and the package variables that the reading takes, are together of bulk at most 1048576: NARROWER than '..Said'. Prove '..Said' where nothing that the law and all that it calls make is longer than what came in: it says more and counts as full. Else prove '..UptoSaid'. A law counts once. -/
mutual
def uptoBulk {H : Type} : DataW H → Nat
  | .lit (.string bytes) => bytes.length + 1
  | .lit _ => 1
  | .nil => 1
  | .ptr d => uptoBulk d + 1
  | .slice elems spare => uptoBulkAll elems + uptoBulkAll spare + 1
  | .agg parts => uptoBulkAll parts + 1
  | .iface _ d => uptoBulk d + 1
  | .map entries => uptoBulkEntries entries + 1
  | .held _ => 1
def uptoBulkAll {H : Type} : List (DataW H) → Nat
  | [] => 0
  | d :: r => uptoBulk d + uptoBulkAll r
def uptoBulkEntries {H : Type} : List (Lit × DataW H) → Nat
  | [] => 0
  | x :: r => uptoBulkEntry x + uptoBulkEntries r
def uptoBulkEntry {H : Type} : Lit × DataW H → Nat
  | (.string bytes, d) => bytes.length + uptoBulk d + 1
  | (_, d) => uptoBulk d + 1
 end
def uptoSmall : (H : Type) → List (DataW H) → Bool := fun _ ds => decide (uptoBulkAll ds ≤ 1048576)
def OpenSpec.upto (s : _root_.Go.ChangeSpec) : _root_.Go.OpenSpec := { _root_.Go.OpenSpec.ofChange s with cond := some uptoSmall }

/-- 'tallymanlaw6.CutKnown', WHERE WHAT IT READS IS OF BULK AT MOST 1048576: true; the input reads as it did. -/
def cutKnownUptoRow : OpenClaim := { program := "ytkfelfcmpabjoaa", sum := "5b8fe6ff886b38287874fecd173ac697ffd964d2594b476d15e6e06a991e0277", func := "tallyman/tallymanlaw6.CutKnown", spec := "cutKnown", apart := false, narrowed := true }
def CutKnownUptoSaid : Prop := cutKnownUptoRow.holds Try.pinned (OpenSpec.upto cutKnownSpec)

/-- 'tallymanlaw6.CutSays', WHERE WHAT IT READS IS OF BULK AT MOST 1048576: true; the input reads as it did. -/
def cutSaysUptoRow : OpenClaim := { program := "ytkfelfcmpabjoaa", sum := "5b8fe6ff886b38287874fecd173ac697ffd964d2594b476d15e6e06a991e0277", func := "tallyman/tallymanlaw6.CutSays", spec := "cutSays", apart := false, narrowed := true }
def CutSaysUptoSaid : Prop := cutSaysUptoRow.holds Try.pinned (OpenSpec.upto cutSaysSpec)

/-- 'tallymanlaw6.CutPlain', WHERE WHAT IT READS IS OF BULK AT MOST 1048576: true; the input reads as it did. -/
def cutPlainUptoRow : OpenClaim := { program := "ytkfelfcmpabjoaa", sum := "5b8fe6ff886b38287874fecd173ac697ffd964d2594b476d15e6e06a991e0277", func := "tallyman/tallymanlaw6.CutPlain", spec := "cutPlain", apart := false, narrowed := true }
def CutPlainUptoSaid : Prop := cutPlainUptoRow.holds Try.pinned (OpenSpec.upto cutPlainSpec)

/-- 'tallymanlaw6.CutAgain', WHERE WHAT IT READS IS OF BULK AT MOST 1048576: true; the input reads as it did. -/
def cutAgainUptoRow : OpenClaim := { program := "ytkfelfcmpabjoaa", sum := "5b8fe6ff886b38287874fecd173ac697ffd964d2594b476d15e6e06a991e0277", func := "tallyman/tallymanlaw6.CutAgain", spec := "cutAgain", apart := false, narrowed := true }
def CutAgainUptoSaid : Prop := cutAgainUptoRow.holds Try.pinned (OpenSpec.upto cutAgainSpec)

/-- 'tallymanlaw6.CutLocal', WHERE WHAT IT READS IS OF BULK AT MOST 1048576: true; the input reads as it did. -/
def cutLocalUptoRow : OpenClaim := { program := "ytkfelfcmpabjoaa", sum := "5b8fe6ff886b38287874fecd173ac697ffd964d2594b476d15e6e06a991e0277", func := "tallyman/tallymanlaw6.CutLocal", spec := "cutLocal", apart := false, narrowed := true }
def CutLocalUptoSaid : Prop := cutLocalUptoRow.holds Try.pinned (OpenSpec.upto cutLocalSpec)

/-- 'tallymanlaw6.CutFew', WHERE WHAT IT READS IS OF BULK AT MOST 1048576: true; the input reads as it did. -/
def cutFewUptoRow : OpenClaim := { program := "ytkfelfcmpabjoaa", sum := "5b8fe6ff886b38287874fecd173ac697ffd964d2594b476d15e6e06a991e0277", func := "tallyman/tallymanlaw6.CutFew", spec := "cutFew", apart := false, narrowed := true }
def CutFewUptoSaid : Prop := cutFewUptoRow.holds Try.pinned (OpenSpec.upto cutFewSpec)

end Rows
end Go.Proofs.Ytkfelfcmpabjoaa
