/-
  No cell of these rows narrows 'for every input' (looked for: loops, veiled, ifaces, maps, wideKeys, modest, calm, conditions, laid).
  DERIVED. THE GIVEN ROWS OF THIS SEAT. 5 by the template 'for every input the law returns true; each argument reads behind the call as it read before'; 0 by the template 'total and deterministic' (their statements: YtaeoaaajkcnbkaaTotals.lean).
  GIVEN WITH THE SEED: the statements are not yours to turn. If you find one false, say at which input.
  Laid BY PROGRAM, IN A SANDBOX (cutbox-rows.mjs): the forced cells as the released guide's own fill.sh prints them over the translation 54c3374ff7728378… (all of the seat's roots in one cut). By AI agents, Wed Nov 11 2026. No macro, syntax, notation, axiom, sorry.
-/
import Derived.Test.YtaeoaaajkcnbkaaChecked
import GoSem.Claim
import GoSem.ClaimJoined
import GoSem.ClaimMapViews
import Derived.JoinedTies
import Derived.KernelRfl
namespace Go.Proofs.Ytaeoaaajkcnbkaa
/- THE CELL 'sum', in the pinned program and in every row, IS THE sha256 OF THE DUMP (.gsa) THAT YtaeoaaajkcnbkaaProg.lean LOADS. Nothing in Lean hashes anything: it is a label: what it is worth is what the hold of that sum in a sandbox is worth. -/
noncomputable def Try.pinned : Pinned := { name := "ytaeoaaajkcnbkaa", sum := "54c3374ff77283789c690ab2987b24139259fee4b6c07b18d066e97f98ec4a5e", checked := Try.checked }
namespace Rows
def none {H : Type} : Left H := { results := [], args := [] }

/-- 'tallymanlaw5.RollKnown': WHATEVER THE INPUT: true; the input reads as it did. -/
def rollKnownSpec : ChangeSpec := { name := "rollKnown", fn := fun _ => fun
  | [] => { results := [.lit (.bool true)], args := [] }
  | _ => none }
def rollKnownRow : OpenClaim := { program := "ytaeoaaajkcnbkaa", sum := "54c3374ff77283789c690ab2987b24139259fee4b6c07b18d066e97f98ec4a5e", func := "tallyman/tallymanlaw5.RollKnown", spec := "rollKnown", apart := false }
def RollKnownSaid : Prop := rollKnownRow.holds Try.pinned (OpenSpec.ofChange rollKnownSpec)

/-- ITS FALSE NEIGHBOUR: 'it returns false'. Refute it at one input. -/
def rollKnownWrong : ChangeSpec := { name := "rollKnown", fn := fun _ => fun
  | [] => { results := [.lit (.bool false)], args := [] }
  | _ => none }
def RollKnownWrongFalsely : Prop := rollKnownRow.holds Try.pinned (OpenSpec.ofChange rollKnownWrong)

/-- 'tallymanlaw5.RollSays': WHATEVER THE INPUT: true; the input reads as it did. -/
def rollSaysSpec : ChangeSpec := { name := "rollSays", fn := fun _ => fun
  | [d1, d2] => { results := [.lit (.bool true)], args := [d1, d2] }
  | _ => none }
def rollSaysRow : OpenClaim := { program := "ytaeoaaajkcnbkaa", sum := "54c3374ff77283789c690ab2987b24139259fee4b6c07b18d066e97f98ec4a5e", func := "tallyman/tallymanlaw5.RollSays", spec := "rollSays", apart := false }
def RollSaysSaid : Prop := rollSaysRow.holds Try.pinned (OpenSpec.ofChange rollSaysSpec)

/-- ITS FALSE NEIGHBOUR: 'it returns false'. Refute it at one input. -/
def rollSaysWrong : ChangeSpec := { name := "rollSays", fn := fun _ => fun
  | [d1, d2] => { results := [.lit (.bool false)], args := [d1, d2] }
  | _ => none }
def RollSaysWrongFalsely : Prop := rollSaysRow.holds Try.pinned (OpenSpec.ofChange rollSaysWrong)

/-- 'tallymanlaw5.RollSlides': WHATEVER THE INPUT: true; the input reads as it did. -/
def rollSlidesSpec : ChangeSpec := { name := "rollSlides", fn := fun _ => fun
  | [d1, d2, d3, d4, d5] => { results := [.lit (.bool true)], args := [d1, d2, d3, d4, d5] }
  | _ => none }
def rollSlidesRow : OpenClaim := { program := "ytaeoaaajkcnbkaa", sum := "54c3374ff77283789c690ab2987b24139259fee4b6c07b18d066e97f98ec4a5e", func := "tallyman/tallymanlaw5.RollSlides", spec := "rollSlides", apart := false }
def RollSlidesSaid : Prop := rollSlidesRow.holds Try.pinned (OpenSpec.ofChange rollSlidesSpec)

/-- ITS FALSE NEIGHBOUR: 'it returns false'. Refute it at one input. -/
def rollSlidesWrong : ChangeSpec := { name := "rollSlides", fn := fun _ => fun
  | [d1, d2, d3, d4, d5] => { results := [.lit (.bool false)], args := [d1, d2, d3, d4, d5] }
  | _ => none }
def RollSlidesWrongFalsely : Prop := rollSlidesRow.holds Try.pinned (OpenSpec.ofChange rollSlidesWrong)

/-- 'tallymanlaw5.RollReset': WHATEVER THE INPUT: true; the input reads as it did. -/
def rollResetSpec : ChangeSpec := { name := "rollReset", fn := fun _ => fun
  | [d1, d2, d3] => { results := [.lit (.bool true)], args := [d1, d2, d3] }
  | _ => none }
def rollResetRow : OpenClaim := { program := "ytaeoaaajkcnbkaa", sum := "54c3374ff77283789c690ab2987b24139259fee4b6c07b18d066e97f98ec4a5e", func := "tallyman/tallymanlaw5.RollReset", spec := "rollReset", apart := false }
def RollResetSaid : Prop := rollResetRow.holds Try.pinned (OpenSpec.ofChange rollResetSpec)

/-- ITS FALSE NEIGHBOUR: 'it returns false'. Refute it at one input. -/
def rollResetWrong : ChangeSpec := { name := "rollReset", fn := fun _ => fun
  | [d1, d2, d3] => { results := [.lit (.bool false)], args := [d1, d2, d3] }
  | _ => none }
def RollResetWrongFalsely : Prop := rollResetRow.holds Try.pinned (OpenSpec.ofChange rollResetWrong)

/-- 'tallymanlaw5.RollApart': WHATEVER THE INPUT: true; the input reads as it did. -/
def rollApartSpec : ChangeSpec := { name := "rollApart", fn := fun _ => fun
  | [d1, d2, d3] => { results := [.lit (.bool true)], args := [d1, d2, d3] }
  | _ => none }
def rollApartRow : OpenClaim := { program := "ytaeoaaajkcnbkaa", sum := "54c3374ff77283789c690ab2987b24139259fee4b6c07b18d066e97f98ec4a5e", func := "tallyman/tallymanlaw5.RollApart", spec := "rollApart", apart := false }
def RollApartSaid : Prop := rollApartRow.holds Try.pinned (OpenSpec.ofChange rollApartSpec)

/-- ITS FALSE NEIGHBOUR: 'it returns false'. Refute it at one input. -/
def rollApartWrong : ChangeSpec := { name := "rollApart", fn := fun _ => fun
  | [d1, d2, d3] => { results := [.lit (.bool false)], args := [d1, d2, d3] }
  | _ => none }
def RollApartWrongFalsely : Prop := rollApartRow.holds Try.pinned (OpenSpec.ofChange rollApartWrong)

/- THE SECOND FORM. 'bulk': how many values and letters a reading holds, each counted each time it is reached (what is shared counts as often as it is met; a slice's spare places count too). A statement '..UptoSaid' is the law's where the arguments, and the package variables that the reading takes, are together of bulk at most 1048576: NARROWER than '..Said'. Prove '..Said' where nothing that the law and all that it calls make is longer than what came in: it says more and counts as full. Else prove '..UptoSaid'. A law counts once. -/
mutual
def uptoBulk {H : Type} : DataW H → Nat
  | .lit (.string bytes) => bytes.length + 1
  | .lit _ => 1
  | .nil => 1
  | .ptr d => uptoBulk d + 1
  | .slice elems spare => uptoBulkAll elems + uptoBulkAll spare + 1
  | .agg parts => uptoBulkAll parts + 1
  | .iface _ d => uptoBulk d + 1
  | .map entries => uptoBulkEntries entries + 1
  | .held _ => 1
def uptoBulkAll {H : Type} : List (DataW H) → Nat
  | [] => 0
  | d :: r => uptoBulk d + uptoBulkAll r
def uptoBulkEntries {H : Type} : List (Lit × DataW H) → Nat
  | [] => 0
  | x :: r => uptoBulkEntry x + uptoBulkEntries r
def uptoBulkEntry {H : Type} : Lit × DataW H → Nat
  | (.string bytes, d) => bytes.length + uptoBulk d + 1
  | (_, d) => uptoBulk d + 1
 end
def uptoSmall : (H : Type) → List (DataW H) → Bool := fun _ ds => decide (uptoBulkAll ds ≤ 1048576)
def OpenSpec.upto (s : _root_.Go.ChangeSpec) : _root_.Go.OpenSpec := { _root_.Go.OpenSpec.ofChange s with cond := some uptoSmall }

/-- 'tallymanlaw5.RollKnown', WHERE WHAT IT READS IS OF BULK AT MOST 1048576: true; the input reads as it did. -/
def rollKnownUptoRow : OpenClaim := { program := "ytaeoaaajkcnbkaa", sum := "54c3374ff77283789c690ab2987b24139259fee4b6c07b18d066e97f98ec4a5e", func := "tallyman/tallymanlaw5.RollKnown", spec := "rollKnown", apart := false, narrowed := true }
def RollKnownUptoSaid : Prop := rollKnownUptoRow.holds Try.pinned (OpenSpec.upto rollKnownSpec)

/-- 'tallymanlaw5.RollSays', WHERE WHAT IT READS IS OF BULK AT MOST 1048576: true; the input reads as it did. -/
def rollSaysUptoRow : OpenClaim := { program := "ytaeoaaajkcnbkaa", sum := "54c3374ff77283789c690ab2987b24139259fee4b6c07b18d066e97f98ec4a5e", func := "tallyman/tallymanlaw5.RollSays", spec := "rollSays", apart := false, narrowed := true }
def RollSaysUptoSaid : Prop := rollSaysUptoRow.holds Try.pinned (OpenSpec.upto rollSaysSpec)

/-- 'tallymanlaw5.RollSlides', WHERE WHAT IT READS IS OF BULK AT MOST 1048576: true; the input reads as it did. -/
def rollSlidesUptoRow : OpenClaim := { program := "ytaeoaaajkcnbkaa", sum := "54c3374ff77283789c690ab2987b24139259fee4b6c07b18d066e97f98ec4a5e", func := "tallyman/tallymanlaw5.RollSlides", spec := "rollSlides", apart := false, narrowed := true }
def RollSlidesUptoSaid : Prop := rollSlidesUptoRow.holds Try.pinned (OpenSpec.upto rollSlidesSpec)

/-- 'tallymanlaw5.RollReset', WHERE WHAT IT READS IS OF BULK AT MOST 1048576: true; the input reads as it did. -/
def rollResetUptoRow : OpenClaim := { program := "ytaeoaaajkcnbkaa", sum := "54c3374ff77283789c690ab2987b24139259fee4b6c07b18d066e97f98ec4a5e", func := "tallyman/tallymanlaw5.RollReset", spec := "rollReset", apart := false, narrowed := true }
def RollResetUptoSaid : Prop := rollResetUptoRow.holds Try.pinned (OpenSpec.upto rollResetSpec)

/-- 'tallymanlaw5.RollApart', WHERE WHAT IT READS IS OF BULK AT MOST 1048576: true; the input reads as it did. -/
def rollApartUptoRow : OpenClaim := { program := "ytaeoaaajkcnbkaa", sum := "54c3374ff77283789c690ab2987b24139259fee4b6c07b18d066e97f98ec4a5e", func := "tallyman/tallymanlaw5.RollApart", spec := "rollApart", apart := false, narrowed := true }
def RollApartUptoSaid : Prop := rollApartUptoRow.holds Try.pinned (OpenSpec.upto rollApartSpec)

end Rows
end Go.Proofs.Ytaeoaaajkcnbkaa
