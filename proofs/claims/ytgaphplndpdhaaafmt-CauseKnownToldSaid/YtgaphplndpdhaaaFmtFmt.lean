/- fmt.Errorf("more: %w", a *Cause) by its contract, out of a contract of (*Cause).Error. Conditions: the operand's cell; the tape answers as F. -/
import Derived.Test.YtgaphplndpdhaaaFmtIn
import Derived.Stop.CallBack
import Derived.Stop.IfaceNil
import Derived.BigCall
import Derived.WalkSpells
import Derived.WalkKit
import GoSem.ClaimData
namespace Go.Proofs.YtgaphplndpdhaaaFmt
open Go.RowKit Go.Extern.Stop Go.Stop Go.Extern
theorem callErrorf (args : Array Value) (w : World) : (callFunc 16 args).run Tryf.prog w = (FmtCalls.errorf #[9, 42] #[24] args).run Tryf.prog w :=
  run_callFunc_next Tryf.func16 (by kernel_rfl) (by kernel_rfl) (by kernel_rfl) args w
theorem fguard (name : String) (w : World) : (FmtStop.guard name).run Tryf.prog w = .ok () w := by kernel_rfl
theorem nextTurns : Extern.next FmtCalls.turnsRow = some (FmtCalls.begun #[] #[]) := by kernel_rfl
theorem nextReturned : Extern.next FmtCalls.returnedRow = some (FmtCalls.returned #[] #[]) := by kernel_rfl
/-- "more: %w" -/
def more : ByteArray := ⟨#[109, 111, 114, 101, 58, 32, 37, 119]⟩
theorem fmt0 : FmtStop.printed? ⟨#[109, 111, 114, 101, 58, 32, 37, 119]⟩ 1 = some [(0, 119, false)] := by kernel_rfl
theorem fmt0r (w : World) : (FmtDoors.printed ⟨#[109, 111, 114, 101, 58, 32, 37, 119]⟩ 1).run Tryf.prog w = .ok [(0, 119, false)] w := by kernel_rfl
theorem actC (name : String) (x : Value) (w : World) : (FmtCalls.act name true 119 false (.iface 31 x)).run Tryf.prog w = .ok (.call true) w := by kernel_rfl
theorem isErrorC (w : World) : (FmtDoors.textMethod 31 "Error").run Tryf.prog w = .ok true w := by kernel_rfl
theorem invokeErrorC (x : Value) (w : World) : (invoke (.fn (.method "Error") #[]) #[.iface 31 x]).run Tryf.prog w = .ok (.enter 12 #[x]) w := by kernel_rfl
theorem strC (w : World) : (typeStr 31).run Tryf.prog w = .ok "*cause.Cause" w := by kernel_rfl
theorem ptrW (w : World) : (FmtStop.ptrTo "fmt.wrapError").run Tryf.prog w = .ok 43 w := by kernel_rfl
theorem elemW (w : World) : (elemOf 43).run Tryf.prog w = .ok 121 w := by kernel_rfl
theorem isErrorW (w : World) : (FmtDoors.textMethod 43 "Error").run Tryf.prog w = .ok true w := by kernel_rfl
/-- What fmt is asked: the format; of the *Cause its type's name, then the text that its method gave. -/
def fReading (said : List UInt8) : List (List UInt8) :=
  [[109, 111, 114, 101, 58, 32, 37, 119], 19 :: 0 :: FmtStop.pack "*cause.Cause".toByteArray.data.toList, said]
set_option maxHeartbeats 1000000 in
theorem errorf_any (F : Interp) (t : ByteArray) (g blk : Nat) (w : World) (hF : F.answers w.tape)
    (hc0 : w.cell? ⟨blk, 0, none⟩ = some (ofC g))
    (hE : Calls Tryf.prog 12 #[.pointer (some ⟨g, 0, none⟩)] w fun e w' => e = .returned (.string t) ∧ Below w.heap.size w w') :
    Calls Tryf.prog 6 #[.string ⟨#[109, 111, 114, 101, 58, 32, 37, 119]⟩, .slice (some ⟨blk, 0, none⟩) 1 1] w fun e w' =>
      ∃ w₃, Below w.heap.size w w₃ ∧ e = .returned (.iface 43 (.pointer (some ⟨w₃.heap.size, 0, none⟩))) ∧
        w' = (w₃.alloc (.cells #[.string (FmtStop.textOf (F "fmt.errorf" (fReading t.data.toList) 0)), ofC g] 121)).drew := by
  have hF' := answers_open hF
  have hb : blk < w.heap.size := World.block_lt_of_cell? _ _ hc0
  have hE' := Lib.hid hE
  clear hE
  unfold ofC at hc0 ⊢
  have k1 := callErrorf
  have k2 := fguard
  have k3 := fmt0
  have k4 := fmt0r
  have k5 := actC
  have k6 := isErrorC
  have k7 := strC
  have k8 := ptrW
  have k9 := elemW
  have k10 := isErrorW
  go_enter Tryf.func6, Tryf.ntmps6
  go_wp2
  apply rows_call nextTurns
  case hr =>
    go_simp
    exact ⟨⟨rfl, rfl, rfl⟩, rfl⟩
  case hi => exact invokeErrorC _ _
  case hc =>
    refine hE'.out.mono fun e w₃ ⟨he, hx⟩ => ?_
    subst he
    have hF3 : ∀ i name reading k range, w₃.tape i (.extern (word name reading k) range) = F name reading k := by rw [hx.tape]; exact hF'
    have hc03 : w₃.cell? ⟨blk, 0, none⟩ = some (.iface 31 (.pointer (some ⟨g, 0, none⟩))) := by rw [hx.cell hb]; exact hc0
    apply rows_value nextReturned
    case hr =>
      go_simp
      exact ⟨rfl, rfl⟩
    case h =>
      go_wp2
      go_ret
      exact ⟨w₃, hx, rfl, rfl⟩
end Go.Proofs.YtgaphplndpdhaaaFmt
