/- Operations for such walks: elements of a slice, its length, remainders. No condition. -/
import Derived.Test.YtnkcehmgagpadaaDoorFob
namespace Go.Proofs.YtnkcehmgagpadaaDoor
open Go.RowKit
theorem ex_indexS {o : Oper} {ev : Operand → Value} {w : World} (T E : TypeId) (x i : Operand) (ho : o.op = .indexAddr T x i) (a : Addr) (n c k sz : Nat) (hT : Tryd.prog.underlying T = some (.slice E)) (hE : ∀ w, (sizeOf E).run Tryd.prog w = .ok sz w)
    (hx : ev x = .slice (some a) n c) (hi : ev i = .int .i64 (k : Int)) (hk : k < n) : (execOp ev o).run Tryd.prog w = .ok (.value (.pointer (some (a.add (k * sz))))) w := by
  have h : (Instr.indexAt T (.slice (some a) n c) (.int .i64 (k : Int))).run Tryd.prog w = .ok (.pointer (some (a.add (k * sz)))) w := by
    unfold Instr.indexAt
    simp [asIntOf, run_underlying hT, hE, hk]
  unfold execOp
  simp only [ho, hx, hi, Sem.run_bind, h, Result.andThen_ok]
  rfl
theorem ex_len {o : Oper} {ev : Operand → Value} {w : World} (T E : TypeId) (x : Operand) (ho : o.op = .call { callee := .builtin .len, args := #[x], argTypes := #[T] }) (hT : Tryd.prog.underlying T = some (.slice E)) (q : Option Addr) (n c : Nat) (hx : ev x = .slice q n c) : (execOp ev o).run Tryd.prog w = .ok (.value (.int .i64 (n : Int))) w := by
  unfold execOp
  simp [ho, resolve, invoke, hx, builtin, Builtin.len_, run_underlying hT, goInt]
end Go.Proofs.YtnkcehmgagpadaaDoor
