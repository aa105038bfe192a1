/- Operations for such walks: elements of a slice, its length, remainders. No condition. -/
import Derived.Test.YtepeloenijlnhaaDoorFob
namespace Go.Proofs.YtepeloenijlnhaaDoor
open Go.RowKit
theorem ex_indexS {o : Oper} {ev : Operand → Value} {w : World} (T E : TypeId) (x i : Operand) (ho : o.op = .indexAddr T x i) (a : Addr) (n c k sz : Nat) (hT : Tryd.prog.underlying T = some (.slice E)) (hE : ∀ w, (sizeOf E).run Tryd.prog w = .ok sz w)
    (hx : ev x = .slice (some a) n c) (hi : ev i = .int .i64 (k : Int)) (hk : k < n) : (execOp ev o).run Tryd.prog w = .ok (.value (.pointer (some (a.add (k * sz))))) w := by
  have h : (Instr.indexAt T (.slice (some a) n c) (.int .i64 (k : Int))).run Tryd.prog w = .ok (.pointer (some (a.add (k * sz)))) w := by
    unfold Instr.indexAt
    simp [asIntOf, run_underlying hT, hE, hk]
  unfold execOp
  simp only [ho, hx, hi, Sem.run_bind, h, Result.andThen_ok]
  rfl
theorem ex_len {o : Oper} {ev : Operand → Value} {w : World} (T E : TypeId) (x : Operand) (ho : o.op = .call { callee := .builtin .len, args := #[x], argTypes := #[T] }) (hT : Tryd.prog.underlying T = some (.slice E)) (q : Option Addr) (n c : Nat) (hx : ev x = .slice q n c) : (execOp ev o).run Tryd.prog w = .ok (.value (.int .i64 (n : Int))) w := by
  unfold execOp
  simp [ho, resolve, invoke, hx, builtin, Builtin.len_, run_underlying hT, goInt]
theorem rem_nat (T : TypeId) (a b : Nat) (hb : 0 < b) (w : World) : (binOp .rem T (.int .i64 (a : Int)) (.int .i64 (b : Int))).run Tryd.prog w = .ok (.int .i64 ((a % b : Nat) : Int)) w := by
  have h2 : Int.tmod (a : Int) (b : Int) = ((a % b : Nat) : Int) := by
    rw [Int.tmod_eq_emod_of_nonneg (by omega)]; omega
  simp [binOp, Op.intDiv, Nat.ne_of_gt hb, h2]
end Go.Proofs.YtepeloenijlnhaaDoor
