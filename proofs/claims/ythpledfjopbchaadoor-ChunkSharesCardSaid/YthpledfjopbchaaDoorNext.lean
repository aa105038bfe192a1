/- Contract: cut.Next: where the first piece ends. Conditions: a text is no longer than its room, of fewer than 2^63 bytes. -/
import Derived.Test.YthpledfjopbchaaDoorFirst
namespace Go.Proofs.YthpledfjopbchaaDoor
open Go.RowKit
theorem hw_nat (d : Nat) (h1 : 1 ≤ d) (h2 : d ≤ 64) : hw (d : Int) = d := by unfold hw; rw [if_neg (by omega), if_neg (by omega)]; omega
theorem okI_of {r : Rl} (h : r.Ok) : okI r.mn r.mx r.wd = true := by
  obtain ⟨o1, o2, o3, o4, o5, _, _⟩ := h
  unfold okI
  rw [decide_eq_true_iff]
  omega
theorem load_atN {P : Program} {o : Oper} {ev : Operand → Value} (T : TypeId) (x : Operand) (ho : o.op = .load T x) (g : Nat) (hx : ev x = .pointer (some ⟨g, 0, none⟩)) (t : TypeId) (l : List Value) (w : World)
    (hS : Has w g t l) (d : TypeDesc) (hu : P.underlying T = some d) (hd : (match d with | .struct _ | .array _ _ => true | _ => false) = true) (hi : (P.info? T).map (·.size) = some l.toArray.size) :
    (execOp ev o).run P w = .ok (.value (.agg l.toArray)) w := by
  unfold execOp
  simp only [ho, hx, Instr.loadAt, Instr.sureAddr, Sem.run_bind, Sem.run_pure, Result.andThen_ok, run_loadVar_row w g t T l.toArray (0, 0) d hS hu hd hi]
def nxOrder : List (Nat × Bool) := [(0, true), (1, true), (2, true), (4, true), (3, false), (5, false), (6, true)]
end Go.Proofs.YthpledfjopbchaaDoor
