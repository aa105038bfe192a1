/- Contracts: cut.Good, Plain, the document's own GoodRule and Plain, the law's own. No condition. -/
import Derived.Test.YthpledfjopbchaaDoorCutm
import Derived.Handy
namespace Go.Proofs.YthpledfjopbchaaDoor
open Go.RowKit
def ruleL (m x d k t : Int) : List Value := [.int .i64 m, .int .i64 x, .int .i64 d, .int .u64 k, .int .u64 t]
def ruleV (m x d k t : Int) : Value := .agg (ruleL m x d k t).toArray
def okI (m x d : Int) : Bool := decide (1 ≤ d ∧ d ≤ 64 ∧ d ≤ m ∧ m ≤ x ∧ x ≤ 65536)
def Rl.val (r : Rl) : Value := ruleV r.mn r.mx r.wd r.mask r.want
set_option maxHeartbeats 1000000 in
theorem cgood_any (m x d k t : Int) (w : World) :
    Calls Tryd.prog 58 #[ruleV m x d k t] w fun e w' => e = .returned (.bool (okI m x d)) ∧ Below w.heap.size w w' := by
  have HOK : Hid (okI m x d = decide (1 ≤ d ∧ d ≤ 64 ∧ d ≤ m ∧ m ≤ x ∧ x ≤ 65536)) := Lib.hid rfl
  generalize okI m x d = ok at *
  unfold ruleV ruleL
  go_enter Tryd.func58, Tryd.ntmps58
  go_wp2_with fail
  all_goals
    go_ret
    refine ⟨congrArg (fun b => Ending.returned (.bool b)) ?_, (Below.refl _ _).alloc (Nat.le_refl _) _⟩
    rw [HOK.out, Bool.eq_iff_iff]
    simp
    try omega
set_option maxHeartbeats 1000000 in
theorem rgood_any (m x d k t : Int) (w : World) :
    Calls Tryd.prog 48 #[ruleV m x d k t] w fun e w' => e = .returned (.bool (okI m x d)) ∧ Below w.heap.size w w' := by
  have HOK : Hid (okI m x d = decide (1 ≤ d ∧ d ≤ 64 ∧ d ≤ m ∧ m ≤ x ∧ x ≤ 65536)) := Lib.hid rfl
  generalize okI m x d = ok at *
  unfold ruleV ruleL
  go_enter Tryd.func48, Tryd.ntmps48
  go_wp2_with fail
  all_goals
    go_ret
    refine ⟨congrArg (fun b => Ending.returned (.bool b)) ?_, (Below.refl _ _).alloc (Nat.le_refl _) _⟩
    rw [HOK.out, Bool.eq_iff_iff]
    simp
    try omega
set_option maxHeartbeats 1000000 in
theorem plain_any (w : World) :
    Calls Tryd.prog 32 #[] w fun e w' => e = .returned (ruleV 16 128 8 31 7) ∧ Below w.heap.size w w' := by
  unfold ruleV ruleL
  go_enter Tryd.func32, Tryd.ntmps32
  go_wp2_with fail
  go_returns
  exact ⟨rfl, (Below.refl _ _).alloc (Nat.le_refl _) _⟩
set_option maxHeartbeats 1000000 in
theorem rplain_any (w : World) :
    Calls Tryd.prog 35 #[] w fun e w' => e = .returned (ruleV 16 128 8 31 7) ∧ Below w.heap.size w w' := by
  unfold ruleV ruleL
  go_enter Tryd.func35, Tryd.ntmps35
  go_wp2_with fail
  go_returns
  exact ⟨rfl, (Below.refl _ _).alloc (Nat.le_refl _) _⟩
end Go.Proofs.YthpledfjopbchaaDoor
