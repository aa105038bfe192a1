/- errors.As at a *Errno: at a number, an *errors.errorString, a *Cause of one (written by gen_fas.py). -/
import Derived.Test.YtgaphplndpdhaaaFmtFas
namespace Go.Proofs.YtgaphplndpdhaaaFmt
open Go.RowKit Go.Extern.Stop Go.Stop Go.Extern
theorem as_nilE (t : Addr) (w : World) : Calls Tryf.prog 26 #[.nilIface, .iface 60 (.pointer (some t))] w fun ev w' => ev = .returned (.bool false) ∧ w' = w := by
  go_enter Tryf.func26, Tryf.ntmps26
  go_wp2
  go_ret
  exact ⟨rfl, rfl⟩
set_option maxHeartbeats 4000000 in
theorem as_numD (q : Int) (t : Addr) (old : Value) (w : World) (hs : 1 < w.heap.size) (hg : w.cell? ⟨1, 0, none⟩ = some theErr) (ht0 : w.cell? t = some old) (htl : t.block < w.heap.size) (hf0 : w.frozen? t = false) :
    Calls Tryf.prog 26 #[.iface 26 (.int .i64 q), .iface 60 (.pointer (some t))] w fun ev w' => ev = .returned (.bool true) ∧ w' = ((((w.alloc (.cells #[.pointer (some t)] 60)).alloc (.cells #[.pointer (some ⟨5, 60, none⟩), .pointer (some ⟨w.heap.size, 0, none⟩), .int .u64 150] 74)).alloc (.cells #[.pointer (some ⟨5, 60, none⟩), .pointer (some ⟨w.heap.size, 0, none⟩), .int .u64 150] 74)).alloc (.cells #[.int .i64 q] 26)).setCell t (.int .i64 q) := by
  unfold theErr at hg
  have x15 := ext15
  have x18 := ext18
  have x19 := ext19
  have x20 := ext20
  have x24 := ext24
  have x25 := ext25
  have x42 := ext42
  have x75 := ext75
  have x76 := ext76
  have x73 := ext73
  have yvalueOf := valueOfE
  have ytype := typeE
  have ykindP := kindPE
  have ykindE := kindEE
  have yelemT := elemTE
  have yimplements := implementsE
  have ytypeOf := typeOfE
  have yassign := assignE
  have yvalueOfE := valueOfEE
  have zmKind := mKind
  have zmElem := mElem
  have zmImpl := mImpl
  have zmAssign := mAssign
  have n8 := isNilE ⟨w.heap.size, 0, none⟩ t ((w.alloc (.cells #[.pointer (some t)] 60)).alloc (.cells #[.pointer (some ⟨5, 60, none⟩), .pointer (some ⟨w.heap.size, 0, none⟩), .int .u64 150] 74)) (by simp)
  have hg2 : ((w.alloc (.cells #[.pointer (some t)] 60)).alloc (.cells #[.pointer (some ⟨5, 60, none⟩), .pointer (some ⟨w.heap.size, 0, none⟩), .int .u64 150] 74)).cell? ⟨1, 0, none⟩ = some (.iface 62 (.agg #[.pointer (some ⟨5, 24, none⟩)])) := by
    rw [World.cell?_alloc_lt _ _ ⟨1, 0, none⟩ (by simp; omega), World.cell?_alloc_lt _ _ ⟨1, 0, none⟩ (by simp; omega)]; exact hg
  have el := elemVE ⟨w.heap.size, 0, none⟩ t (((w.alloc (.cells #[.pointer (some t)] 60)).alloc (.cells #[.pointer (some ⟨5, 60, none⟩), .pointer (some ⟨w.heap.size, 0, none⟩), .int .u64 150] 74)).alloc (.cells #[.pointer (some ⟨5, 60, none⟩), .pointer (some ⟨w.heap.size, 0, none⟩), .int .u64 150] 74)) (by rw [World.cell?_alloc_lt _ _ ⟨w.heap.size, 0, none⟩ (by simp; omega)]; simp)
  have st := setE t ⟨w.heap.size + 1 + 1 + 1, 0, none⟩ q old ((((w.alloc (.cells #[.pointer (some t)] 60)).alloc (.cells #[.pointer (some ⟨5, 60, none⟩), .pointer (some ⟨w.heap.size, 0, none⟩), .int .u64 150] 74)).alloc (.cells #[.pointer (some ⟨5, 60, none⟩), .pointer (some ⟨w.heap.size, 0, none⟩), .int .u64 150] 74)).alloc (.cells #[.int .i64 q] 26))
    (by rw [World.cell?_alloc_at _ _ _ _ (by simp)]; rfl)
    (by rw [World.cell?_alloc_lt _ _ t (by simp; omega), World.cell?_alloc_lt _ _ t (by simp; omega), World.cell?_alloc_lt _ _ t (by simp; omega), World.cell?_alloc_lt _ _ t htl]; exact ht0)
    (by rw [World.frozen?_alloc_old _ _ t (by simp; omega), World.frozen?_alloc_old _ _ t (by simp; omega), World.frozen?_alloc_old _ _ t (by simp; omega), World.frozen?_alloc_old _ _ t (Nat.ne_of_lt htl)]; exact hf0)
  go_enter Tryf.func26, Tryf.ntmps26
  go_wp2
  refine wp_loop_rounds 1 ?_
  rw [rounds_succ]
  go_wp2
  go_ret
  exact ⟨rfl, rfl⟩
set_option maxHeartbeats 4000000 in
theorem as_numS (p : Addr) (t : Addr) (w : World) (hs : 1 < w.heap.size) (hg : w.cell? ⟨1, 0, none⟩ = some theErr) :
    Calls Tryf.prog 26 #[.iface 44 (.pointer (some p)), .iface 60 (.pointer (some t))] w fun ev w' => ev = .returned (.bool false) ∧ w' = (((w.alloc (.cells #[.pointer (some t)] 60)).alloc (.cells #[.pointer (some ⟨5, 60, none⟩), .pointer (some ⟨w.heap.size, 0, none⟩), .int .u64 150] 74)).alloc (.cells #[.pointer (some ⟨5, 60, none⟩), .pointer (some ⟨w.heap.size, 0, none⟩), .int .u64 150] 74)) := by
  unfold theErr at hg
  have x15 := ext15
  have x18 := ext18
  have x19 := ext19
  have x20 := ext20
  have x24 := ext24
  have x25 := ext25
  have x42 := ext42
  have x75 := ext75
  have x76 := ext76
  have x73 := ext73
  have yvalueOf := valueOfE
  have ytype := typeE
  have ykindP := kindPE
  have ykindE := kindEE
  have yelemT := elemTE
  have yimplements := implementsE
  have ytypeOf := typeOfE
  have yassign := assignE
  have yvalueOfE := valueOfEE
  have zmKind := mKind
  have zmElem := mElem
  have zmImpl := mImpl
  have zmAssign := mAssign
  have n8 := isNilE ⟨w.heap.size, 0, none⟩ t ((w.alloc (.cells #[.pointer (some t)] 60)).alloc (.cells #[.pointer (some ⟨5, 60, none⟩), .pointer (some ⟨w.heap.size, 0, none⟩), .int .u64 150] 74)) (by simp)
  have hg2 : ((w.alloc (.cells #[.pointer (some t)] 60)).alloc (.cells #[.pointer (some ⟨5, 60, none⟩), .pointer (some ⟨w.heap.size, 0, none⟩), .int .u64 150] 74)).cell? ⟨1, 0, none⟩ = some (.iface 62 (.agg #[.pointer (some ⟨5, 24, none⟩)])) := by
    rw [World.cell?_alloc_lt _ _ ⟨1, 0, none⟩ (by simp; omega), World.cell?_alloc_lt _ _ ⟨1, 0, none⟩ (by simp; omega)]; exact hg
  have tS := typeOfS
  have aS := assignSE
  have n1 := noAsS
  have n2 := noUnwrapS
  have n3 := noUnwrapsS
  go_enter Tryf.func26, Tryf.ntmps26
  go_wp2
  refine wp_loop_rounds 1 ?_
  rw [rounds_succ]
  go_wp2
  go_ret
  exact ⟨rfl, rfl⟩
set_option maxHeartbeats 4000000 in
theorem as_numCS (g : Nat) (s : ByteArray) (n : Int) (p : Addr) (t : Addr) (w : World) (hs : 1 < w.heap.size) (hg : w.cell? ⟨1, 0, none⟩ = some theErr) (hC : IsC w g s n (.iface 44 (.pointer (some p)))) :
    Calls Tryf.prog 26 #[ofC g, .iface 60 (.pointer (some t))] w fun ev w' => ev = .returned (.bool false) ∧ w' = (((w.alloc (.cells #[.pointer (some t)] 60)).alloc (.cells #[.pointer (some ⟨5, 60, none⟩), .pointer (some ⟨w.heap.size, 0, none⟩), .int .u64 150] 74)).alloc (.cells #[.pointer (some ⟨5, 60, none⟩), .pointer (some ⟨w.heap.size, 0, none⟩), .int .u64 150] 74)) := by
  unfold theErr at hg
  unfold ofC
  have x15 := ext15
  have x18 := ext18
  have x19 := ext19
  have x20 := ext20
  have x24 := ext24
  have x25 := ext25
  have x42 := ext42
  have x75 := ext75
  have x76 := ext76
  have x73 := ext73
  have yvalueOf := valueOfE
  have ytype := typeE
  have ykindP := kindPE
  have ykindE := kindEE
  have yelemT := elemTE
  have yimplements := implementsE
  have ytypeOf := typeOfE
  have yassign := assignE
  have yvalueOfE := valueOfEE
  have zmKind := mKind
  have zmElem := mElem
  have zmImpl := mImpl
  have zmAssign := mAssign
  have n8 := isNilE ⟨w.heap.size, 0, none⟩ t ((w.alloc (.cells #[.pointer (some t)] 60)).alloc (.cells #[.pointer (some ⟨5, 60, none⟩), .pointer (some ⟨w.heap.size, 0, none⟩), .int .u64 150] 74)) (by simp)
  have hg2 : ((w.alloc (.cells #[.pointer (some t)] 60)).alloc (.cells #[.pointer (some ⟨5, 60, none⟩), .pointer (some ⟨w.heap.size, 0, none⟩), .int .u64 150] 74)).cell? ⟨1, 0, none⟩ = some (.iface 62 (.agg #[.pointer (some ⟨5, 24, none⟩)])) := by
    rw [World.cell?_alloc_lt _ _ ⟨1, 0, none⟩ (by simp; omega), World.cell?_alloc_lt _ _ ⟨1, 0, none⟩ (by simp; omega)]; exact hg
  have tC := typeOfC
  have aN := assignNE
  have n1 := noAsC
  have n2 := hasUnwrapC
  have m1 : ∀ (v : Value) (w : World), (Go.method 236 31 v "Unwrap").run Tryf.prog w = .ok (13, v) w := fun v w => by kernel_rfl
  have hU := Lib.hid (unwrap_any g s n _ _ (((hC.alloc (.cells #[.pointer (some t)] 60)).alloc (.cells #[.pointer (some ⟨5, 60, none⟩), .pointer (some ⟨w.heap.size, 0, none⟩), .int .u64 150] 74)).alloc (.cells #[.pointer (some ⟨5, 60, none⟩), .pointer (some ⟨w.heap.size, 0, none⟩), .int .u64 150] 74)))
  have tS := typeOfS
  have aS := assignSE
  have o1 := noAsS
  have o2 := noUnwrapS
  have o3 := noUnwrapsS
  go_enter Tryf.func26, Tryf.ntmps26
  go_wp2
  refine wp_loop_rounds 2 ?_
  rw [rounds_succ]
  go_wp2_with (go_at_call 13; refine hU.out.mono ?_; rintro ev w' ⟨rfl, rfl⟩)
  rw [rounds_succ]
  go_wp2
  go_ret
  exact ⟨rfl, rfl⟩
end Go.Proofs.YtgaphplndpdhaaaFmt
