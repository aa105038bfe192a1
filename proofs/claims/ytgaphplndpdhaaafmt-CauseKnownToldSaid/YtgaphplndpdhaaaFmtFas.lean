/- errors.As where a *fmt.wrapError or an *errors.errorString is met (written by gen_fas.py); the methods of the two. Conditions: errors.errorType as laid; the target's cell; the blocks known whole. -/
import Derived.Test.YtgaphplndpdhaaaFmtAsm
namespace Go.Proofs.YtgaphplndpdhaaaFmt
open Go.RowKit Go.Extern.Stop Go.Stop Go.Extern
/-- What fmt.Errorf makes, whole. -/
def IsW (w : World) (g : Nat) (s : ByteArray) (e : Value) : Prop := Has w g 121 [.string s, e]
def ofW (g : Nat) : Value := .iface 43 (.pointer (some ⟨g, 0, none⟩))
/-- What errors.New makes, whole. -/
def IsS (w : World) (g : Nat) (s : ByteArray) : Prop := Has w g 46 [.string s]
def ofS (g : Nat) : Value := .iface 44 (.pointer (some ⟨g, 0, none⟩))
theorem unwrapW_any (g : Nat) (s : ByteArray) (e : Value) (w : World) (h : IsW w g s e) :
    Calls Tryf.prog 71 #[.pointer (some ⟨g, 0, none⟩)] w fun v w' => v = .returned e ∧ w' = w := by
  have hc := h.cellv (i := 1) (v := e) rfl
  go_enter Tryf.func71, Tryf.ntmps71
  go_wp2_with fail
  go_ret
  exact ⟨rfl, rfl⟩
theorem errorW_any (g : Nat) (s : ByteArray) (e : Value) (w : World) (h : IsW w g s e) :
    Calls Tryf.prog 70 #[.pointer (some ⟨g, 0, none⟩)] w fun v w' => v = .returned (.string s) ∧ w' = w := by
  have hc := h.cellv (i := 0) (v := .string s) rfl
  go_enter Tryf.func70, Tryf.ntmps70
  go_wp2_with fail
  go_ret
  exact ⟨rfl, rfl⟩
theorem errorS_any (g : Nat) (s : ByteArray) (w : World) (h : IsS w g s) :
    Calls Tryf.prog 72 #[.pointer (some ⟨g, 0, none⟩)] w fun v w' => v = .returned (.string s) ∧ w' = w := by
  have hc := h.cellv (i := 0) (v := .string s) rfl
  go_enter Tryf.func72, Tryf.ntmps72
  go_wp2_with fail
  go_ret
  exact ⟨rfl, rfl⟩
theorem new_any (s : ByteArray) (w : World) :
    Calls Tryf.prog 7 #[.string s] w fun v w' => v = .returned (ofS w.heap.size) ∧ w' = w.alloc (.cells #[.string s] 46) := by
  unfold ofS
  go_enter Tryf.func7, Tryf.ntmps7
  go_wp2_with fail
  go_ret
  exact ⟨rfl, rfl⟩
theorem typeOfW (v : Value) (w : World) : (ReflectliteType.typeOf #[.iface 43 v]).run Tryf.prog w = .ok (.iface 62 (.agg #[.pointer (some ⟨5, 43, none⟩)])) w := by kernel_rfl
theorem assignWC (w : World) : (ReflectliteType.relation "AssignableTo" ReflectliteType.assignableTo #[.agg #[.pointer (some ⟨5, 43, none⟩)], .iface 62 (.agg #[.pointer (some ⟨5, 31, none⟩)])]).run Tryf.prog w = .ok (.bool false) w := by kernel_rfl
theorem assignWE (w : World) : (ReflectliteType.relation "AssignableTo" ReflectliteType.assignableTo #[.agg #[.pointer (some ⟨5, 43, none⟩)], .iface 62 (.agg #[.pointer (some ⟨5, 26, none⟩)])]).run Tryf.prog w = .ok (.bool false) w := by kernel_rfl
theorem noAsW (v : Value) (xT : TypeId) (w : World) : (Instr.typeAssert (.iface 43 v) xT 85 true).run Tryf.prog w = .ok (.tuple #[.nilIface, .bool false]) w := run_typeAssert_lacksB Tryf.underlying85 (by kernel_rfl) (by kernel_rfl) v xT w
theorem noUnwrapsW (v : Value) (xT : TypeId) (w : World) : (Instr.typeAssert (.iface 43 v) xT 67 true).run Tryf.prog w = .ok (.tuple #[.nilIface, .bool false]) w := run_typeAssert_lacksB Tryf.underlying67 (by kernel_rfl) (by kernel_rfl) v xT w
theorem typeOfS (v : Value) (w : World) : (ReflectliteType.typeOf #[.iface 44 v]).run Tryf.prog w = .ok (.iface 62 (.agg #[.pointer (some ⟨5, 44, none⟩)])) w := by kernel_rfl
theorem assignSC (w : World) : (ReflectliteType.relation "AssignableTo" ReflectliteType.assignableTo #[.agg #[.pointer (some ⟨5, 44, none⟩)], .iface 62 (.agg #[.pointer (some ⟨5, 31, none⟩)])]).run Tryf.prog w = .ok (.bool false) w := by kernel_rfl
theorem assignSE (w : World) : (ReflectliteType.relation "AssignableTo" ReflectliteType.assignableTo #[.agg #[.pointer (some ⟨5, 44, none⟩)], .iface 62 (.agg #[.pointer (some ⟨5, 26, none⟩)])]).run Tryf.prog w = .ok (.bool false) w := by kernel_rfl
theorem noAsS (v : Value) (xT : TypeId) (w : World) : (Instr.typeAssert (.iface 44 v) xT 85 true).run Tryf.prog w = .ok (.tuple #[.nilIface, .bool false]) w := run_typeAssert_lacksB Tryf.underlying85 (by kernel_rfl) (by kernel_rfl) v xT w
theorem noUnwrapsS (v : Value) (xT : TypeId) (w : World) : (Instr.typeAssert (.iface 44 v) xT 67 true).run Tryf.prog w = .ok (.tuple #[.nilIface, .bool false]) w := run_typeAssert_lacksB Tryf.underlying67 (by kernel_rfl) (by kernel_rfl) v xT w
theorem hasUnwrapW (v : Value) (xT : TypeId) (w : World) : (Instr.typeAssert (.iface 43 v) xT 66 true).run Tryf.prog w = .ok (.tuple #[.iface 43 v, .bool true]) w := run_typeAssert_hasB Tryf.underlying66 (by kernel_rfl) v xT w
theorem noUnwrapS (v : Value) (xT : TypeId) (w : World) : (Instr.typeAssert (.iface 44 v) xT 66 true).run Tryf.prog w = .ok (.tuple #[.nilIface, .bool false]) w := run_typeAssert_lacksB Tryf.underlying66 (by kernel_rfl) (by kernel_rfl) v xT w
theorem mUnwrapW (v : Value) (w : World) : (Go.method 236 43 v "Unwrap").run Tryf.prog w = .ok (71, v) w := by kernel_rfl
theorem as_nilC (t : Addr) (w : World) : Calls Tryf.prog 26 #[.nilIface, .iface 70 (.pointer (some t))] w fun ev w' => ev = .returned (.bool false) ∧ w' = w := by
  go_enter Tryf.func26, Tryf.ntmps26
  go_wp2
  go_ret
  exact ⟨rfl, rfl⟩
set_option maxHeartbeats 4000000 in
theorem as_wrapC (gw : Nat) (tx : ByteArray) (q t : Addr) (old : Value) (w : World) (hs : 1 < w.heap.size) (hg : w.cell? ⟨1, 0, none⟩ = some theErr) (ht0 : w.cell? t = some old) (htl : t.block < w.heap.size) (hf0 : w.frozen? t = false) (hW : IsW w gw tx (.iface 31 (.pointer (some q)))) :
    Calls Tryf.prog 26 #[ofW gw, .iface 70 (.pointer (some t))] w fun ev w' => ev = .returned (.bool true) ∧ w' = ((((w.alloc (.cells #[.pointer (some t)] 70)).alloc (.cells #[.pointer (some ⟨5, 70, none⟩), .pointer (some ⟨w.heap.size, 0, none⟩), .int .u64 150] 74)).alloc (.cells #[.pointer (some ⟨5, 70, none⟩), .pointer (some ⟨w.heap.size, 0, none⟩), .int .u64 150] 74)).alloc (.cells #[.pointer (some q)] 31)).setCell t (.pointer (some q)) := by
  unfold theErr at hg
  unfold ofW
  have x15 := ext15
  have x18 := ext18
  have x19 := ext19
  have x20 := ext20
  have x24 := ext24
  have x25 := ext25
  have x42 := ext42
  have x75 := ext75
  have x76 := ext76
  have x73 := ext73
  have yvalueOf := valueOfC
  have ytype := typeC
  have ykindP := kindPC
  have ykindE := kindEC
  have yelemT := elemTC
  have yimplements := implementsC
  have ytypeOf := typeOfC
  have yassign := assignC
  have yvalueOfE := valueOfEC
  have zmKind := mKind
  have zmElem := mElem
  have zmImpl := mImpl
  have zmAssign := mAssign
  have n8 := isNilC ⟨w.heap.size, 0, none⟩ t ((w.alloc (.cells #[.pointer (some t)] 70)).alloc (.cells #[.pointer (some ⟨5, 70, none⟩), .pointer (some ⟨w.heap.size, 0, none⟩), .int .u64 150] 74)) (by simp)
  have hg2 : ((w.alloc (.cells #[.pointer (some t)] 70)).alloc (.cells #[.pointer (some ⟨5, 70, none⟩), .pointer (some ⟨w.heap.size, 0, none⟩), .int .u64 150] 74)).cell? ⟨1, 0, none⟩ = some (.iface 62 (.agg #[.pointer (some ⟨5, 24, none⟩)])) := by
    rw [World.cell?_alloc_lt _ _ ⟨1, 0, none⟩ (by simp; omega), World.cell?_alloc_lt _ _ ⟨1, 0, none⟩ (by simp; omega)]; exact hg
  have el := elemVC ⟨w.heap.size, 0, none⟩ t (((w.alloc (.cells #[.pointer (some t)] 70)).alloc (.cells #[.pointer (some ⟨5, 70, none⟩), .pointer (some ⟨w.heap.size, 0, none⟩), .int .u64 150] 74)).alloc (.cells #[.pointer (some ⟨5, 70, none⟩), .pointer (some ⟨w.heap.size, 0, none⟩), .int .u64 150] 74)) (by rw [World.cell?_alloc_lt _ _ ⟨w.heap.size, 0, none⟩ (by simp; omega)]; simp)
  have st := setC t ⟨w.heap.size + 1 + 1 + 1, 0, none⟩ q old ((((w.alloc (.cells #[.pointer (some t)] 70)).alloc (.cells #[.pointer (some ⟨5, 70, none⟩), .pointer (some ⟨w.heap.size, 0, none⟩), .int .u64 150] 74)).alloc (.cells #[.pointer (some ⟨5, 70, none⟩), .pointer (some ⟨w.heap.size, 0, none⟩), .int .u64 150] 74)).alloc (.cells #[.pointer (some q)] 31))
    (by rw [World.cell?_alloc_at _ _ _ _ (by simp)]; rfl)
    (by rw [World.cell?_alloc_lt _ _ t (by simp; omega), World.cell?_alloc_lt _ _ t (by simp; omega), World.cell?_alloc_lt _ _ t (by simp; omega), World.cell?_alloc_lt _ _ t htl]; exact ht0)
    (by rw [World.frozen?_alloc_old _ _ t (by simp; omega), World.frozen?_alloc_old _ _ t (by simp; omega), World.frozen?_alloc_old _ _ t (by simp; omega), World.frozen?_alloc_old _ _ t (Nat.ne_of_lt htl)]; exact hf0)
  have tW := typeOfW
  have aW := assignWC
  have nW := noAsW
  have uW := hasUnwrapW
  have mW := mUnwrapW
  have hU := Lib.hid (unwrapW_any gw tx _ _ (((hW.alloc (.cells #[.pointer (some t)] 70)).alloc (.cells #[.pointer (some ⟨5, 70, none⟩), .pointer (some ⟨w.heap.size, 0, none⟩), .int .u64 150] 74)).alloc (.cells #[.pointer (some ⟨5, 70, none⟩), .pointer (some ⟨w.heap.size, 0, none⟩), .int .u64 150] 74)))
  go_enter Tryf.func26, Tryf.ntmps26
  go_wp2
  refine wp_loop_rounds 2 ?_
  rw [rounds_succ]
  go_wp2_with (go_at_call 71; refine hU.out.mono ?_; rintro ev w' ⟨rfl, rfl⟩)
  rw [rounds_succ]
  go_wp2
  go_ret
  exact ⟨rfl, rfl⟩
set_option maxHeartbeats 4000000 in
theorem as_missS (p : Addr) (t : Addr) (w : World) (hs : 1 < w.heap.size) (hg : w.cell? ⟨1, 0, none⟩ = some theErr) :
    Calls Tryf.prog 26 #[.iface 44 (.pointer (some p)), .iface 70 (.pointer (some t))] w fun ev w' => ev = .returned (.bool false) ∧ w' = (((w.alloc (.cells #[.pointer (some t)] 70)).alloc (.cells #[.pointer (some ⟨5, 70, none⟩), .pointer (some ⟨w.heap.size, 0, none⟩), .int .u64 150] 74)).alloc (.cells #[.pointer (some ⟨5, 70, none⟩), .pointer (some ⟨w.heap.size, 0, none⟩), .int .u64 150] 74)) := by
  unfold theErr at hg
  have x15 := ext15
  have x18 := ext18
  have x19 := ext19
  have x20 := ext20
  have x24 := ext24
  have x25 := ext25
  have x42 := ext42
  have x75 := ext75
  have x76 := ext76
  have x73 := ext73
  have yvalueOf := valueOfC
  have ytype := typeC
  have ykindP := kindPC
  have ykindE := kindEC
  have yelemT := elemTC
  have yimplements := implementsC
  have ytypeOf := typeOfC
  have yassign := assignC
  have yvalueOfE := valueOfEC
  have zmKind := mKind
  have zmElem := mElem
  have zmImpl := mImpl
  have zmAssign := mAssign
  have n8 := isNilC ⟨w.heap.size, 0, none⟩ t ((w.alloc (.cells #[.pointer (some t)] 70)).alloc (.cells #[.pointer (some ⟨5, 70, none⟩), .pointer (some ⟨w.heap.size, 0, none⟩), .int .u64 150] 74)) (by simp)
  have hg2 : ((w.alloc (.cells #[.pointer (some t)] 70)).alloc (.cells #[.pointer (some ⟨5, 70, none⟩), .pointer (some ⟨w.heap.size, 0, none⟩), .int .u64 150] 74)).cell? ⟨1, 0, none⟩ = some (.iface 62 (.agg #[.pointer (some ⟨5, 24, none⟩)])) := by
    rw [World.cell?_alloc_lt _ _ ⟨1, 0, none⟩ (by simp; omega), World.cell?_alloc_lt _ _ ⟨1, 0, none⟩ (by simp; omega)]; exact hg
  have tE := typeOfS
  have aN := assignSC
  have n1 := noAsS
  have n2 := noUnwrapS
  have n3 := noUnwrapsS
  go_enter Tryf.func26, Tryf.ntmps26
  go_wp2
  refine wp_loop_rounds 1 ?_
  rw [rounds_succ]
  go_wp2
  go_ret
  exact ⟨rfl, rfl⟩
end Go.Proofs.YtgaphplndpdhaaaFmt
