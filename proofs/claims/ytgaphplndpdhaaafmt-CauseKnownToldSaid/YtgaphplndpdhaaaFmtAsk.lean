/- Contracts: errors.As at a **Cause and at a *Errno. Conditions: errors.errorType as laid; the target's cell lies there. -/
import Derived.Test.YtgaphplndpdhaaaFmtAs
namespace Go.Proofs.YtgaphplndpdhaaaFmt
open Go.RowKit Go.Extern.Stop Go.Stop Go.Extern
theorem ext15 (args : Array Value) (w : World) : (callFunc 22 args).run Tryf.prog w = (((ReflectliteType.typeOf) args).run Tryf.prog w).andThen fun v w' => .ok (.value v) w' :=
  @run_callFunc_extern Tryf.prog 22 _ ReflectliteType.typeOf Tryf.func22 (by kernel_rfl) (by kernel_rfl) (by kernel_rfl) (by kernel_rfl) args w
theorem ext18 (args : Array Value) (w : World) : (callFunc 30 args).run Tryf.prog w = ((((fun args => ReflectliteValue.unpack (args.getD 0 (.tuple #[])))) args).run Tryf.prog w).andThen fun v w' => .ok (.value v) w' :=
  @run_callFunc_extern Tryf.prog 30 _ (fun args => ReflectliteValue.unpack (args.getD 0 (.tuple #[]))) Tryf.func30 (by kernel_rfl) (by kernel_rfl) (by kernel_rfl) (by kernel_rfl) args w
theorem ext19 (args : Array Value) (w : World) : (callFunc 31 args).run Tryf.prog w = ((((ReflectliteValue.methodAny (ReflectliteValue.valueError "reflectlite.Value.Type" 0) (fun t _ _ _ => ReflectliteType.toType t))) args).run Tryf.prog w).andThen fun v w' => .ok (.value v) w' :=
  @run_callFunc_extern Tryf.prog 31 _ (ReflectliteValue.methodAny (ReflectliteValue.valueError "reflectlite.Value.Type" 0) (fun t _ _ _ => ReflectliteType.toType t)) Tryf.func31 (by kernel_rfl) (by kernel_rfl) (by kernel_rfl) (by kernel_rfl) args w
theorem ext20 (args : Array Value) (w : World) : (callFunc 32 args).run Tryf.prog w = ((((ReflectliteValue.method (ReflectliteValue.valueError "reflectlite.Value.IsNil" 0) ReflectliteValue.isNil)) args).run Tryf.prog w).andThen fun v w' => .ok (.value v) w' :=
  @run_callFunc_extern Tryf.prog 32 _ (ReflectliteValue.method (ReflectliteValue.valueError "reflectlite.Value.IsNil" 0) ReflectliteValue.isNil) Tryf.func32 (by kernel_rfl) (by kernel_rfl) (by kernel_rfl) (by kernel_rfl) args w
theorem ext24 (args : Array Value) (w : World) : (callFunc 35 args).run Tryf.prog w = ((((ReflectliteValue.method (ReflectliteValue.valueError "reflectlite.Value.Elem" 0) ReflectliteValue.elem)) args).run Tryf.prog w).andThen fun v w' => .ok (.value v) w' :=
  @run_callFunc_extern Tryf.prog 35 _ (ReflectliteValue.method (ReflectliteValue.valueError "reflectlite.Value.Elem" 0) ReflectliteValue.elem) Tryf.func35 (by kernel_rfl) (by kernel_rfl) (by kernel_rfl) (by kernel_rfl) args w
theorem ext25 (args : Array Value) (w : World) : (callFunc 36 args).run Tryf.prog w = (((ReflectliteValue.set) args).run Tryf.prog w).andThen fun v w' => .ok (.value v) w' :=
  @run_callFunc_extern Tryf.prog 36 _ ReflectliteValue.set Tryf.func36 (by kernel_rfl) (by kernel_rfl) (by kernel_rfl) (by kernel_rfl) args w
theorem ext42 (args : Array Value) (w : World) : (callFunc 62 args).run Tryf.prog w = ((((ReflectliteType.abiMethod fun t => do pure (.int .u8 (← Rtype.kind t)))) args).run Tryf.prog w).andThen fun v w' => .ok (.value v) w' :=
  @run_callFunc_extern Tryf.prog 62 _ (ReflectliteType.abiMethod fun t => do pure (.int .u8 (← Rtype.kind t))) Tryf.func62 (by kernel_rfl) (by kernel_rfl) (by kernel_rfl) (by kernel_rfl) args w
theorem ext75 (args : Array Value) (w : World) : (callFunc 76 args).run Tryf.prog w = ((((ReflectliteType.method ReflectliteType.elem)) args).run Tryf.prog w).andThen fun v w' => .ok (.value v) w' :=
  @run_callFunc_extern Tryf.prog 76 _ (ReflectliteType.method ReflectliteType.elem) Tryf.func76 (by kernel_rfl) (by kernel_rfl) (by kernel_rfl) (by kernel_rfl) args w
theorem ext76 (args : Array Value) (w : World) : (callFunc 77 args).run Tryf.prog w = ((((ReflectliteType.relation "Implements" ReflectliteType.implements_)) args).run Tryf.prog w).andThen fun v w' => .ok (.value v) w' :=
  @run_callFunc_extern Tryf.prog 77 _ (ReflectliteType.relation "Implements" ReflectliteType.implements_) Tryf.func77 (by kernel_rfl) (by kernel_rfl) (by kernel_rfl) (by kernel_rfl) args w
theorem ext73 (args : Array Value) (w : World) : (callFunc 74 args).run Tryf.prog w = ((((ReflectliteType.relation "AssignableTo" ReflectliteType.assignableTo)) args).run Tryf.prog w).andThen fun v w' => .ok (.value v) w' :=
  @run_callFunc_extern Tryf.prog 74 _ (ReflectliteType.relation "AssignableTo" ReflectliteType.assignableTo) Tryf.func74 (by kernel_rfl) (by kernel_rfl) (by kernel_rfl) (by kernel_rfl) args w
theorem noAsC (v : Value) (xT : TypeId) (w : World) : (Instr.typeAssert (.iface 31 v) xT 85 true).run Tryf.prog w = .ok (.tuple #[.nilIface, .bool false]) w := run_typeAssert_lacksB Tryf.underlying85 (by kernel_rfl) (by kernel_rfl) v xT w
theorem noAsE (v : Value) (xT : TypeId) (w : World) : (Instr.typeAssert (.iface 26 v) xT 85 true).run Tryf.prog w = .ok (.tuple #[.nilIface, .bool false]) w := run_typeAssert_lacksB Tryf.underlying85 (by kernel_rfl) (by kernel_rfl) v xT w
theorem noUnwrapE (v : Value) (xT : TypeId) (w : World) : (Instr.typeAssert (.iface 26 v) xT 66 true).run Tryf.prog w = .ok (.tuple #[.nilIface, .bool false]) w := run_typeAssert_lacksB Tryf.underlying66 (by kernel_rfl) (by kernel_rfl) v xT w
theorem noUnwrapsC (v : Value) (xT : TypeId) (w : World) : (Instr.typeAssert (.iface 31 v) xT 67 true).run Tryf.prog w = .ok (.tuple #[.nilIface, .bool false]) w := run_typeAssert_lacksB Tryf.underlying67 (by kernel_rfl) (by kernel_rfl) v xT w
theorem noUnwrapsE (v : Value) (xT : TypeId) (w : World) : (Instr.typeAssert (.iface 26 v) xT 67 true).run Tryf.prog w = .ok (.tuple #[.nilIface, .bool false]) w := run_typeAssert_lacksB Tryf.underlying67 (by kernel_rfl) (by kernel_rfl) v xT w
set_option maxHeartbeats 4000000 in
theorem as_cause (q t : Addr) (old : Value) (w : World) (hs : 1 < w.heap.size) (hg : w.cell? ⟨1, 0, none⟩ = some theErr) (ht0 : w.cell? t = some old) (htl : t.block < w.heap.size) (hf0 : w.frozen? t = false) :
    Calls Tryf.prog 26 #[.iface 31 (.pointer (some q)), .iface 70 (.pointer (some t))] w fun ev w' => ev = .returned (.bool true) ∧ w' = ((((w.alloc (.cells #[.pointer (some t)] 70)).alloc (.cells #[.pointer (some ⟨5, 70, none⟩), .pointer (some ⟨w.heap.size, 0, none⟩), .int .u64 150] 74)).alloc (.cells #[.pointer (some ⟨5, 70, none⟩), .pointer (some ⟨w.heap.size, 0, none⟩), .int .u64 150] 74)).alloc (.cells #[.pointer (some q)] 31)).setCell t (.pointer (some q)) := by
  unfold theErr at hg
  have x15 := ext15
  have x18 := ext18
  have x19 := ext19
  have x20 := ext20
  have x24 := ext24
  have x25 := ext25
  have x42 := ext42
  have x75 := ext75
  have x76 := ext76
  have x73 := ext73
  have yvalueOf := valueOfC
  have ytype := typeC
  have ykindP := kindPC
  have ykindE := kindEC
  have yelemT := elemTC
  have yimplements := implementsC
  have ytypeOf := typeOfC
  have yassign := assignC
  have yvalueOfE := valueOfEC
  have zmKind := mKind
  have zmElem := mElem
  have zmImpl := mImpl
  have zmAssign := mAssign
  have n8 := isNilC ⟨w.heap.size, 0, none⟩ t ((w.alloc (.cells #[.pointer (some t)] 70)).alloc (.cells #[.pointer (some ⟨5, 70, none⟩), .pointer (some ⟨w.heap.size, 0, none⟩), .int .u64 150] 74)) (by simp)
  have hg2 : ((w.alloc (.cells #[.pointer (some t)] 70)).alloc (.cells #[.pointer (some ⟨5, 70, none⟩), .pointer (some ⟨w.heap.size, 0, none⟩), .int .u64 150] 74)).cell? ⟨1, 0, none⟩ = some (.iface 62 (.agg #[.pointer (some ⟨5, 24, none⟩)])) := by
    rw [World.cell?_alloc_lt _ _ ⟨1, 0, none⟩ (by simp; omega), World.cell?_alloc_lt _ _ ⟨1, 0, none⟩ (by simp; omega)]; exact hg
  have el := elemVC ⟨w.heap.size, 0, none⟩ t (((w.alloc (.cells #[.pointer (some t)] 70)).alloc (.cells #[.pointer (some ⟨5, 70, none⟩), .pointer (some ⟨w.heap.size, 0, none⟩), .int .u64 150] 74)).alloc (.cells #[.pointer (some ⟨5, 70, none⟩), .pointer (some ⟨w.heap.size, 0, none⟩), .int .u64 150] 74)) (by rw [World.cell?_alloc_lt _ _ ⟨w.heap.size, 0, none⟩ (by simp; omega)]; simp)
  have st := setC t ⟨w.heap.size + 1 + 1 + 1, 0, none⟩ q old ((((w.alloc (.cells #[.pointer (some t)] 70)).alloc (.cells #[.pointer (some ⟨5, 70, none⟩), .pointer (some ⟨w.heap.size, 0, none⟩), .int .u64 150] 74)).alloc (.cells #[.pointer (some ⟨5, 70, none⟩), .pointer (some ⟨w.heap.size, 0, none⟩), .int .u64 150] 74)).alloc (.cells #[.pointer (some q)] 31))
    (by rw [World.cell?_alloc_at _ _ _ _ (by simp)]; rfl)
    (by rw [World.cell?_alloc_lt _ _ t (by simp; omega), World.cell?_alloc_lt _ _ t (by simp; omega), World.cell?_alloc_lt _ _ t (by simp; omega), World.cell?_alloc_lt _ _ t htl]; exact ht0)
    (by rw [World.frozen?_alloc_old _ _ t (by simp; omega), World.frozen?_alloc_old _ _ t (by simp; omega), World.frozen?_alloc_old _ _ t (by simp; omega), World.frozen?_alloc_old _ _ t (Nat.ne_of_lt htl)]; exact hf0)
  go_enter Tryf.func26, Tryf.ntmps26
  go_wp2
  refine wp_loop_rounds 1 ?_
  rw [rounds_succ]
  go_wp2
  go_ret
  exact ⟨rfl, rfl⟩
end Go.Proofs.YtgaphplndpdhaaaFmt
