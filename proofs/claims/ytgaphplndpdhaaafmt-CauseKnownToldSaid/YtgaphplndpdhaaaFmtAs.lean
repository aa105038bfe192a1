/- errors.As at two targets: a **Cause, a *Errno; at an error that is a *Cause, or a number (after the guide's worked example toyas). Conditions: errors.errorType as laid. -/
import Derived.Test.YtgaphplndpdhaaaFmtIn
namespace Go.Proofs.YtgaphplndpdhaaaFmt
open Go.RowKit Go.Extern.Stop Go.Stop Go.Extern
theorem rlm (z : Sem Value) (f : TypeId → Addr → Nat → Nat → Sem Value) (v : Value) :
    ReflectliteValue.method z f #[v] = (do match ← ReflectliteValue.parts v with | none => z | some (t, a, fl) => f t a fl (fl % 32)) := rfl
theorem rls (v x : Value) : ReflectliteValue.set #[v, x] = (do
    let (some (dst, a, fl), some (src, b, _)) := (← ReflectliteValue.parts v, ← ReflectliteValue.parts x)
      | unsupported (.noEntry "extern/(internal/reflectlite.Value).Set.zeroValue")
    if fl / ReflectliteValue.flagAddr % 2 == 0 then unsupported (.noEntry "extern/(internal/reflectlite.Value).Set.unaddressable")
    let val ← loadVar src b
    if ← Rtype.directlyAssignable dst src then storeVar dst a val
    else if ← Rtype.implements dst src then
      if (← Rtype.kind src) == 20 then
        match val with
        | .nilIface => unsupported (.noEntry "extern/reflectlite: a nil value of one interface type handed on as a value of another")
        | _ => storeVar dst a val
      else storeVar dst a (.iface src val)
    else panicString ("reflectlite.Set: value of type " ++ (← Rtype.spelt src) ++ " is not assignable to type " ++ (← Rtype.spelt dst))
    pure (.tuple #[])) := rfl
def rv (t : TypeId) (a : Addr) (fl : Int) : Value := .agg #[.pointer (some ⟨5, t, none⟩), .pointer (some a), .int .u64 fl]
def rty (t : TypeId) : Value := .agg #[.pointer (some ⟨5, t, none⟩)]
theorem valueOfC (t : Addr) (w : World) : (ReflectliteValue.unpack (.iface 70 (.pointer (some t)))).run Tryf.prog w = .ok (.agg #[.pointer (some ⟨5, 70, none⟩), .pointer (some ⟨w.heap.size, 0, none⟩), .int .u64 150]) (w.alloc (.cells #[.pointer (some t)] 70)) := by kernel_rfl
theorem typeC (a : Addr) (w : World) : (ReflectliteValue.methodAny (ReflectliteValue.valueError "reflectlite.Value.Type" 0) (fun t _ _ _ => ReflectliteType.toType t) #[.agg #[.pointer (some ⟨5, 70, none⟩), .pointer (some a), .int .u64 150]]).run Tryf.prog w = .ok (.iface 62 (.agg #[.pointer (some ⟨5, 70, none⟩)])) w := by kernel_rfl
theorem kindPC (w : World) : ((ReflectliteType.abiMethod fun t => (fun a : Nat => Value.int IntKind.u8 (a : Int)) <$> Rtype.kind t) #[.pointer (some ⟨5, 70, none⟩)]).run Tryf.prog w = .ok (.int .u8 22) w := by kernel_rfl
theorem kindEC (w : World) : ((ReflectliteType.abiMethod fun t => (fun a : Nat => Value.int IntKind.u8 (a : Int)) <$> Rtype.kind t) #[.pointer (some ⟨5, 31, none⟩)]).run Tryf.prog w = .ok (.int .u8 22) w := by kernel_rfl
theorem partsC (a : Addr) (w : World) : (ReflectliteValue.parts (.agg #[.pointer (some ⟨5, 70, none⟩), .pointer (some a), .int .u64 150])).run Tryf.prog w = .ok (some (70, a, 150)) w := by kernel_rfl
theorem isNilC (a p : Addr) (W : World) (ha : W.cell? a = some (.pointer (some p))) :
    (ReflectliteValue.method (ReflectliteValue.valueError "reflectlite.Value.IsNil" 0) ReflectliteValue.isNil #[.agg #[.pointer (some ⟨5, 70, none⟩), .pointer (some a), .int .u64 150]]).run Tryf.prog W = .ok (.bool false) W := by
  rw [rlm]
  simp only [Sem.run_bind, partsC, Result.andThen]
  simp [ReflectliteValue.isNil, loadVar, isAgg, underlying, Tryf.underlying70, ha, Result.andThen]
theorem elemTC (w : World) : (ReflectliteType.method ReflectliteType.elem #[.agg #[.pointer (some ⟨5, 70, none⟩)]]).run Tryf.prog w = .ok (.iface 62 (.agg #[.pointer (some ⟨5, 31, none⟩)])) w := by kernel_rfl
theorem implementsC (w : World) : (ReflectliteType.relation "Implements" ReflectliteType.implements_ #[.agg #[.pointer (some ⟨5, 31, none⟩)], .iface 62 (.agg #[.pointer (some ⟨5, 24, none⟩)])]).run Tryf.prog w = .ok (.bool true) w := by kernel_rfl
theorem typeOfC (v : Value) (w : World) : (ReflectliteType.typeOf #[.iface 31 v]).run Tryf.prog w = .ok (.iface 62 (.agg #[.pointer (some ⟨5, 31, none⟩)])) w := by kernel_rfl
theorem assignC (w : World) : (ReflectliteType.relation "AssignableTo" ReflectliteType.assignableTo #[.agg #[.pointer (some ⟨5, 31, none⟩)], .iface 62 (.agg #[.pointer (some ⟨5, 31, none⟩)])]).run Tryf.prog w = .ok (.bool true) w := by kernel_rfl
theorem assignNC (w : World) : (ReflectliteType.relation "AssignableTo" ReflectliteType.assignableTo #[.agg #[.pointer (some ⟨5, 26, none⟩)], .iface 62 (.agg #[.pointer (some ⟨5, 31, none⟩)])]).run Tryf.prog w = .ok (.bool false) w := by kernel_rfl
theorem valueOfEC (q : Addr) (w : World) : (ReflectliteValue.unpack (.iface 31 (.pointer (some q)))).run Tryf.prog w = .ok (.agg #[.pointer (some ⟨5, 31, none⟩), .pointer (some ⟨w.heap.size, 0, none⟩), .int .u64 150]) (w.alloc (.cells #[.pointer (some q)] 31)) := by kernel_rfl
theorem elemOfC (w : World) : (Rtype.elem? 70).run Tryf.prog w = .ok (some 31) w := by kernel_rfl
theorem mkC (p : Addr) (w : World) : (ReflectliteValue.mk 31 p ReflectliteValue.flagAddr).run Tryf.prog w = .ok (.agg #[.pointer (some ⟨5, 31, none⟩), .pointer (some p), .int .u64 406]) w := by kernel_rfl
theorem elemVC (a p : Addr) (W : World) (ha : W.cell? a = some (.pointer (some p))) :
    (ReflectliteValue.method (ReflectliteValue.valueError "reflectlite.Value.Elem" 0) ReflectliteValue.elem #[.agg #[.pointer (some ⟨5, 70, none⟩), .pointer (some a), .int .u64 150]]).run Tryf.prog W = .ok (.agg #[.pointer (some ⟨5, 31, none⟩), .pointer (some p), .int .u64 406]) W := by
  rw [rlm]
  simp only [Sem.run_bind, partsC, Result.andThen]
  simp [ReflectliteValue.elem, loadVar, isAgg, underlying, Tryf.underlying70, ha, Result.andThen, elemOfC, mkC]
theorem partsEaC (a : Addr) (w : World) : (ReflectliteValue.parts (.agg #[.pointer (some ⟨5, 31, none⟩), .pointer (some a), .int .u64 406])).run Tryf.prog w = .ok (some (31, a, 406)) w := by kernel_rfl
theorem partsEC (a : Addr) (w : World) : (ReflectliteValue.parts (.agg #[.pointer (some ⟨5, 31, none⟩), .pointer (some a), .int .u64 150])).run Tryf.prog w = .ok (some (31, a, 150)) w := by kernel_rfl
theorem directC (w : World) : (Rtype.directlyAssignable 31 31).run Tryf.prog w = .ok true w := by kernel_rfl
theorem sizeC (w : World) : (sizeOf 31).run Tryf.prog w = .ok 1 w := by kernel_rfl
theorem setC (ta b : Addr) (q : Addr) (old : Value) (W : World) (hb : W.cell? b = some (.pointer (some q))) (ht : W.cell? ta = some old) (hf : W.frozen? ta = false) :
    (ReflectliteValue.set #[.agg #[.pointer (some ⟨5, 31, none⟩), .pointer (some ta), .int .u64 406], .agg #[.pointer (some ⟨5, 31, none⟩), .pointer (some b), .int .u64 150]]).run Tryf.prog W = .ok (.tuple #[]) (W.setCell ta (.pointer (some q))) := by
  rw [rls]
  simp only [Sem.run_bind, partsEaC, partsEC, Result.andThen]
  simp [ReflectliteValue.flagAddr, loadVar, isAgg, underlying, Tryf.underlying31, hb, Result.andThen, directC, storeVar, Value.cells, storeCells, Addr.add]
  rw [run_store Tryf.prog W ta _ _ (by rfl)]
  simp [ht, hf]
theorem valueOfE (t : Addr) (w : World) : (ReflectliteValue.unpack (.iface 60 (.pointer (some t)))).run Tryf.prog w = .ok (.agg #[.pointer (some ⟨5, 60, none⟩), .pointer (some ⟨w.heap.size, 0, none⟩), .int .u64 150]) (w.alloc (.cells #[.pointer (some t)] 60)) := by kernel_rfl
theorem typeE (a : Addr) (w : World) : (ReflectliteValue.methodAny (ReflectliteValue.valueError "reflectlite.Value.Type" 0) (fun t _ _ _ => ReflectliteType.toType t) #[.agg #[.pointer (some ⟨5, 60, none⟩), .pointer (some a), .int .u64 150]]).run Tryf.prog w = .ok (.iface 62 (.agg #[.pointer (some ⟨5, 60, none⟩)])) w := by kernel_rfl
theorem kindPE (w : World) : ((ReflectliteType.abiMethod fun t => (fun a : Nat => Value.int IntKind.u8 (a : Int)) <$> Rtype.kind t) #[.pointer (some ⟨5, 60, none⟩)]).run Tryf.prog w = .ok (.int .u8 22) w := by kernel_rfl
theorem kindEE (w : World) : ((ReflectliteType.abiMethod fun t => (fun a : Nat => Value.int IntKind.u8 (a : Int)) <$> Rtype.kind t) #[.pointer (some ⟨5, 26, none⟩)]).run Tryf.prog w = .ok (.int .u8 2) w := by kernel_rfl
theorem partsE (a : Addr) (w : World) : (ReflectliteValue.parts (.agg #[.pointer (some ⟨5, 60, none⟩), .pointer (some a), .int .u64 150])).run Tryf.prog w = .ok (some (60, a, 150)) w := by kernel_rfl
theorem isNilE (a p : Addr) (W : World) (ha : W.cell? a = some (.pointer (some p))) :
    (ReflectliteValue.method (ReflectliteValue.valueError "reflectlite.Value.IsNil" 0) ReflectliteValue.isNil #[.agg #[.pointer (some ⟨5, 60, none⟩), .pointer (some a), .int .u64 150]]).run Tryf.prog W = .ok (.bool false) W := by
  rw [rlm]
  simp only [Sem.run_bind, partsE, Result.andThen]
  simp [ReflectliteValue.isNil, loadVar, isAgg, underlying, Tryf.underlying60, ha, Result.andThen]
theorem elemTE (w : World) : (ReflectliteType.method ReflectliteType.elem #[.agg #[.pointer (some ⟨5, 60, none⟩)]]).run Tryf.prog w = .ok (.iface 62 (.agg #[.pointer (some ⟨5, 26, none⟩)])) w := by kernel_rfl
theorem implementsE (w : World) : (ReflectliteType.relation "Implements" ReflectliteType.implements_ #[.agg #[.pointer (some ⟨5, 26, none⟩)], .iface 62 (.agg #[.pointer (some ⟨5, 24, none⟩)])]).run Tryf.prog w = .ok (.bool true) w := by kernel_rfl
theorem typeOfE (v : Value) (w : World) : (ReflectliteType.typeOf #[.iface 26 v]).run Tryf.prog w = .ok (.iface 62 (.agg #[.pointer (some ⟨5, 26, none⟩)])) w := by kernel_rfl
theorem assignE (w : World) : (ReflectliteType.relation "AssignableTo" ReflectliteType.assignableTo #[.agg #[.pointer (some ⟨5, 26, none⟩)], .iface 62 (.agg #[.pointer (some ⟨5, 26, none⟩)])]).run Tryf.prog w = .ok (.bool true) w := by kernel_rfl
theorem assignNE (w : World) : (ReflectliteType.relation "AssignableTo" ReflectliteType.assignableTo #[.agg #[.pointer (some ⟨5, 31, none⟩)], .iface 62 (.agg #[.pointer (some ⟨5, 26, none⟩)])]).run Tryf.prog w = .ok (.bool false) w := by kernel_rfl
theorem valueOfEE (q : Int) (w : World) : (ReflectliteValue.unpack (.iface 26 (.int .i64 q))).run Tryf.prog w = .ok (.agg #[.pointer (some ⟨5, 26, none⟩), .pointer (some ⟨w.heap.size, 0, none⟩), .int .u64 130]) (w.alloc (.cells #[.int .i64 q] 26)) := by kernel_rfl
theorem elemOfE (w : World) : (Rtype.elem? 60).run Tryf.prog w = .ok (some 26) w := by kernel_rfl
theorem mkE (p : Addr) (w : World) : (ReflectliteValue.mk 26 p ReflectliteValue.flagAddr).run Tryf.prog w = .ok (.agg #[.pointer (some ⟨5, 26, none⟩), .pointer (some p), .int .u64 386]) w := by kernel_rfl
theorem elemVE (a p : Addr) (W : World) (ha : W.cell? a = some (.pointer (some p))) :
    (ReflectliteValue.method (ReflectliteValue.valueError "reflectlite.Value.Elem" 0) ReflectliteValue.elem #[.agg #[.pointer (some ⟨5, 60, none⟩), .pointer (some a), .int .u64 150]]).run Tryf.prog W = .ok (.agg #[.pointer (some ⟨5, 26, none⟩), .pointer (some p), .int .u64 386]) W := by
  rw [rlm]
  simp only [Sem.run_bind, partsE, Result.andThen]
  simp [ReflectliteValue.elem, loadVar, isAgg, underlying, Tryf.underlying60, ha, Result.andThen, elemOfE, mkE]
theorem partsEaE (a : Addr) (w : World) : (ReflectliteValue.parts (.agg #[.pointer (some ⟨5, 26, none⟩), .pointer (some a), .int .u64 386])).run Tryf.prog w = .ok (some (26, a, 386)) w := by kernel_rfl
theorem partsEE (a : Addr) (w : World) : (ReflectliteValue.parts (.agg #[.pointer (some ⟨5, 26, none⟩), .pointer (some a), .int .u64 130])).run Tryf.prog w = .ok (some (26, a, 130)) w := by kernel_rfl
theorem directE (w : World) : (Rtype.directlyAssignable 26 26).run Tryf.prog w = .ok true w := by kernel_rfl
theorem sizeE (w : World) : (sizeOf 26).run Tryf.prog w = .ok 1 w := by kernel_rfl
theorem setE (ta b : Addr) (q : Int) (old : Value) (W : World) (hb : W.cell? b = some (.int .i64 q)) (ht : W.cell? ta = some old) (hf : W.frozen? ta = false) :
    (ReflectliteValue.set #[.agg #[.pointer (some ⟨5, 26, none⟩), .pointer (some ta), .int .u64 386], .agg #[.pointer (some ⟨5, 26, none⟩), .pointer (some b), .int .u64 130]]).run Tryf.prog W = .ok (.tuple #[]) (W.setCell ta (.int .i64 q)) := by
  rw [rls]
  simp only [Sem.run_bind, partsEaE, partsEE, Result.andThen]
  simp [ReflectliteValue.flagAddr, loadVar, isAgg, underlying, Tryf.underlying26, hb, Result.andThen, directE, storeVar, Value.cells, storeCells, Addr.add]
  rw [run_store Tryf.prog W ta _ _ (by rfl)]
  simp [ht, hf]
theorem mKind (h : Value) (w : World) : (Go.method 236 62 (.agg #[h]) "Kind").run Tryf.prog w = .ok (62, h) w := by kernel_rfl
theorem mElem (h : Value) (w : World) : (Go.method 236 62 (.agg #[h]) "Elem").run Tryf.prog w = .ok (76, .agg #[h]) w := by kernel_rfl
theorem mImpl (h : Value) (w : World) : (Go.method 236 62 (.agg #[h]) "Implements").run Tryf.prog w = .ok (77, .agg #[h]) w := by kernel_rfl
theorem mAssign (h : Value) (w : World) : (Go.method 236 62 (.agg #[h]) "AssignableTo").run Tryf.prog w = .ok (74, .agg #[h]) w := by kernel_rfl
end Go.Proofs.YtgaphplndpdhaaaFmt
