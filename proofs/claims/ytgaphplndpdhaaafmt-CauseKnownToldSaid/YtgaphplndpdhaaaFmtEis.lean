/- Contracts: errors.Is at a chain of one or two *Cause over a number, the target a *Cause or a number. Conditions: the two variables as laid; the blocks known whole, and apart. -/
import Derived.Test.YtgaphplndpdhaaaFmtIs
namespace Go.Proofs.YtgaphplndpdhaaaFmt
open Go.RowKit Go.Extern.Stop Go.Stop Go.Extern
theorem ext74 (args : Array Value) (w : World) : (callFunc 75 args).run Tryf.prog w = (((ReflectliteType.method fun t => do Rtype.noPackHeld "Comparable" t; pure (.bool (← typeInfo t).comparable)) args).run Tryf.prog w).andThen fun v w' => .ok (.value v) w' :=
  @run_callFunc_extern Tryf.prog 75 _ (ReflectliteType.method fun t => do Rtype.noPackHeld "Comparable" t; pure (.bool (← typeInfo t).comparable)) Tryf.func75 (by kernel_rfl) (by kernel_rfl) (by kernel_rfl) (by kernel_rfl) args w
theorem mComp (v : Value) (w : World) : (Go.method 236 62 v "Comparable").run Tryf.prog w = .ok (75, v) w := by kernel_rfl
theorem compC (w : World) : ((ReflectliteType.method fun t => do Rtype.noPackHeld "Comparable" t; pure (.bool (← typeInfo t).comparable)) #[.agg #[.pointer (some ⟨5, 31, none⟩)]]).run Tryf.prog w = .ok (.bool true) w := by kernel_rfl
theorem compE (w : World) : ((ReflectliteType.method fun t => do Rtype.noPackHeld "Comparable" t; pure (.bool (← typeInfo t).comparable)) #[.agg #[.pointer (some ⟨5, 26, none⟩)]]).run Tryf.prog w = .ok (.bool true) w := by kernel_rfl
theorem callC (w : World) : (callFunc 75 #[.agg #[.pointer (some ⟨5, 31, none⟩)]]).run Tryf.prog w = .ok (.value (.bool true)) w := by
  rw [ext74, compC]; rfl
theorem callE (w : World) : (callFunc 75 #[.agg #[.pointer (some ⟨5, 26, none⟩)]]).run Tryf.prog w = .ok (.value (.bool true)) w := by
  rw [ext74, compE]; rfl
theorem hasIsC (v : Value) (xT : TypeId) (w : World) : (Instr.typeAssert (.iface 31 v) xT 64 true).run Tryf.prog w = .ok (.tuple #[.iface 31 v, .bool true]) w := run_typeAssert_hasB Tryf.underlying64 (by kernel_rfl) v xT w
theorem noIsE (v : Value) (xT : TypeId) (w : World) : (Instr.typeAssert (.iface 26 v) xT 64 true).run Tryf.prog w = .ok (.tuple #[.nilIface, .bool false]) w := run_typeAssert_lacksB Tryf.underlying64 (by kernel_rfl) (by kernel_rfl) v xT w
theorem mIs (v : Value) (w : World) : (Go.method 236 31 v "Is").run Tryf.prog w = .ok (69, v) w := by kernel_rfl
theorem mUnwrap (v : Value) (w : World) : (Go.method 236 31 v "Unwrap").run Tryf.prog w = .ok (13, v) w := by kernel_rfl
theorem IsC.keep {w w' : World} {g : Nat} {s : ByteArray} {n : Int} {e : Value} (h : IsC w g s n e) (hb : Below w.heap.size w w') : IsC w' g s n e := Has.keep h hb (Has.lt h)
theorem keepErr {w w' : World} (hs : 1 < w.heap.size) (hg : w.cell? ⟨1, 0, none⟩ = some theErr) (hb : Below w.heap.size w w') : w'.cell? ⟨1, 0, none⟩ = some theErr :=
  (hb.cell (p := ⟨1, 0, none⟩) hs).trans hg
theorem ne_ptr {g q : Nat} (h : g ≠ q) : (⟨g, 0, none⟩ : Addr) ≠ ⟨q, 0, none⟩ := fun e => h (by injection e)

set_option maxHeartbeats 4000000 in
theorem eis_c1 (g q : Nat) (s s2 : ByteArray) (n n2 c : Int) (b : Bool) (w : World) (hs : 1 < w.heap.size) (hg : w.cell? ⟨1, 0, none⟩ = some theErr)
    (hC : IsC w g s n (.iface 26 (.int .i64 c))) (hQ : IsC w q s2 n2 .nilIface) (hne : g ≠ q) (hb : (s2.toList == s.toList) = b) :
    Calls Tryf.prog 14 #[ofC g, ofC q] w fun e w' => e = .returned (.bool b) ∧ Below w.heap.size w w' := by
  have h1 := Lib.hid (cis_cause g q s s2 n n2 _ b w hs hg hC hQ hb)
  have HC := Lib.hid hC
  have q1 := eql_other w (ne_ptr hne) hC hQ
  have x15 := ext15
  have tC := typeOfC
  have tE := typeOfE
  have cC := callC
  have cE := callE
  have mC := mComp
  have i1 := hasIsC
  have i2 := noIsE
  have m1 := mIs
  have m2 := mUnwrap
  have u1 := hasUnwrapC
  have u2 := noUnwrapE
  have u3 := noUnwrapsE
  have tt := eql_types 31 26
  have tt2 := fun vx vy => tt vx vy (by decide)
  have ts := eql_types 26 31
  have ts2 := fun vx vy => ts vx vy (by decide)
  clear tt ts
  unfold ofC at *
  clear hb hC hQ hg
  cases b with
  | true =>
    go_enter Tryf.func14, Tryf.ntmps14
    go_wp2
    refine wp_loop_rounds 1 ?_
    rw [rounds_succ]
    go_wp2_with (go_at_call 69; with_reducible refine h1.out.mono ?_; rintro e w1 ⟨rfl, hb1⟩)
    go_ret
    exact ⟨rfl, hb1⟩
  | false =>
    go_enter Tryf.func14, Tryf.ntmps14
    go_wp2
    refine wp_loop_rounds 2 ?_
    rw [rounds_succ]
    go_wp2_with (first
      | (go_at_call 69; with_reducible refine h1.out.mono ?_; rintro e w1 ⟨rfl, hb1⟩)
      | (go_at_call 13; refine (unwrap_any g s n _ _ (HC.out.keep hb1)).mono ?_; rintro e w2 ⟨rfl, rfl⟩))
    rw [rounds_succ]
    go_wp2_with fail
    go_ret
    exact ⟨rfl, hb1⟩
end Go.Proofs.YtgaphplndpdhaaaFmt
