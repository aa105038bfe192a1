/- Operations for such walks: values that are moved, picked, compared, reckoned; parts of a box; loads; calls; what is passed over. No condition. -/
import Derived.Test.YtnkcehmgagpadaaDoorFlw
import Derived.Test.YtnkcehmgagpadaaDoorUm
import Derived.Test.YtnkcehmgagpadaaDoorUe
namespace Go.Proofs.YtnkcehmgagpadaaDoor
open Go.RowKit
section
variable {lo : List Oper} {Q : Exit → Act → World → Prop} {S : World → Prop} {E : World → World → Prop} {L : List (Fct E)} {A : Act} {f : Nat → Value} {w : World} {j : Nat} {o : Oper}
theorem flw_val (ho : lo[j]? = some o) (hw : Region.wanted o (yielded lo.toArray A.tmps) = true) (v : Value) (hr : (execOp A.eval o).run Tryd.prog w = .ok (.value v) w) (hS : S w) (hE : E w w) (hP : Lft L j (updF f j v) w) :
    FlwOp Tryd.prog lo Q S E L A f w j := ⟨o, ho, .inl ⟨hw, fun _ hK => by
      unfold Oper.wp
      rw [hr]
      exact hK v w hS hE hP⟩⟩
theorem flw_skip (ho : lo[j]? = some o) (hw : Region.wanted o (yielded lo.toArray A.tmps) = false) (hS : S w) (hE : E w w) (hP : Lft L j (updF f j undef) w) :
    FlwOp Tryd.prog lo Q S E L A f w j := ⟨o, ho, .inr ⟨hw, hS, hE, hP⟩⟩
theorem flw_wp (ho : lo[j]? = some o) (hw : Region.wanted o (yielded lo.toArray A.tmps) = true) (h : ∀ K : Act → World → Prop, (∀ v w', S w' → E w w' → Lft L j (updF f j v) w' → K (A.put o.dst v) w') → o.wp Tryd.prog A w K Q) :
    FlwOp Tryd.prog lo Q S E L A f w j := ⟨o, ho, .inl ⟨hw, h⟩⟩
/-- A call whose answer is known. -/
theorem flw_call (ho : lo[j]? = some o) (hw : Region.wanted o (yielded lo.toArray A.tmps) = true) (g : FuncId) (xs : Array Operand) (ts : Array TypeId) (hop : o.op = .call { callee := .value (.func g), args := xs, argTypes := ts })
    (us : Array Value) (hx : xs.map A.eval = us) (hcf : ∀ w, (callFunc g us).run Tryd.prog w = .ok (.enter g us) w)
    (R : Value → World → Prop) (hc : Calls Tryd.prog g us w fun e w' => (∃ v, e = .returned v ∧ R v w') ∧ Below w.heap.size w w') (h : ∀ v w', R v w' → Below w.heap.size w w' → S w' ∧ E w w' ∧ Lft L j (updF f j v) w') : FlwOp Tryd.prog lo Q S E L A f w j :=
  ⟨o, ho, .inl ⟨hw, fun K hK => by
    unfold Oper.wp
    have he : (execOp A.eval o).run Tryd.prog w = .ok (.enter g us) w := by
      unfold execOp
      have hf : A.eval (.func g) = .func (.func g) #[] #[] := rfl
      simp [hop, resolve, invoke, hx, hf, Deferred.ofValue, hcf]
    rw [he, Oper.upon_enter]
    refine Calls.mono hc ?_
    rintro e w' ⟨⟨v, rfl, hr⟩, hb⟩
    obtain ⟨a, b, c⟩ := h v w' hr hb
    exact hK v w' a b c⟩⟩
end
/-- A guard that is known. -/
theorem wanted_of {o : Oper} {q : Array Oper} {tmps : Array Value} {i : Nat} {c b : Bool} (hg : o.guard = some (i, c)) (s : Nat) (hs : (q[i]?).bind (·.dst) = some s) (hv : tmps[s]? = some (.bool b)) : Region.wanted o (yielded q tmps) = (b == c) := by
  unfold Region.wanted yielded
  simp only [hg, hs, Option.bind_some, hv]
  cases b <;> cases c <;> rfl
section
variable {o : Oper} {ev : Operand → Value} {w : World}
theorem ex_move (x : Operand) (ho : o.op = .move x) {v : Value} (hx : ev x = v) : (execOp ev o).run Tryd.prog w = .ok (.value v) w := by
  unfold execOp; simp [ho, hx]
theorem ex_assign (x : Operand) (ho : o.op = .assign x) {v : Value} (hx : ev x = v) : (execOp ev o).run Tryd.prog w = .ok (.value v) w := by
  unfold execOp; simp [ho, hx]
theorem ex_extract (x : Operand) (k : Nat) (ho : o.op = .extract x k) {vs : Array Value} {v : Value} (hx : ev x = .tuple vs) (hk : vs[k]? = some v) : (execOp ev o).run Tryd.prog w = .ok (.value v) w := by
  unfold execOp; simp [ho, hx, Instr.extract, hk]
theorem ex_not (T : TypeId) (x : Operand) (ho : o.op = .unOp .not T x) {b : Bool} (hx : ev x = .bool b) : (execOp ev o).run Tryd.prog w = .ok (.value (.bool (!b))) w := by
  unfold execOp; simp only [ho, hx]; rfl
theorem ex_neg (T : TypeId) (x : Operand) (ho : o.op = .unOp .neg T x) (k : IntKind) (n : Int) (hx : ev x = .int k n) : (execOp ev o).run Tryd.prog w = .ok (.value (.int k (k.wrap (0 - n)))) w := by
  unfold execOp; simp only [ho, hx]; rfl
theorem ex_pick (c x y : Operand) (ho : o.op = .pick c x y) (b : Bool) (hc : ev c = .bool b) {v : Value} (h : (if b = true then ev x else ev y) = v) : (execOp ev o).run Tryd.prog w = .ok (.value v) w := by
  unfold execOp; simp only [ho, hc]; subst h; cases b <;> rfl
/-- Two numbers of one kind. -/
theorem ex_int (op : BinOp) (T T2 : TypeId) (x y : Operand) (ho : o.op = .binOp op T x y T2) (k : IntKind) (a b : Int) (hx : ev x = .int k a) (hy : ev y = .int k b) (v : Value) (hv : ∀ w, (binOp op T (.int k a) (.int k b)).run Tryd.prog w = .ok v w) : (execOp ev o).run Tryd.prog w = .ok (.value v) w := by
  have hg : ∀ w, (eqGuard op T x y (.int k a) (.int k b)).run Tryd.prog w = .ok () w := fun w => by
    unfold eqGuard
    cases op <;> rfl
  unfold execOp
  simp only [ho, hx, hy, Sem.run_bind, hg, hv, Result.andThen_ok]
  rfl
theorem ex_eqB (T T2 : TypeId) (x y : Operand) (ho : o.op = .binOp .eql T x y T2) (hT : Tryd.prog.underlying T = some .bool) (a b : Bool) (hx : ev x = .bool a) (hy : ev y = .bool b) : (execOp ev o).run Tryd.prog w = .ok (.value (.bool (a == b))) w := by
  have hg : ∀ w, (eqGuard .eql T x y (.bool a) (.bool b)).run Tryd.prog w = .ok () w := fun w => rfl
  have hv : ∀ w, (binOp .eql T (.bool a) (.bool b)).run Tryd.prog w = .ok (.bool (a == b)) w := fun w => run_eql_bool w T a b hT
  unfold execOp
  simp only [ho, hx, hy, Sem.run_bind, hg, hv, Result.andThen_ok]
  rfl
theorem ex_load1 (T : TypeId) (x : Operand) (ho : o.op = .load T x) (p : Addr) (hx : ev x = .pointer (some p)) (hT : ∀ w, (isAgg T).run Tryd.prog w = .ok false w) {v : Value} (hc : w.cell? p = some v) : (execOp ev o).run Tryd.prog w = .ok (.value v) w := by
  unfold execOp
  simp only [ho, hx, Instr.loadAt, Instr.sureAddr, Sem.run_bind, Sem.run_pure, Result.andThen_ok]
  simp [loadVar, hT, hc]
/-- A whole row of cells. -/
theorem ex_loadR (T : TypeId) (x : Operand) (ho : o.op = .load T x) (p : Addr) (hx : ev x = .pointer (some p)) (hT : ∀ w, (isAgg T).run Tryd.prog w = .ok true w) (l : List Value) (hl : (Tryd.prog.info? T).map (·.size) = some l.length)
    (hc : ∀ j u, l[j]? = some u → w.cell? (p.add j) = some u) : (execOp ev o).run Tryd.prog w = .ok (.value (.agg l.toArray)) w := by
  have hr := run_loadCells_list (P := Tryd.prog) w p l hc
  have hrun : (loadVar T p).run Tryd.prog w = .ok (.agg l.toArray) w := by
    cases hq : Tryd.prog.info? T with
    | none => simp [hq] at hl
    | some i =>
      have hs : i.size = l.length := by simpa [hq] using hl
      simp only [loadVar, sizeOf, typeInfo, Sem.run_bind, hT, Result.andThen_ok, if_true]
      simp [hq, hs, hr]
  unfold execOp
  simp only [ho, hx, Instr.loadAt, Instr.sureAddr, Sem.run_bind, Sem.run_pure, Result.andThen_ok, hrun]
theorem ex_build (T : TypeId) (parts : Array (Nat × Operand)) (ho : o.op = .build T parts) (cs : Array Value) (l : List (Nat × Value)) (hl : (parts.map fun (i, x) => (i, ev x)).toList = l) (hb : Tryd.prog.built T l = some cs) :
    (execOp ev o).run Tryd.prog w = .ok (.value (.agg cs)) w := by
  unfold execOp
  simp only [ho, Sem.run_bind, run_build w T _ cs (by rw [hl]; exact hb), Result.andThen_ok]
  rfl
end
/-- The cells of a box from a place on. -/
theorem Has.part {w : World} {g : Nat} {t : TypeId} {l : List Value} (h : Has w g t l) (m : List Value) (d : Nat) (hm : ∀ j u, m[j]? = some u → l[d + j]? = some u) : ∀ j u, m[j]? = some u → w.cell? ((⟨g, d, none⟩ : Addr).add j) = some u := fun j u hu => by
  rw [add_lit']
  exact h.cellv (hm j u hu)
end Go.Proofs.YtnkcehmgagpadaaDoor
