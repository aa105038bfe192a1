/- The document's own cells in memory: equality, parts. No condition. -/
import Derived.Test.YtihkbblapfjobaaDoorCe
namespace Go.Proofs.YtihkbblapfjobaaDoor
open Go.RowKit
set_option maxRecDepth 100000 in
theorem builtR3 (n : Int) (k c : Su) : Tryd.prog.built 37 [(0, .int .i64 n), (1, .agg (encU k).toArray), (2, .agg (encU c).toArray)] = some (encC (n, k, c)).toArray := by
  obtain ⟨k, hk⟩ := k
  obtain ⟨c, hc⟩ := c
  unfold encC encU
  match k, hk with
  | [a0, a1, a2, a3, a4, a5, a6, a7, a8, a9, b0, b1, b2, b3, b4, b5, b6, b7, b8, b9, c0, c1, c2, c3, c4, c5, c6, c7, c8, c9, d0, d1], _ =>
    match c, hc with
    | [e0, e1, e2, e3, e4, e5, e6, e7, e8, e9, f0, f1, f2, f3, f4, f5, f6, f7, f8, f9, g0, g1, g2, g3, g4, g5, g6, g7, g8, g9, h0, h1], _ => show _ = _; kernel_rfl
set_option maxRecDepth 100000 in
theorem builtR2 (n : Int) (k : Su) : Tryd.prog.built 37 [(0, .int .i64 n), (1, .agg (encU k).toArray)] = some (encC (n, k, zS)).toArray := by
  obtain ⟨k, hk⟩ := k
  unfold encC encU
  match k, hk with
  | [a0, a1, a2, a3, a4, a5, a6, a7, a8, a9, b0, b1, b2, b3, b4, b5, b6, b7, b8, b9, c0, c1, c2, c3, c4, c5, c6, c7, c8, c9, d0, d1], _ => show _ = _; kernel_rfl
theorem builtR1 (n : Int) : Tryd.prog.built 37 [(0, .int .i64 n)] = some (encC (n, zS, zS)).toArray := by kernel_rfl
theorem builtR0 : Tryd.prog.built 37 [] = some (encC zC).toArray := by kernel_rfl
theorem zR_run (w : World) : (zeroValue 37).run Tryd.prog w = .ok (aggC zC) w := by kernel_rfl
theorem szR : (Tryd.prog.info? 37).map (·.size) = some 65 := by kernel_rfl
theorem aggTR (w : World) : (isAgg 37).run Tryd.prog w = .ok true w := by kernel_rfl
theorem aggSR (w : World) : (isAgg 35).run Tryd.prog w = .ok true w := by kernel_rfl
theorem fieldsR : Tryd.prog.underlying 37 = some (.struct (Tryd.prog.fieldsOf 37)) := by kernel_rfl
theorem flistR : ((Tryd.prog.fieldsOf 37).toList.map fun f => (f.name != "_", f.type, f.offset)) = [(true, 2, 0), (true, 35, 1), (true, 35, 33)] := by kernel_rfl
theorem heldR : Tryd.prog.stoodInHeld 37 = false := by kernel_rfl
theorem gdR : Tryd.prog.eqGuardType Tryd.prog.depth 37 = false := by kernel_rfl
set_option maxRecDepth 100000 in
theorem partkR (n : Int) (k c : Su) (w : World) : (part 35 (encC (n, k, c)).toArray 1).run Tryd.prog w = .ok (.agg (encU k).toArray) w := by
  obtain ⟨k, hk⟩ := k
  obtain ⟨c, hc⟩ := c
  unfold encC encU
  match k, hk with
  | [a0, a1, a2, a3, a4, a5, a6, a7, a8, a9, b0, b1, b2, b3, b4, b5, b6, b7, b8, b9, c0, c1, c2, c3, c4, c5, c6, c7, c8, c9, d0, d1], _ =>
    match c, hc with
    | [e0, e1, e2, e3, e4, e5, e6, e7, e8, e9, f0, f1, f2, f3, f4, f5, f6, f7, f8, f9, g0, g1, g2, g3, g4, g5, g6, g7, g8, g9, h0, h1], _ => show _ = _; kernel_rfl
set_option maxRecDepth 100000 in
theorem partcR (n : Int) (k c : Su) (w : World) : (part 35 (encC (n, k, c)).toArray 33).run Tryd.prog w = .ok (.agg (encU c).toArray) w := by
  obtain ⟨k, hk⟩ := k
  obtain ⟨c, hc⟩ := c
  unfold encC encU
  match k, hk with
  | [a0, a1, a2, a3, a4, a5, a6, a7, a8, a9, b0, b1, b2, b3, b4, b5, b6, b7, b8, b9, c0, c1, c2, c3, c4, c5, c6, c7, c8, c9, d0, d1], _ =>
    match c, hc with
    | [e0, e1, e2, e3, e4, e5, e6, e7, e8, e9, f0, f1, f2, f3, f4, f5, f6, f7, f8, f9, g0, g1, g2, g3, g4, g5, g6, g7, g8, g9, h0, h1], _ => show _ = _; kernel_rfl
theorem eqInR (c d : Ce) (w : World) : (Op.equalIn 10000 37 (aggC c) (aggC d)).run Tryd.prog w = .ok (decide (c = d)) w := by
  obtain ⟨n, k, c⟩ := c
  obtain ⟨m, l, d⟩ := d
  unfold aggC
  rw [run_equalIn_struct w 9999 37 _ _ fieldsR heldR]
  have hl := flistR
  revert hl
  generalize (Tryd.prog.fieldsOf 37).toList = fs
  intro hl
  obtain ⟨f0, f1, f2, rfl⟩ : ∃ a b c, fs = [a, b, c] := by
    have hlen : fs.length = 3 := by simpa using congrArg List.length hl
    match fs, hlen with
    | [a, b, c], _ => exact ⟨a, b, c, rfl⟩
  simp only [List.map_cons, List.map_nil, List.cons.injEq, Prod.mk.injEq, bne_iff_ne, and_true] at hl
  obtain ⟨⟨a1, a2, a3⟩, ⟨b1, b2, b3⟩, c1, c2, c3⟩ := hl
  have p0 : ∀ (x : Ce) (w : World), (part 2 (encC x).toArray 0).run Tryd.prog w = .ok (.int .i64 x.1) w := fun x w => by
    unfold part
    simp [Sem.run_bind, encC]
  have pk : ∀ (x : Ce) (w : World), (part 35 (encC x).toArray 1).run Tryd.prog w = .ok (.agg (encU x.2.1).toArray) w := fun x w => partkR x.1 x.2.1 x.2.2 w
  have pc : ∀ (x : Ce) (w : World), (part 35 (encC x).toArray 33).run Tryd.prog w = .ok (.agg (encU x.2.2).toArray) w := fun x w => partcR x.1 x.2.1 x.2.2 w
  have i0 : ∀ (a b : Int) (w : World), (Op.equalIn 9999 2 (.int .i64 a) (.int .i64 b)).run Tryd.prog w = .ok (a == b) w := fun a b w => run_equalIn_int w 9998 2 .i64 .i64 a b Tryd.underlying2
  have is : ∀ (x y : Su) (w : World), (Op.equalIn 9999 35 (.agg (encU x).toArray) (.agg (encU y).toArray)).run Tryd.prog w = .ok (decide (x = y)) w := fun x y w => eqIn9_su 35 Tryd.underlying35 x y w
  simp only [Op.eqFields, ne_eq, a1, b1, c1, a2, a3, b2, b3, c2, c3, not_false_eq_true, if_true, Sem.run_bind, p0, i0, Result.andThen_ok]
  by_cases h1 : n = m
  · subst h1
    by_cases h2 : k = l
    · subst h2
      by_cases h3 : c = d
      · subst h3; simp [pk, pc, is]
      · simp [pk, pc, is, h3]
    · simp [pk, is, h2]
  · simp [h1]
theorem eqlR {o : Oper} {ev : Operand → Value} {w : World} (x y : Operand) (T2 : TypeId) (ho : o.op = .binOp .eql 37 x y T2) (c d : Ce) (hx : ev x = aggC c) (hy : ev y = aggC d) : (execOp ev o).run Tryd.prog w = .ok (.value (.bool (decide (c = d)))) w := by
  have h1 := run_eqGuard_agg w .eql 37 x y (encC c).toArray (encC d).toArray gdR
  have h2 := eqInR c d w
  unfold aggC at h2 hx hy
  unfold execOp
  simp [ho, hx, hy, h1, h2, run_eql_struct]
theorem neqR {o : Oper} {ev : Operand → Value} {w : World} (x y : Operand) (T2 : TypeId) (ho : o.op = .binOp .neq 37 x y T2) (c d : Ce) (hx : ev x = aggC c) (hy : ev y = aggC d) : (execOp ev o).run Tryd.prog w = .ok (.value (.bool (!decide (c = d)))) w := by
  have h1 := run_eqGuard_agg w .neq 37 x y (encC c).toArray (encC d).toArray gdR
  have h2 := eqInR c d w
  unfold aggC at h2 hx hy
  unfold execOp
  simp [ho, hx, hy, h1, h2, run_neq_struct]
theorem fld0R {o : Oper} {ev : Operand → Value} {w : World} (x : Operand) (ho : o.op = .fieldAddr 37 x 0) (g : Nat) (hx : ev x = .pointer (some ⟨g, 0, none⟩)) : (execOp ev o).run Tryd.prog w = .ok (.value (.pointer (some ⟨g, 0, none⟩))) w := by
  unfold execOp; simp only [ho, hx]; kernel_rfl
theorem fld1R {o : Oper} {ev : Operand → Value} {w : World} (x : Operand) (ho : o.op = .fieldAddr 37 x 1) (g : Nat) (hx : ev x = .pointer (some ⟨g, 0, none⟩)) : (execOp ev o).run Tryd.prog w = .ok (.value (.pointer (some ⟨g, 1, none⟩))) w := by
  unfold execOp; simp only [ho, hx]; kernel_rfl
theorem fld2R {o : Oper} {ev : Operand → Value} {w : World} (x : Operand) (ho : o.op = .fieldAddr 37 x 2) (g : Nat) (hx : ev x = .pointer (some ⟨g, 0, none⟩)) : (execOp ev o).run Tryd.prog w = .ok (.value (.pointer (some ⟨g, 33, none⟩))) w := by
  unfold execOp; simp only [ho, hx]; kernel_rfl
end Go.Proofs.YtihkbblapfjobaaDoor
