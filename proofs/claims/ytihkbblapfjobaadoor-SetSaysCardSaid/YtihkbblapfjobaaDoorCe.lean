/- Cells: a count, a key, a check: their sixty-five values in memory, equality, parts. No condition. -/
import Derived.Test.YtihkbblapfjobaaDoorGo
import Derived.Test.YtihkbblapfjobaaDoorXor
import Derived.Test.YtihkbblapfjobaaDoorUp
namespace Go.Proofs.YtihkbblapfjobaaDoor
open Go.RowKit
/-- A cell: its count, its key, its check. -/
abbrev Ce := Int × Su × Su
def encC (c : Ce) : List Value := .int .i64 c.1 :: (encU c.2.1 ++ encU c.2.2)
theorem encC_len (c : Ce) : (encC c).length = 65 := by unfold encC; rw [List.length_cons, List.length_append, encU_len, encU_len]
theorem encC_ones (c : Ce) : (encC c).toArray.all (·.oneCell') = true := one32 _ fun v hv => by
  rcases List.mem_cons.1 hv with rfl | h
  · rfl
  · rcases List.mem_append.1 h with h | h
    · exact encU_one _ v h
    · exact encU_one _ v h
def aggC (c : Ce) : Value := .agg (encC c).toArray
theorem encC_0 (c : Ce) : (encC c)[0]? = some (.int .i64 c.1) := rfl
theorem encC_key (c : Ce) : ∀ (j : Nat) (u : Value), (encU c.2.1)[j]? = some u → (encC c)[1 + j]? = some u := fun j u hu => by
  have hj := (List.getElem?_eq_some_iff.1 hu).1
  unfold encC
  rw [Nat.add_comm, List.getElem?_cons_succ, List.getElem?_append_left hj]
  exact hu
theorem encC_chk (c : Ce) : ∀ (j : Nat) (u : Value), (encU c.2.2)[j]? = some u → (encC c)[33 + j]? = some u := fun j u hu => by
  unfold encC
  rw [show 33 + j = (32 + j) + 1 by omega, List.getElem?_cons_succ, List.getElem?_append_right (by rw [encU_len]; omega), encU_len, show 32 + j - 32 = j by omega]
  exact hu
theorem encC_all (c : Ce) : ∀ (j : Nat) (u : Value), (encC c)[j]? = some u → (encC c)[0 + j]? = some u := fun j u hu => by rw [Nat.zero_add]; exact hu
theorem encU_all' (s : Su) : ∀ (j : Nat) (u : Value), (encU s)[j]? = some u → (encU s)[0 + j]? = some u := fun j u hu => by rw [Nat.zero_add]; exact hu
/-- The sum of nothing but noughts. -/
def zS : Su := ⟨zero32, rfl⟩
def zC : Ce := (0, zS, zS)
theorem lst32 (s : Su) : ∃ a0 a1 a2 a3 a4 a5 a6 a7 a8 a9 b0 b1 b2 b3 b4 b5 b6 b7 b8 b9 c0 c1 c2 c3 c4 c5 c6 c7 c8 c9 d0 d1 : BitVec 8,
    s.1 = [a0, a1, a2, a3, a4, a5, a6, a7, a8, a9, b0, b1, b2, b3, b4, b5, b6, b7, b8, b9, c0, c1, c2, c3, c4, c5, c6, c7, c8, c9, d0, d1] := by
  obtain ⟨l, hl⟩ := s
  match l, hl with
  | [a0, a1, a2, a3, a4, a5, a6, a7, a8, a9, b0, b1, b2, b3, b4, b5, b6, b7, b8, b9, c0, c1, c2, c3, c4, c5, c6, c7, c8, c9, d0, d1], _ =>
    exact ⟨a0, a1, a2, a3, a4, a5, a6, a7, a8, a9, b0, b1, b2, b3, b4, b5, b6, b7, b8, b9, c0, c1, c2, c3, c4, c5, c6, c7, c8, c9, d0, d1, rfl⟩
set_option maxRecDepth 100000 in
theorem builtC3 (n : Int) (k c : Su) : Tryd.prog.built 28 [(0, .int .i64 n), (1, .agg (encU k).toArray), (2, .agg (encU c).toArray)] = some (encC (n, k, c)).toArray := by
  obtain ⟨k, hk⟩ := k
  obtain ⟨c, hc⟩ := c
  unfold encC encU
  match k, hk with
  | [a0, a1, a2, a3, a4, a5, a6, a7, a8, a9, b0, b1, b2, b3, b4, b5, b6, b7, b8, b9, c0, c1, c2, c3, c4, c5, c6, c7, c8, c9, d0, d1], _ =>
    match c, hc with
    | [e0, e1, e2, e3, e4, e5, e6, e7, e8, e9, f0, f1, f2, f3, f4, f5, f6, f7, f8, f9, g0, g1, g2, g3, g4, g5, g6, g7, g8, g9, h0, h1], _ => show _ = _; kernel_rfl
set_option maxRecDepth 100000 in
theorem builtC2 (n : Int) (k : Su) : Tryd.prog.built 28 [(0, .int .i64 n), (1, .agg (encU k).toArray)] = some (encC (n, k, zS)).toArray := by
  obtain ⟨k, hk⟩ := k
  unfold encC encU
  match k, hk with
  | [a0, a1, a2, a3, a4, a5, a6, a7, a8, a9, b0, b1, b2, b3, b4, b5, b6, b7, b8, b9, c0, c1, c2, c3, c4, c5, c6, c7, c8, c9, d0, d1], _ => show _ = _; kernel_rfl
theorem builtC1 (n : Int) : Tryd.prog.built 28 [(0, .int .i64 n)] = some (encC (n, zS, zS)).toArray := by kernel_rfl
theorem builtC0 : Tryd.prog.built 28 [] = some (encC zC).toArray := by kernel_rfl
theorem zC_run (w : World) : (zeroValue 28).run Tryd.prog w = .ok (aggC zC) w := by kernel_rfl
theorem szC : (Tryd.prog.info? 28).map (·.size) = some 65 := by kernel_rfl
theorem aggT (w : World) : (isAgg 28).run Tryd.prog w = .ok true w := by kernel_rfl
theorem aggS (w : World) : (isAgg 24).run Tryd.prog w = .ok true w := by kernel_rfl
theorem aggI (w : World) : (isAgg 2).run Tryd.prog w = .ok false w := by kernel_rfl
theorem eqIn9_su (E : TypeId) (hu : Tryd.prog.underlying E = some (.array 32 5)) (s t : Su) (w : World) : (Op.equalIn 9999 E (.agg (encU s).toArray) (.agg (encU t).toArray)).run Tryd.prog w = .ok (decide (s = t)) w := by
  have e : decide (s.1 = t.1) = decide (s = t) := by
    by_cases hst : s = t
    · subst hst; simp
    · rw [decide_eq_false hst, decide_eq_false (fun h => hst (Subtype.ext h))]
  have hs : s.1.length = 32 := s.2
  have ht : t.1.length = 32 := t.2
  unfold encU
  rw [u8v_cellU, u8v_cellU, run_equalIn_bytes w 9997 E 5 32 hu Tryd.underlying5 u8_sizeU _ _ (by simpa using hs) (by simpa using ht), beq_bytesU, e]

theorem fieldsC : Tryd.prog.underlying 28 = some (.struct (Tryd.prog.fieldsOf 28)) := by kernel_rfl
theorem flistC : ((Tryd.prog.fieldsOf 28).toList.map fun f => (f.name != "_", f.type, f.offset)) = [(true, 2, 0), (true, 24, 1), (true, 24, 33)] := by kernel_rfl
theorem heldC : Tryd.prog.stoodInHeld 28 = false := by kernel_rfl
theorem gdC : Tryd.prog.eqGuardType Tryd.prog.depth 28 = false := by kernel_rfl
set_option maxRecDepth 100000 in
theorem partkC (n : Int) (k c : Su) (w : World) : (part 24 (encC (n, k, c)).toArray 1).run Tryd.prog w = .ok (.agg (encU k).toArray) w := by
  obtain ⟨k, hk⟩ := k
  obtain ⟨c, hc⟩ := c
  unfold encC encU
  match k, hk with
  | [a0, a1, a2, a3, a4, a5, a6, a7, a8, a9, b0, b1, b2, b3, b4, b5, b6, b7, b8, b9, c0, c1, c2, c3, c4, c5, c6, c7, c8, c9, d0, d1], _ =>
    match c, hc with
    | [e0, e1, e2, e3, e4, e5, e6, e7, e8, e9, f0, f1, f2, f3, f4, f5, f6, f7, f8, f9, g0, g1, g2, g3, g4, g5, g6, g7, g8, g9, h0, h1], _ => show _ = _; kernel_rfl
set_option maxRecDepth 100000 in
theorem partcC (n : Int) (k c : Su) (w : World) : (part 24 (encC (n, k, c)).toArray 33).run Tryd.prog w = .ok (.agg (encU c).toArray) w := by
  obtain ⟨k, hk⟩ := k
  obtain ⟨c, hc⟩ := c
  unfold encC encU
  match k, hk with
  | [a0, a1, a2, a3, a4, a5, a6, a7, a8, a9, b0, b1, b2, b3, b4, b5, b6, b7, b8, b9, c0, c1, c2, c3, c4, c5, c6, c7, c8, c9, d0, d1], _ =>
    match c, hc with
    | [e0, e1, e2, e3, e4, e5, e6, e7, e8, e9, f0, f1, f2, f3, f4, f5, f6, f7, f8, f9, g0, g1, g2, g3, g4, g5, g6, g7, g8, g9, h0, h1], _ => show _ = _; kernel_rfl
theorem eqInC (c d : Ce) (w : World) : (Op.equalIn 10000 28 (aggC c) (aggC d)).run Tryd.prog w = .ok (decide (c = d)) w := by
  obtain ⟨n, k, c⟩ := c
  obtain ⟨m, l, d⟩ := d
  unfold aggC
  rw [run_equalIn_struct w 9999 28 _ _ fieldsC heldC]
  have hl := flistC
  revert hl
  generalize (Tryd.prog.fieldsOf 28).toList = fs
  intro hl
  obtain ⟨f0, f1, f2, rfl⟩ : ∃ a b c, fs = [a, b, c] := by
    have hlen : fs.length = 3 := by simpa using congrArg List.length hl
    match fs, hlen with
    | [a, b, c], _ => exact ⟨a, b, c, rfl⟩
  simp only [List.map_cons, List.map_nil, List.cons.injEq, Prod.mk.injEq, bne_iff_ne, and_true] at hl
  obtain ⟨⟨a1, a2, a3⟩, ⟨b1, b2, b3⟩, c1, c2, c3⟩ := hl
  have p0 : ∀ (x : Ce) (w : World), (part 2 (encC x).toArray 0).run Tryd.prog w = .ok (.int .i64 x.1) w := fun x w => by
    unfold part
    simp [Sem.run_bind, encC]
  have pk : ∀ (x : Ce) (w : World), (part 24 (encC x).toArray 1).run Tryd.prog w = .ok (.agg (encU x.2.1).toArray) w := fun x w => partkC x.1 x.2.1 x.2.2 w
  have pc : ∀ (x : Ce) (w : World), (part 24 (encC x).toArray 33).run Tryd.prog w = .ok (.agg (encU x.2.2).toArray) w := fun x w => partcC x.1 x.2.1 x.2.2 w
  have i0 : ∀ (a b : Int) (w : World), (Op.equalIn 9999 2 (.int .i64 a) (.int .i64 b)).run Tryd.prog w = .ok (a == b) w := fun a b w => run_equalIn_int w 9998 2 .i64 .i64 a b Tryd.underlying2
  have is : ∀ (x y : Su) (w : World), (Op.equalIn 9999 24 (.agg (encU x).toArray) (.agg (encU y).toArray)).run Tryd.prog w = .ok (decide (x = y)) w := fun x y w => eqIn9_su 24 Tryd.underlying24 x y w
  simp only [Op.eqFields, ne_eq, a1, b1, c1, a2, a3, b2, b3, c2, c3, not_false_eq_true, if_true, Sem.run_bind, p0, i0, Result.andThen_ok]
  by_cases h1 : n = m
  · subst h1
    by_cases h2 : k = l
    · subst h2
      by_cases h3 : c = d
      · subst h3; simp [pk, pc, is]
      · simp [pk, pc, is, h3]
    · simp [pk, is, h2]
  · simp [h1]
theorem eqlC {o : Oper} {ev : Operand → Value} {w : World} (x y : Operand) (T2 : TypeId) (ho : o.op = .binOp .eql 28 x y T2) (c d : Ce) (hx : ev x = aggC c) (hy : ev y = aggC d) : (execOp ev o).run Tryd.prog w = .ok (.value (.bool (decide (c = d)))) w := by
  have h1 := run_eqGuard_agg w .eql 28 x y (encC c).toArray (encC d).toArray gdC
  have h2 := eqInC c d w
  unfold aggC at h2 hx hy
  unfold execOp
  simp [ho, hx, hy, h1, h2, run_eql_struct]
theorem neqC {o : Oper} {ev : Operand → Value} {w : World} (x y : Operand) (T2 : TypeId) (ho : o.op = .binOp .neq 28 x y T2) (c d : Ce) (hx : ev x = aggC c) (hy : ev y = aggC d) : (execOp ev o).run Tryd.prog w = .ok (.value (.bool (!decide (c = d)))) w := by
  have h1 := run_eqGuard_agg w .neq 28 x y (encC c).toArray (encC d).toArray gdC
  have h2 := eqInC c d w
  unfold aggC at h2 hx hy
  unfold execOp
  simp [ho, hx, hy, h1, h2, run_neq_struct]
theorem fld0C {o : Oper} {ev : Operand → Value} {w : World} (x : Operand) (ho : o.op = .fieldAddr 28 x 0) (g : Nat) (hx : ev x = .pointer (some ⟨g, 0, none⟩)) : (execOp ev o).run Tryd.prog w = .ok (.value (.pointer (some ⟨g, 0, none⟩))) w := by
  unfold execOp; simp only [ho, hx]; kernel_rfl
theorem fld1C {o : Oper} {ev : Operand → Value} {w : World} (x : Operand) (ho : o.op = .fieldAddr 28 x 1) (g : Nat) (hx : ev x = .pointer (some ⟨g, 0, none⟩)) : (execOp ev o).run Tryd.prog w = .ok (.value (.pointer (some ⟨g, 1, none⟩))) w := by
  unfold execOp; simp only [ho, hx]; kernel_rfl
theorem fld2C {o : Oper} {ev : Operand → Value} {w : World} (x : Operand) (ho : o.op = .fieldAddr 28 x 2) (g : Nat) (hx : ev x = .pointer (some ⟨g, 0, none⟩)) : (execOp ev o).run Tryd.prog w = .ok (.value (.pointer (some ⟨g, 33, none⟩))) w := by
  unfold execOp; simp only [ho, hx]; kernel_rfl
end Go.Proofs.YtihkbblapfjobaaDoor
