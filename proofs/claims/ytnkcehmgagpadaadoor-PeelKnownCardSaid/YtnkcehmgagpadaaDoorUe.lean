/- '==' and '!=' of two sums; a row of sums written in place: one stored, the rest cleared. No condition. -/
import Derived.Test.YtnkcehmgagpadaaDoorUm
import Derived.Laws.StructEq
import Derived.Laws.IdiomCopy
import Derived.Lib.SlicesCompact
namespace Go.Proofs.YtnkcehmgagpadaaDoor
open Go.RowKit
section
variable {P : Program}
theorem eqIn_su (E : TypeId) (hu : Tryd.prog.underlying E = some (.array 32 5)) (s t : Su) (w : World) : (Op.equalIn 10000 E (.agg (encU s).toArray) (.agg (encU t).toArray)).run Tryd.prog w = .ok (decide (s = t)) w := by
  have h := arr_eqlU E hu s.1 t.1 s.2 t.2 w
  rw [run_eql_struct] at h
  have e : decide (s.1 = t.1) = decide (s = t) := by
    by_cases hst : s = t
    · subst hst; simp
    · rw [decide_eq_false hst, decide_eq_false (fun h => hst (Subtype.ext h))]
  rw [e] at h
  have h' : ((Op.equalIn 10000 E (.agg (encU s).toArray) (.agg (encU t).toArray)).run Tryd.prog w).andThen (fun b w' => Result.ok (Value.bool b) w') = .ok (.bool (decide (s = t))) w := h
  cases hr : (Op.equalIn 10000 E (.agg (encU s).toArray) (.agg (encU t).toArray)).run Tryd.prog w <;> rw [hr] at h' <;> simp [Result.andThen] at h' <;> simp_all
theorem eql_su {o : Oper} {ev : Operand → Value} {w : World} (E : TypeId) (x y : Operand) (E2 : TypeId) (ho : o.op = .binOp .eql E x y E2) (s t : Su) (hx : ev x = .agg (encU s).toArray) (hy : ev y = .agg (encU t).toArray)
    (hu : Tryd.prog.underlying E = some (.array 32 5)) (hg : Tryd.prog.eqGuardType Tryd.prog.depth E = false) : (execOp ev o).run Tryd.prog w = .ok (.value (.bool (decide (s = t)))) w := by
  have h1 := run_eqGuard_agg w .eql E x y (encU s).toArray (encU t).toArray hg
  have h2 := eqIn_su E hu s t w
  unfold execOp
  simp [ho, hx, hy, h1, h2, run_eql_struct]
theorem neq_su {o : Oper} {ev : Operand → Value} {w : World} (E : TypeId) (x y : Operand) (E2 : TypeId) (ho : o.op = .binOp .neq E x y E2) (s t : Su) (hx : ev x = .agg (encU s).toArray) (hy : ev y = .agg (encU t).toArray)
    (hu : Tryd.prog.underlying E = some (.array 32 5)) (hg : Tryd.prog.eqGuardType Tryd.prog.depth E = false) : (execOp ev o).run Tryd.prog w = .ok (.value (.bool (!decide (s = t)))) w := by
  have h1 := run_eqGuard_agg w .neq E x y (encU s).toArray (encU t).toArray hg
  have h2 := eqIn_su E hu s t w
  unfold execOp
  simp [ho, hx, hy, h1, h2, run_neq_struct]
end
/-- The row's head: these sums; what stands behind them. -/
def RowAt (w : World) (g : Nat) (E : TypeId) (dk : Array Su) (rest : List Value) : Prop := Has w g E (rowU dk.toList ++ rest)
theorem add_lit' (g o j : Nat) : (Addr.add ⟨g, o, none⟩ j) = ⟨g, o + j, none⟩ := by unfold Addr.add; split <;> simp_all
theorem RowAt.el {w : World} {g : Nat} {E : TypeId} {dk : Array Su} {rest : List Value} (h : RowAt w g E dk rest) (i : Nat) (hi : i < dk.size) (o : Nat) (ho : o = i * 32) : ∀ j u, (encU dk[i]!)[j]? = some u → w.cell? ((⟨g, o, none⟩ : Addr).add j) = some u := fun j u hu => by
  subst ho
  have hj : j < 32 := by have := (List.getElem?_eq_some_iff.1 hu).1; rwa [encU_len] at this
  have hil : i < dk.toList.length := by simpa using hi
  rw [add_lit']
  refine Has.cellv h ?_
  rw [List.getElem?_append_left (by rw [rowU_len]; omega), rowU_get dk.toList i hil j hj, ← hu, getElem!_pos dk i hi]
  simp
theorem rowU_set (L : List Su) (k : Nat) (s : Su) (hk : k < L.length) : rowU (L.set k s) = (rowU L).take (k * 32) ++ encU s ++ (rowU L).drop (k * 32 + 32) := by
  rw [rowU_take, show k * 32 + 32 = (k + 1) * 32 by omega, rowU_drop, List.set_eq_take_append_cons_drop, if_pos hk, rowU_app, List.append_assoc]
  rfl
theorem RowAt.put {w : World} {g : Nat} {E : TypeId} {dk : Array Su} {rest : List Value} (h : RowAt w g E dk rest) (k : Nat) (hk : k < dk.size) (s : Su) : RowAt (w.setCells g (k * 32) (encU s)) g E (dk.setIfInBounds k s) rest := by
  have hl : k < dk.toList.length := by simpa using hk
  have hrl := rowU_len dk.toList
  have hm := Has.mid (encU s) (k * 32) w _ h (by rw [List.length_append, hrl, encU_len]; omega)
  unfold RowAt
  have e : (dk.setIfInBounds k s).toList = dk.toList.set k s := by simp
  rw [e, rowU_set _ _ _ hl]
  rw [encU_len, List.take_append_of_le_length (by rw [hrl]; omega), List.drop_append_of_le_length (by rw [hrl]; omega)] at hm
  simpa [List.append_assoc] using hm
theorem RowAt.isIn {w : World} {g : Nat} {E : TypeId} {dk : Array Su} {rest : List Value} (h : RowAt w g E dk rest) (o n : Nat) (hn : o + n ≤ dk.size * 32) : ∀ j, j < n → (w.cell? ⟨g, o + j, none⟩).isSome = true ∧ w.frozen? ⟨g, o + j, none⟩ = false := fun j hj =>
  ⟨by rw [Has.cell h, List.getElem?_eq_getElem (by rw [List.length_append, rowU_len]; simp; omega)]; rfl, Has.free h _⟩
theorem store_su {w : World} (E : TypeId) (hi : (Tryd.prog.info? E).map (·.size) = some 32) (g k : Nat) (s : Su) {dk : Array Su} {rest : List Value} {F : TypeId} (h : RowAt w g F dk rest) (hk : k < dk.size) (o : Nat) (ho : o = k * 32) :
    (storeVar E ⟨g, o, none⟩ (.agg (encU s).toArray)).run Tryd.prog w = .ok () (w.setCells g (k * 32) (encU s)) := by
  subst ho
  have hin := h.isIn (k * 32) 32 (by omega)
  have hst := run_storeCells_cells (P := Tryd.prog) g (k * 32) (encU s) 0 w (fun j hj => by rw [Nat.add_zero]; rw [encU_len] at hj; exact (hin j hj).1) (fun j hj => by rw [Nat.add_zero]; rw [encU_len] at hj; exact (hin j hj).2) (encU_one s)
  rw [Nat.add_zero] at hst
  cases hq : Tryd.prog.info? E with
  | none => simp [hq] at hi
  | some i =>
    have hs : i.size = 32 := by simpa [hq] using hi
    have hz := encU_size s
    simp only [storeVar, sizeOf, typeInfo, Sem.run_bind]
    simp [hq, hs, Value.cells, encU_len, hst]
theorem wpList_store_su {ops : Array Oper} {rest : List Oper} {o : Oper} {a : Act} {w : World} {Q : Exit → Act → World → Prop} (hgd : o.guard = none) (E : TypeId) (hi : (Tryd.prog.info? E).map (·.size) = some 32) (x y : Operand) (ho : o.op = .store E x y) (g k : Nat) (p : Nat) (hp : p = k * 32) (hx : a.eval x = .pointer (some ⟨g, p, none⟩))
    (s : Su) (hy : a.eval y = .agg (encU s).toArray) {dk : Array Su} {row : List Value} {F : TypeId} (h : RowAt w g F dk row) (hk : k < dk.size) (hK : wpList Tryd.prog ops Q rest (a.put o.dst undef) (w.setCells g (k * 32) (encU s))) : wpList Tryd.prog ops Q (o :: rest) a w :=
  wpList_plain hgd fun _ hK' => by
    unfold Oper.wp execOp
    simp only [ho, hx, hy, Instr.storeAt, Instr.sureAddr, Sem.run_bind, Sem.run_pure, Result.andThen_ok, store_su E hi g k s h hk p hp]
    exact hK' _ _ hK
theorem zeroCells_su (n : Nat) : (Builtin.zeroCells (Array.replicate 32 (Value.int .u8 0)) n).toList = List.replicate (n * 32) (.int .u8 0) := by
  unfold Builtin.zeroCells
  apply List.ext_getElem
  · simp
  · intro i h1 h2
    have hm : i % 32 < 32 := Nat.mod_lt _ (by decide)
    simp only [Array.toList_map, Array.toList_range, Array.size_replicate, List.getElem_map, List.getElem_range, List.getElem_replicate]
    rw [getElem!_pos _ _ (by simpa using hm)]
    simp
theorem run_clear_su (T E : TypeId) (hT : ElT T E) (w : World) (g k n c ty : Nat) (hn : 0 < n) {dk : Array Su} {rest : List Value} (h : RowAt w g E dk rest) (hk : k + n ≤ dk.size) (o : Nat) (ho : o = k * 32) :
    (Builtin.clear_ #[T] ty #[.slice (some ⟨g, o, none⟩) n c]).run Tryd.prog w = .ok (.tuple #[]) (w.setCells g (k * 32) (List.replicate (n * 32) (.int .u8 0))) := by
  subst ho
  obtain ⟨i0, hi, hz0, hz1, hz2⟩ := info_parts hT.2.2
  have hin := h.isIn (k * 32) (n * 32) (by omega)
  have hst := run_storeCells_cells (P := Tryd.prog) g (k * 32) (List.replicate (n * 32) (Value.int .u8 0)) 0 w (fun j hj => by rw [Nat.add_zero]; rw [List.length_replicate] at hj; exact (hin j hj).1) (fun j hj => by rw [Nat.add_zero]; rw [List.length_replicate] at hj; exact (hin j hj).2) (fun v hv => by rw [List.eq_of_mem_replicate hv]; rfl)
  rw [Nat.add_zero] at hst
  have hz : (zeroValue E).run Tryd.prog w = .ok (.agg (Array.replicate 32 (.int .u8 0))) w := by simp [zeroValue, typeInfo, hi, hz0]
  have hc : (Value.agg (Array.replicate 32 (Value.int .u8 0))).cells = Array.replicate 32 (Value.int .u8 0) := rfl
  obtain ⟨m, rfl⟩ : ∃ m, n = m + 1 := ⟨n - 1, by omega⟩
  simp [Builtin.clear_, run_underlying hT.1, hz, hc, zeroCells_su, hst]
theorem RowAt.cleared {w : World} {g : Nat} {E : TypeId} {dk : Array Su} {rest : List Value} (h : RowAt w g E dk rest) (k n : Nat) (hk : k + n = dk.size) : ∃ back, RowAt (w.setCells g (k * 32) (List.replicate (n * 32) (.int .u8 0))) g E (dk.toList.take k).toArray back ∧ back.length = n * 32 + rest.length := by
  have hrl := rowU_len dk.toList
  have hl : dk.toList.length = dk.size := by simp
  have hm := Has.mid (List.replicate (n * 32) (Value.int .u8 0)) (k * 32) w _ h (by rw [List.length_append, hrl, List.length_replicate]; omega)
  refine ⟨List.replicate (n * 32) (.int .u8 0) ++ rest, ?_, by simp⟩
  rw [List.length_replicate, List.take_append_of_le_length (by rw [hrl]; omega), rowU_take, List.drop_append, List.drop_of_length_le (by rw [hrl]; omega), List.nil_append, show k * 32 + n * 32 - (rowU dk.toList).length = 0 by rw [hrl]; omega, List.drop_zero] at hm
  unfold RowAt
  rw [← List.append_assoc]
  exact hm
end Go.Proofs.YtnkcehmgagpadaaDoor
