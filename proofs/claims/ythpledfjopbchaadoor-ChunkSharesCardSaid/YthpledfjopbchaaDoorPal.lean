/- A variable laid, a whole piece or sum copied into it. No condition. -/
import Derived.Test.YthpledfjopbchaaDoorPcut
namespace Go.Proofs.YthpledfjopbchaaDoor
open Go.RowKit
section
variable {ops : Array Oper} {rest : List Oper} {o : Oper} {a : Act} {w : World} {Q : Exit → Act → World → Prop}
theorem wpList_alloc (hgd : o.guard = none) (E : TypeId) (ho : o.op = .alloc E) (cells : Array Value) (hz : (zeroValue E).run Tryd.prog w = .ok (.agg cells) w)
    (h : wpList Tryd.prog ops Q rest (a.put o.dst (.pointer (some ⟨w.heap.size, 0, none⟩))) (w.alloc (.cells cells E))) : wpList Tryd.prog ops Q (o :: rest) a w :=
  wpList_plain hgd fun _ hK => by
    unfold Oper.wp execOp
    simp [ho, Instr.alloc, hz, newVar, newRow, Value.cells, Result.andThen]
    exact hK _ _ h
end
theorem zPc_run (w : World) : (zeroValue 28).run Tryd.prog w = .ok (.agg zPc) w := by kernel_rfl
theorem zSu_run (w : World) : (zeroValue 24).run Tryd.prog w = .ok (.agg (Array.replicate 32 (Value.int .u8 0))) w := by kernel_rfl
theorem zPc_size : zPc.size = 33 := by kernel_rfl
theorem encP_all {p : Pc} (h : p.2.1.oneCell' = true) : (encP p).toArray.all (·.oneCell') = true := by
  refine Array.all_eq_true_iff_forall_mem.2 fun v hv => ?_
  have hv' : v ∈ encP p := by simpa using hv
  rcases List.mem_append.1 hv' with h1 | h1
  · exact encU_one _ v h1
  · rw [List.mem_singleton.1 h1]; exact h
theorem szPc : (Tryd.prog.info? 28).map (·.size) = some 33 := by kernel_rfl
section
variable {ops : Array Oper} {rest : List Oper} {o o2 : Oper} {a : Act} {w : World} {Q : Exit → Act → World → Prop}
/-- A variable is laid, and a piece is copied into it. -/
theorem wp_copy_pc (hgd : o.guard = none) (ho : o.op = .alloc 28) (hgd2 : o2.guard = none) (x y : Operand) (ho2 : o2.op = .store 28 x y) (p : Pc) (h1 : p.2.1.oneCell' = true)
    (hx : (a.put o.dst (.pointer (some ⟨w.heap.size, 0, none⟩))).eval x = .pointer (some ⟨w.heap.size, 0, none⟩)) (hy : (a.put o.dst (.pointer (some ⟨w.heap.size, 0, none⟩))).eval y = .agg (encP p).toArray)
    (h : ∀ w', Has w' w.heap.size 28 (encP p) → Below w.heap.size w w' → wpList Tryd.prog ops Q rest ((a.put o.dst (.pointer (some ⟨w.heap.size, 0, none⟩))).put o2.dst undef) w') : wpList Tryd.prog ops Q (o :: o2 :: rest) a w := by
  refine wpList_alloc hgd _ ho zPc (zPc_run w) ?_
  have hh : Has (w.alloc (.cells zPc 28)) w.heap.size 28 zPc.toList := Has.made' _ _ _ _ (by simp)
  refine wpList_store_row hgd2 _ x y ho2 w.heap.size (encP p).toArray hx hy _ zPc.toList.toArray hh (by rw [szPc, List.size_toArray, encP_len]) (by rw [List.size_toArray, List.size_toArray, encP_len]; exact zPc_size) (encP_all h1) ?_
  exact h _ (hh.rowl _) (below_row ((Below.refl _ _).alloc (Nat.le_refl _) _) (Nat.le_refl _) _)
/-- A variable is laid, and a sum is copied into it. -/
theorem wp_copy_su (hgd : o.guard = none) (E : TypeId) (hz : (zeroValue E).run Tryd.prog w = .ok (.agg (Array.replicate 32 (Value.int .u8 0))) w) (hE : (Tryd.prog.info? E).map (·.size) = some 32) (ho : o.op = .alloc E) (hgd2 : o2.guard = none) (x y : Operand) (ho2 : o2.op = .store E x y) (s : Su)
    (hx : (a.put o.dst (.pointer (some ⟨w.heap.size, 0, none⟩))).eval x = .pointer (some ⟨w.heap.size, 0, none⟩)) (hy : (a.put o.dst (.pointer (some ⟨w.heap.size, 0, none⟩))).eval y = .agg (encU s).toArray)
    (h : ∀ w', Has w' w.heap.size E (encU s) → Below w.heap.size w w' → wpList Tryd.prog ops Q rest ((a.put o.dst (.pointer (some ⟨w.heap.size, 0, none⟩))).put o2.dst undef) w') : wpList Tryd.prog ops Q (o :: o2 :: rest) a w := by
  refine wpList_alloc hgd _ ho _ hz ?_
  have hh : Has (w.alloc (.cells (Array.replicate 32 (Value.int .u8 0)) E)) w.heap.size E (List.replicate 32 (Value.int .u8 0)) := Has.made' _ _ _ _ rfl
  refine wpList_store_row hgd2 _ x y ho2 w.heap.size (encU s).toArray hx hy _ _ hh (by rw [hE, List.size_toArray, encU_len]) (by rw [List.size_toArray, List.size_toArray, encU_len]; simp) (encU_all s) ?_
  exact h _ (hh.rowl _) (below_row ((Below.refl _ _).alloc (Nat.le_refl _) _) (Nat.le_refl _) _)
end
end Go.Proofs.YthpledfjopbchaaDoor
