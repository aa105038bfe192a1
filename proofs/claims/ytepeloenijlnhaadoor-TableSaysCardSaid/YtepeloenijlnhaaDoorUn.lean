/- Rows of sums in a guarded operation; a literal of a sum; sums told by their first byte. No condition. -/
import Derived.Test.YtepeloenijlnhaaDoorUr
import Derived.Test.YtepeloenijlnhaaDoorUe
namespace Go.Proofs.YtepeloenijlnhaaDoor
open Go.RowKit
section
variable {ops : Array Oper} {rest : List Oper} {o : Oper} {a : Act} {w : World} {Q : Exit → Act → World → Prop}
theorem wpList_one_suOn (hw : Region.wanted o (yielded ops a.tmps) = true) (T E : TypeId) (hT : ElT T E) (x : Operand) (ho : o.op = .buildSlice T 1 #[(0, x)]) (s : Su) (hx : a.eval x = .agg (encU s).toArray)
    (h : wpList Tryd.prog ops Q rest (a.put o.dst (.slice (some ⟨w.heap.size, 0, none⟩) 1 1)) (w.alloc (.cells (encU s).toArray E))) : wpList Tryd.prog ops Q (o :: rest) a w :=
  wpList_step fun K hK => by rw [if_pos hw]; exact wp_one_su T E hT x ho s hx (hK _ _ h)
theorem wpList_lit_suOn (hw : Region.wanted o (yielded ops a.tmps) = true) (T E : TypeId) (hT : ElT T E) (n : Nat) (parts : Array (Nat × Operand)) (ho : o.op = .buildSlice T n parts) (L : List Su) (hn : L.length = n) (h0 : 0 < n) (h9 : n ≤ 1000)
    (hx : (parts.map fun (i, x) => (i, a.eval x)).toList = ((L.map aggU).zipIdx 0).map fun x => (x.2, x.1))
    (h : wpList Tryd.prog ops Q rest (a.put o.dst (.slice (some ⟨w.heap.size, 0, none⟩) n n)) (w.alloc (.cells (rowU L).toArray E))) : wpList Tryd.prog ops Q (o :: rest) a w :=
  wpList_step fun K hK => by rw [if_pos hw]; exact wp_lit_su T E hT n parts ho L hn h0 h9 hx (hK _ _ h)
theorem wpList_none_suOn (hw : Region.wanted o (yielded ops a.tmps) = true) (T E : TypeId) (hT : ElT T E) (ho : o.op = .buildSlice T 0 #[])
    (h : wpList Tryd.prog ops Q rest (a.put o.dst (.slice (some ⟨w.heap.size, 0, none⟩) 0 0)) (w.alloc (.cells #[] E))) : wpList Tryd.prog ops Q (o :: rest) a w :=
  wpList_step fun K hK => by rw [if_pos hw]; exact wp_none_su T E hT ho (hK _ _ h)
theorem wpList_append_suOn (hw : Region.wanted o (yielded ops a.tmps) = true) (T E : TypeId) (hT : ElT T E) (s x : Operand) (ho : o.op = .call { callee := .builtin .append, args := #[s, x], argTypes := #[T, T] })
    (base : Nat) (v : Value) (L : List Su) (hs : a.eval s = v) (hown : OwnU w base E v L)
    (q : Option Addr) (M : List Su) (m cap b : Nat) (hm : M.length = m) (hx : a.eval x = .slice q m cap) (hq : q = none → cap = 0) (hl : Sees w b q (rowU M))
    (hn : L.length + m ≤ 4000000) (hbase : base ≤ w.heap.size)
    (h : ∀ v' w', OwnU w' base E v' (L ++ M) → Below base w w' → wpList Tryd.prog ops Q rest (a.put o.dst v') w') : wpList Tryd.prog ops Q (o :: rest) a w :=
  wpList_step fun K hK => by
    rw [if_pos hw]
    exact wp_append_su T E hT s x ho base v L hs hown q M m cap b hm hx hq hl hn hbase fun v' w' h1 h2 => hK _ _ (h v' w' h1 ((Below.refl base w).grown h2 hbase (fun k hk => hown.base k hk)))
/-- A sum written out. -/
theorem wpList_build_su (hw : Region.wanted o (yielded ops a.tmps) = true) (E : TypeId) (parts : Array (Nat × Operand)) (ho : o.op = .build E parts) (s : Su) (l : List (Nat × Value)) (hl : (parts.map fun (i, x) => (i, a.eval x)).toList = l) (hb : Tryd.prog.built E l = some (encU s).toArray)
    (h : wpList Tryd.prog ops Q rest (a.put o.dst (.agg (encU s).toArray)) w) : wpList Tryd.prog ops Q (o :: rest) a w :=
  wpList_step fun K hK => by
    rw [if_pos hw]
    unfold Oper.wp execOp
    simp only [ho, Sem.run_bind, run_build w E _ (encU s).toArray (by rw [hl]; exact hb), Result.andThen_ok]
    exact hK _ _ h
end
/-- A sum of these two bytes, then noughts. -/
def su2 (a b : BitVec 8) : Su := ⟨a :: b :: List.replicate 30 0, by simp⟩
def su1 (a : BitVec 8) : Su := su2 a 0
theorem built_one (x : Int) (b : BitVec 8) (h : x = B b) : Tryd.prog.built 41 [(0, .int .u8 x)] = some (encU (su1 b)).toArray := by
  subst h; kernel_rfl
theorem encU_su2 (a b : BitVec 8) : encU (su2 a b) = u8v a :: u8v b :: List.replicate 30 (.int .u8 0) := by
  simp [encU, su2, u8v, B]
end Go.Proofs.YtepeloenijlnhaaDoor
