/- Rows of cells in memory: sixty-five values a cell; rows of the call's own, put behind, written in place; tables: a seed and such a row. No condition. -/
import Derived.Test.YtnkcehmgagpadaaDoorGp2
import Derived.Test.YtnkcehmgagpadaaDoorFox
import Derived.Test.YtnkcehmgagpadaaDoorGp1
import Derived.Deep.MidRow
import Derived.Deep.OwnRows
import Derived.Laws.OwnMore
import Derived.Laws.AppendOwnNone
import Derived.ArgAppend
import Derived.Test.YtnkcehmgagpadaaDoorUv
namespace Go.Proofs.YtnkcehmgagpadaaDoor
open Go.RowKit
def rowC (L : List Ce) : List Value := L.flatMap encC
theorem encC_one (c : Ce) : ∀ v ∈ encC c, v.oneCell' = true := fun v hv => by
  rcases List.mem_cons.1 hv with rfl | h
  · rfl
  · rcases List.mem_append.1 h with h | h
    · exact encU_one _ v h
    · exact encU_one _ v h
theorem rowC_len : ∀ L : List Ce, (rowC L).length = L.length * 65
  | [] => rfl
  | x :: L => by
    have h : rowC (x :: L) = encC x ++ rowC L := rfl
    rw [h, List.length_append, encC_len, rowC_len L, List.length_cons]; omega
theorem rowC_app (A B : List Ce) : rowC (A ++ B) = rowC A ++ rowC B := List.flatMap_append
theorem rowC_one (x : Ce) : rowC [x] = encC x := by unfold rowC; simp
theorem rowC_take (L : List Ce) (k : Nat) : (rowC L).take (k * 65) = rowC (L.take k) := by
  by_cases h : k ≤ L.length
  · conv => lhs; rw [← List.take_append_drop k L, rowC_app]
    rw [List.take_append_of_le_length (by rw [rowC_len, List.length_take]; omega), List.take_of_length_le (by rw [rowC_len, List.length_take]; omega)]
  · rw [List.take_of_length_le (by rw [rowC_len]; omega), List.take_of_length_le (by omega)]
theorem rowC_drop (L : List Ce) (k : Nat) : (rowC L).drop (k * 65) = rowC (L.drop k) := by
  by_cases h : k ≤ L.length
  · conv => lhs; rw [← List.take_append_drop k L, rowC_app]
    rw [List.drop_append_of_le_length (by rw [rowC_len, List.length_take]; omega), List.drop_of_length_le (by rw [rowC_len, List.length_take]; omega), List.nil_append]
  · rw [List.drop_of_length_le (by rw [rowC_len]; omega), List.drop_of_length_le (by omega)]; rfl
theorem rowC_get (L : List Ce) (i : Nat) (h : i < L.length) (j : Nat) (hj : j < 65) : (rowC L)[i * 65 + j]? = (encC L[i])[j]? := by
  have e : rowC L = rowC (L.take i) ++ (encC L[i] ++ rowC (L.drop (i + 1))) := by
    conv => lhs; rw [← List.take_append_drop i L, List.drop_eq_getElem_cons h, rowC_app]
    rfl
  have hl : (rowC (L.take i)).length = i * 65 := by rw [rowC_len, List.length_take]; omega
  rw [e, List.getElem?_append_right (by omega), hl, List.getElem?_append_left (by rw [encC_len]; omega)]
  congr 1; omega
theorem rowC_one' (L : List Ce) : ∀ v ∈ rowC L, v.oneCell' = true := fun v hv => by
  obtain ⟨x, _, hx⟩ := List.mem_flatMap.1 hv
  exact encC_one x v hx
theorem rowC_set (L : List Ce) (k : Nat) (s : Ce) (hk : k < L.length) : rowC (L.set k s) = (rowC L).take (k * 65) ++ encC s ++ (rowC L).drop (k * 65 + 65) := by
  rw [rowC_take, show k * 65 + 65 = (k + 1) * 65 by omega, rowC_drop, List.set_eq_take_append_cons_drop, if_pos hk, rowC_app, List.append_assoc]
  rfl
/-- A type of slices of cells, the type of its cells. -/
def ElC (T E : TypeId) : Prop := Tryd.prog.underlying T = some (.slice E) ∧ E ≠ 5 ∧ (Tryd.prog.info? E).map (fun i => (i.zero, i.size, i.bytes)) = some (some (aggC zC), 65, 72)
theorem elC : ElC 26 47 := ⟨by kernel_rfl, by decide, by kernel_rfl⟩
theorem elR : ElC 50 87 := ⟨by kernel_rfl, by decide, by kernel_rfl⟩
/-- The value reads as these cells. -/
def Cs (w : World) (v : Value) (L : List Ce) : Prop := ∃ q c, v = .slice q L.length c ∧ L.length ≤ c ∧ (q = none → c = 0) ∧ Sees w w.heap.size q (rowC L)
theorem Sees.flz7 {w w' : World} {b : Nat} {q : Option Addr} {l : List Value} (h : Sees w b q l) (he : Flz w w') : Sees w' b q l := fun hl => by
  obtain ⟨a, h1, h2, h3⟩ := h hl
  refine ⟨a, h1, h2, fun j u hj => ?_⟩
  have hc := h3 j u hj
  unfold World.cell? at hc ⊢
  cases ho : w.heap[(a.add j).block]? with
  | none => rw [ho] at hc; cases hc
  | some o =>
    cases o with
    | cells cs t f =>
      obtain ⟨f', hf⟩ := he.2.2 _ _ _ _ ho
      rw [ho] at hc
      rw [hf]
      exact hc
    | _ => rw [ho] at hc; cases hc
theorem Cs.keep {w w' : World} {v : Value} {L : List Ce} (h : Cs w v L) (hb : Below w.heap.size w w') : Cs w' v L := by
  obtain ⟨q, c, h1, h2, h3, h4⟩ := h
  exact ⟨q, c, h1, h2, h3, (h4.keep hb).more hb.size⟩
theorem Cs.flz {w w' : World} {v : Value} {L : List Ce} (h : Cs w v L) (he : Flz w w') : Cs w' v L := by
  obtain ⟨q, c, h1, h2, h3, h4⟩ := h
  exact ⟨q, c, h1, h2, h3, (h4.flz7 he).more he.1⟩
theorem Cs.nil (w : World) : Cs w (.slice none 0 0) [] := ⟨none, 0, rfl, Nat.le_refl _, fun _ => rfl, Sees.nil _ _ _⟩
theorem Cs.one {w : World} {v : Value} {L : List Ce} (h : Cs w v L) : v.oneCell' = true := by obtain ⟨q, c, rfl, _⟩ := h; rfl
theorem Cs.el {w : World} {v : Value} {L : List Ce} (h : Cs w v L) {i : Nat} (hi : i < L.length) : ∃ a c, v = .slice (some a) L.length c ∧ a.block < w.heap.size ∧ ∀ w' : World, (∀ k, k < w.heap.size → w'.heap[k]? = w.heap[k]?) → ∀ j u, (encC L[i])[j]? = some u → w'.cell? ((a.add (i * 65)).add j) = some u := by
  obtain ⟨q, c, rfl, h2, h3, h4⟩ := h
  obtain ⟨a, rfl, hb, hc⟩ := h4.get (by rw [rowC_len]; omega)
  refine ⟨a, c, rfl, hb, fun w' hw j u hu => ?_⟩
  have hj : j < 65 := by have := (List.getElem?_eq_some_iff.1 hu).1; rwa [encC_len] at this
  rw [add_add, World.cell?_of_block (w := w) (hw _ (by rw [add_block]; exact hb))]
  exact hc _ u (by rw [rowC_get L i hi j hj]; exact hu)
/-- A row of cells of the call's own. -/
def RowO (base : Nat) (E : TypeId) (w : World) (v : Value) (L : List Ce) : Prop := E ≠ 5 ∧ w.ownsRow base E 65 v L.length (rowC L)
theorem RowO.nil (w : World) (base : Nat) (E : TypeId) (h : E ≠ 5) : RowO base E w (.slice none 0 0) [] := ⟨h, World.ownsRow_nil w base E 65⟩
theorem RowO.base {w : World} {base : Nat} {E : TypeId} {v : Value} {L : List Ce} (h : RowO base E w v L) : ∀ j, Value.ownBlock v = some j → base ≤ j := fun j hj => (World.ownsRow.lt h.2 j hj).1
theorem RowO.lt {w : World} {base : Nat} {E : TypeId} {v : Value} {L : List Ce} (h : RowO base E w v L) : ∀ j, Value.ownBlock v = some j → j < w.heap.size := fun j hj => (World.ownsRow.lt h.2 j hj).2
theorem RowO.flz {w w' : World} {base : Nat} {E : TypeId} {v : Value} {L : List Ce} (h : RowO base E w v L) (he : Flz w w') : RowO base E w' v L := by
  rcases h.2.2 with ⟨rfl, h0⟩ | ⟨g', cap, cur, rfl, hb', hg', r⟩
  · exact ⟨h.1, h.2.1, .inl ⟨rfl, h0⟩⟩
  · exact ⟨h.1, h.2.1, .inr ⟨g', cap, cur, rfl, hb', he.2.1 _ _ _ hg' h.1, r⟩⟩
theorem RowO.keep {w w' : World} {base : Nat} {E : TypeId} {v : Value} {L : List Ce} (h : RowO base E w v L) (hb : Below w.heap.size w w') : RowO base E w' v L := h.flz (Flz.of hb)
theorem RowO.less {w : World} {b base : Nat} {E : TypeId} {v : Value} {L : List Ce} (h : RowO base E w v L) (hb : b ≤ base) : RowO b E w v L := by
  rcases h.2.2 with ⟨rfl, h0⟩ | ⟨g', cap, cur, rfl, hb', r⟩
  · exact ⟨h.1, h.2.1, .inl ⟨rfl, h0⟩⟩
  · exact ⟨h.1, h.2.1, .inr ⟨g', cap, cur, rfl, by omega, r⟩⟩
theorem RowO.cs {w : World} {base : Nat} {E : TypeId} {v : Value} {L : List Ce} (h : RowO base E w v L) : Cs w v L := by
  rcases h.2.2 with ⟨rfl, h0⟩ | ⟨g, cap, cur, rfl, hb, hg, h1, _⟩
  · have : L = [] := List.eq_nil_of_length_eq_zero h0
    subst this
    exact Cs.nil w
  · exact ⟨_, cap, rfl, h1, fun e => (by cases e), fun _ => ⟨_, rfl, (Array.getElem?_eq_some_iff.1 hg).1, World.ownsRow.cells h.2 (g := g) rfl⟩⟩
theorem RowO.one {w : World} {base : Nat} {E : TypeId} {v : Value} {L : List Ce} (h : RowO base E w v L) : v.oneCell' = true := h.cs.one
theorem RowO.off {w w' : World} {base : Nat} {E : TypeId} {v : Value} {L : List Ce} (h : RowO base E w v L) (hk : ∀ k, Value.ownBlock v = some k → w'.heap[k]? = w.heap[k]?) : RowO base E w' v L := by
  rcases h.2.2 with ⟨rfl, h0⟩ | ⟨g', cap, cur, rfl, hb', hg', r⟩
  · exact ⟨h.1, h.2.1, .inl ⟨rfl, h0⟩⟩
  · exact ⟨h.1, h.2.1, .inr ⟨g', cap, cur, rfl, hb', (hk g' rfl).trans hg', r⟩⟩
/-- One cell of it is written. -/
theorem RowO.put {w : World} {base : Nat} {E : TypeId} {v : Value} {L : List Ce} (h : RowO base E w v L) (p : Nat) (hp : p < L.length) (c : Ce) : ∃ g cap, v = .slice (some ⟨g, 0, none⟩) L.length cap ∧ base ≤ g ∧ g < w.heap.size ∧ (∃ l, Has w g E l ∧ p * 65 + 65 ≤ l.length) ∧ w.there g (p * 65) 65 ∧ RowO base E (w.setCells g (p * 65) (encC c)) v (L.set p c) := by
  rcases h.2.2 with ⟨rfl, h0⟩ | ⟨g, cap, cur, rfl, hb, hg, h1, h2, h3, h4⟩
  · omega
  have hH : Has w g E cur.toList := by unfold Has; simpa using hg
  have hl : p * 65 + 65 ≤ cur.toList.length := by rw [Array.length_toList, h3]; omega
  have hm := Has.mid (encC c) (p * 65) w _ hH (by rw [encC_len]; exact hl)
  refine ⟨g, cap, rfl, hb, (Array.getElem?_eq_some_iff.1 hg).1, ⟨_, hH, hl⟩, hH.there _ _ hl, h.1, by rw [rowC_len], .inr ⟨g, cap, _, by rw [List.length_set], hb, hm, by rw [List.length_set]; exact h1, h2, ?_, ?_⟩⟩
  · rw [List.size_toArray, List.length_append, List.length_append, List.length_take, List.length_drop, encC_len, Array.length_toList, h3]
    rw [Array.length_toList, h3] at hl
    omega
  · rw [List.length_set, rowC_set L p c hp, ← h4, encC_len]
    rw [Array.length_toList] at hl
    have e1 : (cur.toList.take (p * 65) ++ encC c).length = p * 65 + 65 := by rw [List.length_append, List.length_take, encC_len, Array.length_toList]; omega
    rw [List.take_append, List.take_of_length_le (by rw [e1]; omega), e1, List.take_take, List.drop_take, Nat.min_eq_left (by omega)]
theorem setCells_off {g k : Nat} (hk : k ≠ g) : ∀ (vs : List Value) (o : Nat) (w : World), (w.setCells g o vs).heap[k]? = w.heap[k]?
  | [], _, _ => rfl
  | v :: r, o, w => (setCells_off hk r (o + 1) _).trans (Below.heap_setCell _ _ _ _ (by simpa using hk))
section
variable {o : Oper} {a : Act} {w : World} {Q : Exit → Act → World → Prop} {K : Act → World → Prop}
/-- A cell is stored into a row of the call's own. -/
theorem wp_store_ce (E : TypeId) (hi : (Tryd.prog.info? E).map (·.size) = some 65) (x y : Operand) (ho : o.op = .store E x y) (base : Nat) (E' : TypeId) (v : Value) (L : List Ce) (hO : RowO base E' w v L) (g cap p : Nat) (hv : v = .slice (some ⟨g, 0, none⟩) L.length cap) (hp : p < L.length)
    (hx : a.eval x = .pointer (some ((⟨g, 0, none⟩ : Addr).add (p * 65)))) (c : Ce) (hy : a.eval y = aggC c)
    (h : ∀ w', RowO base E' w' v (L.set p c) → (∀ b, b ≤ g → Below b w w') → w.grownBy w' (some g) → K (a.put o.dst undef) w') : o.wp Tryd.prog a w K Q := by
  obtain ⟨g', cap', hv', hb, hg, _, ht, hR⟩ := hO.put p hp c
  rw [hv] at hv'
  simp only [Value.slice.injEq, Option.some.injEq, Addr.mk.injEq, and_true, true_and] at hv'
  obtain ⟨rfl, rfl⟩ := hv'
  have hsz : (encC c).toArray.size = 65 := by rw [List.size_toArray, encC_len]
  rw [add_lit', Nat.zero_add] at hx
  have hbl : ∀ b, b ≤ g → Below b w (w.setCells g (p * 65) (encC c)) := fun b hbg => below_setCells hbg _ _ _ (Below.refl _ _)
  have h0 := hbl 0 (Nat.zero_le _)
  refine wp_store_mid E x y ho g (p * 65) (encC c).toArray hx hy (by rw [hsz]; exact ht) (by rw [hi, hsz]) (encC_ones c) ?_
  exact h _ hR hbl ⟨h0.os, h0.tape, h0.output, h0.size, fun k _ hk => setCells_off (fun e => hk (by rw [e])) _ _ _⟩
/-- One value of a box is stored. -/
theorem wp_store_at (T : TypeId) (hi : (Tryd.prog.info? T).map (·.size) = some 1) (x y : Operand) (ho : o.op = .store T x y) (g k : Nat) (E : TypeId) (l : List Value) (hh : Has w g E l) (hk : k < l.length) (hx : a.eval x = .pointer (some ⟨g, k, none⟩)) (v : Value) (hv : v.oneCell' = true) (hy : a.eval y = v)
    (h : ∀ w', Has w' g E (l.set k v) → (∀ b, b ≤ g → Below b w w') → (∀ j, j ≠ g → w'.heap[j]? = w.heap[j]?) → K (a.put o.dst undef) w') : o.wp Tryd.prog a w K Q := by
  have hm := Has.mid [v] k w _ hh (by simp; omega)
  have e : l.take k ++ [v] ++ l.drop (k + [v].length) = l.set k v := by
    rw [List.set_eq_take_append_cons_drop, if_pos hk, List.append_assoc]; rfl
  rw [e] at hm
  have hc : v.cells = #[v] := by cases v <;> first | rfl | (simp [Value.oneCell'] at hv; done)
  have ht := hh.there k 1 (by omega)
  have hst := run_storeCells_cells (P := Tryd.prog) g k [v] 0 w (fun j hj => by simpa using (ht j (by simpa using hj)).1) (fun j hj => by simpa using (ht j (by simpa using hj)).2) (fun u hu => by rw [List.mem_singleton.1 hu]; exact hv)
  rw [Nat.add_zero] at hst
  have hrun : (storeVar T ⟨g, k, none⟩ v).run Tryd.prog w = .ok () (w.setCells g k [v]) := by
    cases hq : Tryd.prog.info? T with
    | none => simp [hq] at hi
    | some i =>
      have hs : i.size = 1 := by simpa [hq] using hi
      simp [storeVar, sizeOf, typeInfo, hq, hc, hs, hst]
  unfold Oper.wp execOp
  simp only [ho, hx, hy, Instr.storeAt, Instr.sureAddr, Sem.run_bind, Sem.run_pure, Result.andThen_ok, hrun]
  exact h _ hm (fun b hb => below_setCells hb _ _ _ (Below.refl _ _)) (fun j hj => setCells_off hj _ _ _)
theorem fill_ce (cells : Array Value) (hc : cells.size = 65) (s : Ce) : Instr.fill (fun i => some (i * 65, 65)) cells [(0, aggC s)] = some (encC s).toArray := by
  obtain ⟨r, h1, h2, h3⟩ := Great.fill_dense (s := 65) (by decide) [aggC s] 0 cells (fun v hv => by
    rw [List.mem_singleton.1 hv]; show (encC s).toArray.size = 65; rw [List.size_toArray, encC_len]) (by rw [hc]; exact Nat.le_refl _)
  rw [show [(0, aggC s)] = (([aggC s].zipIdx 0).map fun x => (x.2, x.1)) from rfl, h1]
  congr 1
  have hs : r.size = (encC s).toArray.size := by rw [h2, hc, List.size_toArray, encC_len]
  refine Array.ext hs fun k hk1 hk2 => ?_
  have h4 := h3 k
  have hk : k < 65 := by rw [h2, hc] at hk1; exact hk1
  rw [if_pos ⟨by omega, by simpa using hk⟩, Nat.sub_zero, show k / 65 = 0 by omega, show k % 65 = k by omega] at h4
  have h6 : ([aggC s][0]?).bind (fun x : Value => x.cells[k]?) = (encC s).toArray[k]? := rfl
  rw [h6, Array.getElem?_eq_getElem hk1, Array.getElem?_eq_getElem hk2] at h4
  exact Option.some.inj h4
/-- A row of one cell. -/
theorem wp_one_ce (T E : TypeId) (hT : ElC T E) (x : Operand) (ho : o.op = .buildSlice T 1 #[(0, x)]) (s : Ce) (hx : a.eval x = aggC s)
    (h : K (a.put o.dst (.slice (some ⟨w.heap.size, 0, none⟩) 1 1)) (w.alloc (.cells (encC s).toArray E))) : o.wp Tryd.prog a w K Q := by
  obtain ⟨i0, hi, hz0, hz1, hz2⟩ := info_parts hT.2.2
  refine wp_buildSlice T E 1 _ ho (encC s).toArray i0 _ hT.1 hi hz0 (by rw [hz1]; omega) (by rw [hz1]; omega) ?_ h
  rw [hz1]
  simp only [List.map_toArray, List.map_cons, List.map_nil, hx]
  exact fill_ce _ (by simp [aggC, Value.cells, encC_len]) s
theorem run_none_ce (T E : TypeId) (hT : ElC T E) (w : World) : (Instr.buildSlice T 0 #[]).run Tryd.prog w = .ok (.slice (some ⟨w.heap.size, 0, none⟩) 0 0) (w.alloc (.cells #[] E)) := by
  obtain ⟨i0, hi, hz0, hz1, hz2⟩ := info_parts hT.2.2
  simp [Instr.buildSlice, run_underlying hT.1, sizeOf, typeInfo, hi, newRow, Instr.fill]
  rw [show Array.range 0 = #[] by kernel_rfl, Array.map_empty]
theorem RowO.empty (w : World) (base : Nat) (E : TypeId) (hE : E ≠ 5) (hb : base ≤ w.heap.size) : RowO base E (w.alloc (.cells #[] E)) (.slice (some ⟨w.heap.size, 0, none⟩) 0 0) [] :=
  ⟨hE, World.ownsRow_made w #[] 0 hb (Nat.zero_le _) (by simp)⟩
theorem wp_none_ce (T E : TypeId) (hT : ElC T E) (ho : o.op = .buildSlice T 0 #[])
    (h : K (a.put o.dst (.slice (some ⟨w.heap.size, 0, none⟩) 0 0)) (w.alloc (.cells #[] E))) : o.wp Tryd.prog a w K Q := by
  unfold Oper.wp execOp
  simp only [ho, Sem.run_bind]
  rw [Array.map_empty, run_none_ce T E hT]
  exact h
/-- Cells put behind a row of the call's own. -/
theorem wp_append_ce (T E : TypeId) (hT : ElC T E) (s x : Operand) (ho : o.op = .call { callee := .builtin .append, args := #[s, x], argTypes := #[T, T] })
    (base : Nat) (v : Value) (L : List Ce) (hs : a.eval s = v) (hown : RowO base E w v L)
    (u : Value) (M : List Ce) (hx : a.eval x = u) (hu : Cs w u M) (hn : L.length + M.length ≤ 1000000) (hbase : base ≤ w.heap.size)
    (h : ∀ v' w', RowO base E w' v' (L ++ M) → w.grownBy w' v.ownBlock → K (a.put o.dst v') w') : o.wp Tryd.prog a w K Q := by
  obtain ⟨q, cap, rfl, _, hq, hl⟩ := hu
  obtain ⟨i0, hi, hz0, hz1, hz2⟩ := info_parts hT.2.2
  have fin : ∀ v' w', w'.ownsRow base E 65 v' (L.length + M.length) (rowC L ++ rowC M) → RowO base E w' v' (L ++ M) := fun v' w' h1 => by
    refine ⟨hown.1, ?_⟩; rw [List.length_append, rowC_app]; exact h1
  have hbytes : (L.length + M.length) * 72 ≤ 140737488355328 := Nat.le_trans (Nat.mul_le_mul hn (Nat.le_refl 72)) (by decide)
  have hzz : (aggC zC).cells.size = 65 := by show (encC zC).toArray.size = 65; rw [List.size_toArray, encC_len]
  rcases q with _ | ad
  · have hl0 : M = [] := by
      rcases M with _ | ⟨y, M⟩
      · rfl
      · obtain ⟨a, h1, _⟩ := hl.get (by rw [rowC_len, List.length_cons]; omega)
        cases h1
    subst hl0
    obtain rfl := hq rfl
    have hrun := run_append_owned_none (P := Tryd.prog) (w := w) base T o.type E i0 65 hT.1 hi v L.length (rowC L) hown.2
    have hx' : a.eval x = .slice none 0 0 := hx
    unfold Oper.wp
    simp [execOp, ho, resolve, invoke, builtin, hs, hx', hrun, Result.andThen]
    exact h v w (by simpa using hown) ⟨rfl, rfl, rfl, Nat.le_refl _, fun _ _ _ => rfl⟩
  · by_cases hl0 : M = []
    · subst hl0
      refine wp_append_own w s x T ho base E i0 _ 65 72 hT.1 hi hz0 hz1 hz2 hzz (by decide) v L.length (rowC L) hs hown.2 ad 0 cap [] hx rfl (fun j u hj => by simp at hj) (fun u hu => by cases hu) (by unfold maxLen; simp at hn; omega) hbytes hbase (fun v' w' h1 h2 _ => ?_)
      exact h v' w' (fin v' w' (by simpa [rowC] using h1)) h2
    · refine wp_append_own w s x T ho base E i0 _ 65 72 hT.1 hi hz0 hz1 hz2 hzz (by decide) v L.length (rowC L) hs hown.2 ad M.length cap (rowC M) hx (rowC_len M) (fun j u hj => ?_) (fun u hu => rowC_one' M u hu) (by unfold maxLen; omega) hbytes hbase (fun v' w' h1 h2 _ => ?_)
      · obtain ⟨a', h1, _, h3⟩ := hl.get (by have := (List.getElem?_eq_some_iff.1 hj).1; omega)
        cases h1
        exact h3 j u hj
      · exact h v' w' (fin v' w' h1) h2
/-- Cells put behind a literal of none: a row of its own. -/
theorem wp_app0_ce (B0 : Nat) (T E : TypeId) (hT : ElC T E) (s x : Operand) (ho : o.op = .call { callee := .builtin .append, args := #[s, x], argTypes := #[T, T] })
    (g : Nat) (hs : a.eval s = .slice (some ⟨g, 0, none⟩) 0 0) (hown : RowO B0 E w (.slice (some ⟨g, 0, none⟩) 0 0) [])
    (u : Value) (M : List Ce) (hx : a.eval x = u) (hu : Cs w u M) (hn : M.length ≤ 1000000) (hB0 : B0 ≤ w.heap.size)
    (h : ∀ v' w', RowO B0 E w' v' M → Below w.heap.size w w' → K (a.put o.dst v') w') : o.wp Tryd.prog a w K Q := by
  obtain ⟨q, cap, rfl, _, hq, hl⟩ := hu
  obtain ⟨i0, hi, hz0, hz1, hz2⟩ := info_parts hT.2.2
  have hzz : (aggC zC).cells.size = 65 := by show (encC zC).toArray.size = 65; rw [List.size_toArray, encC_len]
  by_cases hl0 : M = []
  · subst hl0
    have hx' : a.eval x = .slice q 0 cap := hx
    have hrun : (Builtin.append_ #[T, T] o.type #[.slice (some ⟨g, 0, none⟩) 0 0, .slice q 0 cap]).run Tryd.prog w = .ok (.slice (some ⟨g, 0, none⟩) 0 0) w := by
      rcases q with _ | ad
      · obtain rfl := hq rfl
        exact run_append_owned_none (P := Tryd.prog) (w := w) B0 T o.type E i0 65 hT.1 hi _ 0 [] hown.2
      · have h3 := run_append_room_cells (P := Tryd.prog) w T o.type E i0 hT.1 hi g 0 0 0 ad 0 cap [] (by simp) (by simp) (by simp) (by omega) (by simp) (by simp)
        exact h3
    unfold Oper.wp
    simp [execOp, ho, resolve, invoke, builtin, hs, hx', hrun, Result.andThen]
    exact h _ w hown (Below.refl _ _)
  · obtain ⟨ad, rfl, _, hc⟩ := hl.get (by have := List.length_pos_iff.2 hl0; rw [rowC_len]; omega)
    have hlp := List.length_pos_iff.2 hl0
    have hbytes : (0 + M.length) * 72 ≤ 140737488355328 := Nat.le_trans (Nat.mul_le_mul (show 0 + M.length ≤ 1000000 by omega) (Nat.le_refl 72)) (by decide)
    obtain ⟨v', w', hrun, r1, r2⟩ := run_append_arg_grows (P := Tryd.prog) w T o.type E i0 _ 65 72 hT.1 hi hz0 hz1 hz2 hzz (by decide) ⟨g, 0, none⟩ 0 0 [] (by simp) (by simp) ad M.length cap (rowC M) (rowC_len M) hc (by omega) (by unfold maxLen; omega) hbytes
    unfold Oper.wp
    simp [execOp, ho, resolve, invoke, builtin, hs, hx, hrun, Result.andThen]
    have r3 : RowO w.heap.size E w' v' M := ⟨hown.1, by simpa using r1⟩
    exact h v' w' (r3.less hB0) ((Below.refl w.heap.size w).grown r2 (Nat.le_refl _) (fun k hk => by cases hk))
/-- A row of cells of noughts. -/
theorem made_ce (n : Nat) : (madeCells (aggC zC).cells (n * 65)).toList = rowC (List.replicate n zC) := by
  have hz : (aggC zC).cells = (encC zC).toArray := rfl
  have hs : (encC zC).toArray.size = 65 := by rw [List.size_toArray, encC_len]
  rw [hz]
  apply List.ext_getElem?
  intro j
  by_cases hj : j < n * 65
  · have h1 := rowC_get (List.replicate n zC) (j / 65) (by rw [List.length_replicate]; omega) (j % 65) (Nat.mod_lt _ (by decide))
    rw [show j / 65 * 65 + j % 65 = j by omega, List.getElem_replicate] at h1
    rw [h1]
    have hm : j % 65 < (encC zC).length := by rw [encC_len]; exact Nat.mod_lt _ (by decide)
    have hm2 : j % 65 < (encC zC).toArray.size := by rw [hs]; exact Nat.mod_lt _ (by decide)
    simp [madeCells, hj, encC_len, List.getElem?_eq_getElem hm]
  · rw [List.getElem?_eq_none (l := rowC _) (by rw [rowC_len, List.length_replicate]; omega), List.getElem?_eq_none (by simp [madeCells]; omega)]
theorem wp_make_ce (T E : TypeId) (hT : ElC T E) (x y : Operand) (ho : o.op = .makeSlice T x y) (n : Nat) (hn : n ≤ 1000000) (hx : a.eval x = .int .i64 (n : Int)) (hy : a.eval y = .int .i64 (n : Int))
    (h : ∀ w', RowO w.heap.size E w' (.slice (some ⟨w.heap.size, 0, none⟩) n n) (List.replicate n zC) → Below w.heap.size w w' → K (a.put o.dst (.slice (some ⟨w.heap.size, 0, none⟩) n n)) w') : o.wp Tryd.prog a w K Q := by
  obtain ⟨i0, hi, hz0, hz1, hz2⟩ := info_parts hT.2.2
  obtain ⟨w', hrun, h1, h2⟩ := run_make_full (P := Tryd.prog) w w.heap.size T E i0 _ 65 hT.1 hi hz0 hz1 .i64 .i64 n (by rw [hz2]; omega) (by unfold maxLen; omega) (Nat.le_refl _)
  rw [made_ce] at h1
  unfold Oper.wp execOp
  simp only [ho, hx, hy, Sem.run_bind, hrun, Result.andThen_ok]
  exact h w' ⟨hT.2.1, by rw [List.length_replicate]; exact h1⟩ ((Below.refl w.heap.size w).grown h2 (Nat.le_refl _) (fun k hk => by cases hk))
end
/- Tables. -/
theorem tb_ones (s : Int) {v : Value} (h : v.oneCell' = true) : ([.int .u64 s, v] : List Value).toArray.all (·.oneCell') = true := by
  rw [Array.all_eq_true_iff_forall_mem]
  intro u hu
  simp at hu
  rcases hu with rfl | rfl
  · rfl
  · exact h
theorem fldT0 {o : Oper} {ev : Operand → Value} {w : World} (T : TypeId) (hT : T = 28 ∨ T = 52) (x : Operand) (ho : o.op = .fieldAddr T x 0) (g : Nat) (hx : ev x = .pointer (some ⟨g, 0, none⟩)) : (execOp ev o).run Tryd.prog w = .ok (.value (.pointer (some ⟨g, 0, none⟩))) w := by
  unfold execOp; simp only [ho, hx]; rcases hT with rfl | rfl <;> kernel_rfl
theorem fldT1 {o : Oper} {ev : Operand → Value} {w : World} (T : TypeId) (hT : T = 28 ∨ T = 52) (x : Operand) (ho : o.op = .fieldAddr T x 1) (g : Nat) (hx : ev x = .pointer (some ⟨g, 0, none⟩)) : (execOp ev o).run Tryd.prog w = .ok (.value (.pointer (some ⟨g, 1, none⟩))) w := by
  unfold execOp; simp only [ho, hx]; rcases hT with rfl | rfl <;> kernel_rfl
theorem builtT0 : Tryd.prog.built 28 [] = some #[.int .u64 0, .slice none 0 0] := by kernel_rfl
theorem builtT2 (s : Int) (q : Option Addr) (n c : Nat) : Tryd.prog.built 28 [(0, .int .u64 s), (1, .slice q n c)] = some #[.int .u64 s, .slice q n c] := by kernel_rfl
theorem builtQ1 (s : Int) : Tryd.prog.built 52 [(0, .int .u64 s)] = some #[.int .u64 s, .slice none 0 0] := by kernel_rfl
/-- Its second part is a slice. -/
theorem builtTs (s : Int) {v : Value} (h : ∃ q n c, v = .slice q n c) : Tryd.prog.built 28 [(0, .int .u64 s), (1, v)] = some #[.int .u64 s, v] := by obtain ⟨q, n, c, rfl⟩ := h; exact builtT2 s q n c
theorem Cs.sl {w : World} {v : Value} {L : List Ce} (h : Cs w v L) : ∃ q n c, v = .slice q n c := by obtain ⟨q, c, rfl, _⟩ := h; exact ⟨_, _, _, rfl⟩
theorem RowO.sl {w : World} {base : Nat} {E : TypeId} {v : Value} {L : List Ce} (h : RowO base E w v L) : ∃ q n c, v = .slice q n c := h.cs.sl
/-- Where a box is written a row stays: its first value is no table's. -/
theorem sees_hotb {w w' : World} {q : Option Addr} {l : List Value} {g : Nat} {T : TypeId} {s : Int} {x : Value} (h : Sees w w.heap.size q l) (hh : Has w g T [.int .u64 s, x]) (hx : ∃ q n c, x = .slice q n c) (h0 : ∀ u, l[0]? = some u → ∃ k n, u = .int k n ∧ k ≠ .u64) (hs : w.heap.size ≤ w'.heap.size) (hot : ∀ k, k ≠ g → w'.heap[k]? = w.heap[k]?) : Sees w' w'.heap.size q l := fun hl => by
  obtain ⟨a, h1, h2, h3⟩ := h hl
  refine ⟨a, h1, Nat.lt_of_lt_of_le h2 hs, fun j u hj => ?_⟩
  have hne : (a.add j).block ≠ g := fun e => by
    rw [add_block] at e
    obtain ⟨k, n, hu, hk⟩ := h0 l[0] (List.getElem?_eq_getElem hl)
    have h4 := h3 0 _ (List.getElem?_eq_getElem hl)
    rw [show a.add 0 = a from rfl, hu] at h4
    obtain ⟨b, o, sp⟩ := a
    simp only at e
    subst e
    obtain ⟨qx, nx, cx, rfl⟩ := hx
    unfold Has at hh
    unfold World.cell? at h4
    simp only [hh] at h4
    split at h4
    · cases h4
    · match o, h4 with
      | 0, h4 => simp at h4; exact hk h4.1.symm
      | 1, h4 => simp at h4
      | o + 2, h4 => simp at h4
  exact (World.cell?_of_block (hot _ hne)).trans (h3 j u hj)
theorem Cs.hotb {w w' : World} {v : Value} {L : List Ce} {g : Nat} {T : TypeId} {s : Int} {x : Value} (h : Cs w v L) (hh : Has w g T [.int .u64 s, x]) (hx : ∃ q n c, x = .slice q n c) (_hT : T ≠ 5) (hs : w.heap.size ≤ w'.heap.size) (hot : ∀ k, k ≠ g → w'.heap[k]? = w.heap[k]?) : Cs w' v L := by
  obtain ⟨q, c, h1, h2, h3, h4⟩ := h
  refine ⟨q, c, h1, h2, h3, sees_hotb h4 hh hx (fun u hu => ?_) hs hot⟩
  rcases L with _ | ⟨d, L⟩
  · simp [rowC] at hu
  · rw [show (rowC (d :: L))[0]? = some (.int .i64 d.1) from rfl] at hu
    exact ⟨_, _, (Option.some.inj hu).symm, by decide⟩
theorem RowO.hotb {w w' : World} {base : Nat} {E : TypeId} {v : Value} {L : List Ce} {g : Nat} {T : TypeId} {s : Int} {x : Value} (h : RowO base E w v L) (hh : Has w g T [.int .u64 s, x]) (_hx : ∃ q n c, x = .slice q n c) (hT : T ≠ E) (_hs : w.heap.size ≤ w'.heap.size) (hot : ∀ k, k ≠ g → w'.heap[k]? = w.heap[k]?) : RowO base E w' v L := by
  refine h.off fun k hk => hot k fun e => ?_
  subst e
  rcases h.2.2 with ⟨rfl, _⟩ | ⟨g', cap, cur, rfl, _, hg, _⟩
  · cases hk
  · have e : g' = k := Option.some.inj hk
    subst e
    have h1 := Option.some.inj (hh.symm.trans hg)
    injection h1 with _ h2 _
    exact hT h2
theorem Us.hotb {w w' : World} {v : Value} {L : List Su} {g : Nat} {T : TypeId} {s : Int} {x : Value} (h : Us w v L) (hh : Has w g T [.int .u64 s, x]) (hx : ∃ q n c, x = .slice q n c) (_hT : T ≠ 5) (hs : w.heap.size ≤ w'.heap.size) (hot : ∀ k, k ≠ g → w'.heap[k]? = w.heap[k]?) : Us w' v L := by
  obtain ⟨q, c, h1, h2, h3, h4⟩ := h
  refine ⟨q, c, h1, h2, h3, sees_hotb h4 hh hx (fun u hu => ?_) hs hot⟩
  rcases L with _ | ⟨d, L⟩
  · simp [rowU] at hu
  · have h5 : u ∈ encU d := by
      have h6 : (rowU (d :: L))[0]? = (encU d)[0]? := by
        show (encU d ++ rowU L)[0]? = _
        rw [List.getElem?_append_left (by rw [encU_len]; omega)]
      rw [h6] at hu
      exact List.mem_of_getElem? hu
    obtain ⟨y, _, rfl⟩ := List.mem_map.1 h5
    exact ⟨_, _, rfl, by decide⟩
theorem Ins.hotb {w w' : World} {v : Value} {L : List Int} {g : Nat} {T : TypeId} {s : Int} {x : Value} (h : Ins w v L) (hh : Has w g T [.int .u64 s, x]) (hx : ∃ q n c, x = .slice q n c) (_hT : T ≠ 5) (hs : w.heap.size ≤ w'.heap.size) (hot : ∀ k, k ≠ g → w'.heap[k]? = w.heap[k]?) : Ins w' v L := by
  obtain ⟨q, c, h1, h4⟩ := h
  refine ⟨q, c, h1, sees_hotb h4 hh hx (fun u hu => ?_) hs hot⟩
  rcases L with _ | ⟨d, L⟩
  · simp at hu
  · rw [show ((d :: L).map fun n => Value.int .i64 n)[0]? = some (.int .i64 d) from rfl] at hu
    exact ⟨_, _, (Option.some.inj hu).symm, by decide⟩
theorem Ins.flzT {w w' : World} {v : Value} {l : List Int} (h : Ins w v l) (he : Flz w w') : Ins w' v l := by
  obtain ⟨q, c, rfl, hs⟩ := h
  exact ⟨q, c, rfl, (hs.flz7 he).more he.1⟩
theorem InsF.flz {b : Nat} {w w' : World} {v : Value} {l : List Int} (h : InsF b w v l) (he : Flz w w') : InsF b w' v l := ⟨h.1.flzT he, h.2⟩
theorem InsF.keep {b : Nat} {w w' : World} {v : Value} {l : List Int} (h : InsF b w v l) (hb : Below w.heap.size w w') : InsF b w' v l := h.flz (Flz.of hb)
theorem InsF.less {b c : Nat} {w : World} {v : Value} {l : List Int} (h : InsF b w v l) (hc : c ≤ b) : InsF c w v l := ⟨h.1, fun k hk => Nat.le_trans hc (h.2 k hk)⟩
theorem Us.flzT {w w' : World} {v : Value} {l : List Su} (h : Us w v l) (he : Flz w w') : Us w' v l := by
  obtain ⟨q, c, h1, h2, h3, h4⟩ := h
  exact ⟨q, c, h1, h2, h3, (h4.flz7 he).more he.1⟩
/-- All but one row's block is as it was. -/
def Grw (w0 w : World) (r : Option Nat) : Prop := w0.grownBy w r
theorem Grw.bel {w0 w1 w2 : World} {r : Option Nat} (h : Grw w0 w1 r) (hb : Below w1.heap.size w1 w2) : Grw w0 w2 r :=
  ⟨hb.os.trans h.os, hb.tape.trans h.tape, hb.output.trans h.output, Nat.le_trans h.size hb.size, fun k hk hr => (hb.block k (Nat.lt_of_lt_of_le hk h.size)).trans (h.block k hk hr)⟩
theorem Grw.tr {w0 w1 w2 : World} {r : Option Nat} (h : Grw w0 w1 r) (h2 : w1.grownBy w2 r) : Grw w0 w2 r :=
  ⟨h2.os.trans h.os, h2.tape.trans h.tape, h2.output.trans h.output, Nat.le_trans h.size h2.size, fun k hk hr => (h2.block k (Nat.lt_of_lt_of_le hk h.size) hr).trans (h.block k hk hr)⟩
theorem Grw.has {w w' : World} {r : Option Nat} {g : Nat} {t : TypeId} {l : List Value} (h : Grw w w' r) (hh : Has w g t l) (hr : ∀ k, r = some k → k ≠ g) : Has w' g t l := (h.block g hh.lt (fun e => hr g e.symm rfl)).trans hh
theorem Grw.refl (w : World) (r : Option Nat) : Grw w w r := ⟨rfl, rfl, rfl, Nat.le_refl _, fun _ _ _ => rfl⟩
theorem Grw.of {w w' : World} (h : Below w.heap.size w w') (r : Option Nat) : Grw w w' r := (Grw.refl w r).bel h
/-- An element of a row of the call's own. -/
theorem RowO.el {w : World} {base : Nat} {E : TypeId} {v : Value} {L : List Ce} (h : RowO base E w v L) {i : Nat} (hi : i < L.length) : ∃ g cap, v = .slice (some ⟨g, 0, none⟩) L.length cap ∧ base ≤ g ∧ g < w.heap.size ∧ ∀ w' : World, (∀ k, k < w.heap.size → w'.heap[k]? = w.heap[k]?) → ∀ j u, (encC L[i])[j]? = some u → w'.cell? (((⟨g, 0, none⟩ : Addr).add (i * 65)).add j) = some u := by
  obtain ⟨g, cap, hv, hb, hg, _, _, _⟩ := h.put i hi L[i]
  obtain ⟨a, c, ha, _, hc⟩ := h.cs.el hi
  rw [hv] at ha
  simp only [Value.slice.injEq, Option.some.injEq, true_and] at ha
  obtain ⟨rfl, rfl⟩ := ha
  exact ⟨g, cap, hv, hb, hg, hc⟩
theorem InsF.el {b : Nat} {w : World} {v : Value} {l : List Int} (h : InsF b w v l) {i : Nat} (hi : i < l.length) : ∃ a c, v = .slice (some a) l.length c ∧ ∀ w' : World, (∀ k, k < w.heap.size → w'.heap[k]? = w.heap[k]?) → w'.cell? (a.add (i * 1)) = some (.int .i64 l[i]) := by
  obtain ⟨q, c, rfl, hs⟩ := h.1
  obtain ⟨a, rfl, h2, h3⟩ := hs (by rw [List.length_map]; omega)
  refine ⟨a, c, rfl, fun w' hb => ?_⟩
  rw [Nat.mul_one]
  refine (World.cell?_of_block (hb _ (by rw [add_block]; exact h2))).trans (h3 i _ ?_)
  rw [List.getElem?_map, List.getElem?_eq_getElem hi]; rfl
/-- Where another row is written it stays. -/
theorem InsF.off {b : Nat} {w w' : World} {v : Value} {l : List Int} (h : InsF b w v l) {r : Option Nat} (hg : w.grownBy w' r) (hr : ∀ k, r = some k → k < b) : InsF b w' v l := by
  obtain ⟨⟨q, c, rfl, hs⟩, hb⟩ := h
  refine ⟨⟨q, c, rfl, fun hl => ?_⟩, hb⟩
  obtain ⟨a, rfl, h2, h3⟩ := hs hl
  refine ⟨a, rfl, Nat.lt_of_lt_of_le h2 hg.size, fun j u hj => (World.cell?_of_block (hg.block _ (by rw [add_block]; exact h2) (fun e => ?_))).trans (h3 j u hj)⟩
  have h5 := hr _ e.symm
  have h6 := hb a.block rfl
  rw [add_block] at h5
  omega
theorem InsF.len {b : Nat} {w : World} {v : Value} {l : List Int} (h : InsF b w v l) : ∃ q c, v = .slice q l.length c ∧ True := by obtain ⟨⟨q, c, rfl, _⟩, _⟩ := h; exact ⟨_, _, rfl, trivial⟩
theorem RowO.ne {w : World} {base : Nat} {E : TypeId} {v : Value} {L : List Ce} {g : Nat} {T : TypeId} {l : List Value} (h : RowO base E w v L) (hh : Has w g T l) (hT : T ≠ E) : ∀ k, Value.ownBlock v = some k → k ≠ g := fun k hk e => by
  subst e
  rcases h.2.2 with ⟨rfl, _⟩ | ⟨g', cap, cur, rfl, _, hg, _⟩
  · cases hk
  · have e : g' = k := Option.some.inj hk
    subst e
    have h1 := Option.some.inj (hh.symm.trans hg)
    injection h1 with _ h2 _
    exact hT h2
/-- A row of sums of the call's own. -/
def RowS (base : Nat) (w : World) (v : Value) (L : List Su) : Prop := OwnU w base 42 v L
theorem RowS.flz {base : Nat} {w w' : World} {v : Value} {L : List Su} (h : RowS base w v L) (he : Flz w w') : RowS base w' v L := by
  rcases h.2 with ⟨rfl, h0⟩ | ⟨g', cap, cur, rfl, hb', hg', r⟩
  · exact ⟨h.1, .inl ⟨rfl, h0⟩⟩
  · exact ⟨h.1, .inr ⟨g', cap, cur, rfl, hb', he.2.1 _ _ _ hg' (by decide), r⟩⟩
theorem RowS.keep {base : Nat} {w w' : World} {v : Value} {L : List Su} (h : RowS base w v L) (hb : Below w.heap.size w w') : RowS base w' v L := h.flz (Flz.of hb)
theorem RowS.less {base b : Nat} {w : World} {v : Value} {L : List Su} (h : RowS base w v L) (hb : b ≤ base) : RowS b w v L := OwnU.less h hb
theorem RowS.cs {base : Nat} {w : World} {v : Value} {L : List Su} (h : RowS base w v L) : ∃ q c, v = .slice q L.length c ∧ True := by obtain ⟨q, c, h1, _⟩ := OwnU.us h; exact ⟨q, c, h1, trivial⟩
theorem RowS.hotb {base : Nat} {w w' : World} {v : Value} {L : List Su} {g : Nat} {T : TypeId} {s : Int} {x : Value} (h : RowS base w v L) (hh : Has w g T [.int .u64 s, x]) (_hx : ∃ q n c, x = .slice q n c) (hT : T ≠ 42) (_hs : w.heap.size ≤ w'.heap.size) (hot : ∀ k, k ≠ g → w'.heap[k]? = w.heap[k]?) : RowS base w' v L := by
  rcases h.2 with ⟨rfl, h0⟩ | ⟨g', cap, cur, rfl, hb', hg', r⟩
  · exact ⟨h.1, .inl ⟨rfl, h0⟩⟩
  · refine ⟨h.1, .inr ⟨g', cap, cur, rfl, hb', (hot g' fun e => ?_).trans hg', r⟩⟩
    subst e
    have h1 := Option.some.inj (hh.symm.trans hg')
    injection h1 with _ h2 _
    exact hT h2
theorem RowS.grw {b base : Nat} {E : TypeId} {w w' : World} {u v : Value} {S : List Su} {L : List Ce} (h : RowS b w u S) (hO : RowO base E w v L) (hE : E ≠ 42) (hg : Grw w w' v.ownBlock) : RowS b w' u S := by
  rcases h.2 with ⟨rfl, h0⟩ | ⟨g', cap, cur, rfl, hb', hg', r⟩
  · exact ⟨h.1, .inl ⟨rfl, h0⟩⟩
  · refine ⟨h.1, .inr ⟨g', cap, cur, rfl, hb', (hg.block g' (Array.getElem?_eq_some_iff.1 hg').1 fun e => ?_).trans hg', r⟩⟩
    rcases hO.2.2 with ⟨rfl, _⟩ | ⟨k, cap2, cur2, rfl, _, hk, _⟩
    · cases e
    · have e : g' = k := Option.some.inj e
      subst e
      have h1 := Option.some.inj (hk.symm.trans hg')
      injection h1 with _ h2 _
      exact hE h2
theorem RowS.el {base : Nat} {w : World} {v : Value} {L : List Su} (h : RowS base w v L) {i : Nat} (hi : i < L.length) : ∃ a c, v = .slice (some a) L.length c ∧ ∀ w' : World, (∀ k, k < w.heap.size → w'.heap[k]? = w.heap[k]?) → ∀ j u, (encU L[i])[j]? = some u → w'.cell? ((a.add (i * 32)).add j) = some u := by
  obtain ⟨q, c, rfl, h2, h3, h4⟩ := OwnU.us h
  obtain ⟨a, rfl, hb, hc⟩ := h4.get (by rw [rowU_len]; omega)
  refine ⟨a, c, rfl, fun w' hw j u hu => ?_⟩
  have hj : j < 32 := by have := (List.getElem?_eq_some_iff.1 hu).1; rwa [encU_len] at this
  rw [add_add, World.cell?_of_block (w := w) (hw _ (by rw [add_block]; exact hb))]
  exact hc _ u (by rw [rowU_get L i hi j hj]; exact hu)
theorem Cs.lit1 {w : World} {g : Nat} {E : TypeId} {c : Ce} (h : Has w g E (encC c)) : Cs w (.slice (some ⟨g, 0, none⟩) 1 1) [c] := ⟨some ⟨g, 0, none⟩, 1, rfl, Nat.le_refl _, fun e => (by cases e), (by rw [rowC_one]; exact Sees.of_has h h.lt)⟩
/-- The heap is at least so big. -/
def Szl (b : Nat) (w : World) : Prop := b ≤ w.heap.size
theorem Szl.keep {b : Nat} {w w' : World} (h : Szl b w) (hb : Below w.heap.size w w') : Szl b w' := Nat.le_trans h hb.size
/-- A function that is handed on: what it answers of a cell and a sum. -/
structure ByF (g : FuncId) (f : Ce → Su → Ce) : Prop where
  enter : ∀ (a b : Value) (w : World), (callFunc g #[a, b]).run Tryd.prog w = .ok (.enter g #[a, b]) w
  call : ∀ (c : Ce) (x : Su) (w : World), Laid w → Calls Tryd.prog g #[aggC c, .agg (encU x).toArray] w fun e w' => (∃ v, e = .returned v ∧ v = aggC (f c x)) ∧ Below w.heap.size w w'
/-- A call as the last operation. -/
theorem tl_call {P : Program} {lo : List Oper} {Q : Exit → Act → World → Prop} {a : Act} {w : World} {m j : Nat} {o : Oper} (ho : lo[j]? = some o) (hw : Region.wanted o (yielded lo.toArray a.tmps) = true) (g : FuncId) (xs : Array Operand) (ts : Array TypeId) (hop : o.op = .call { callee := .value (.func g), args := xs, argTypes := ts })
    (us : Array Value) (hx : xs.map a.eval = us) (hcf : ∀ w, (callFunc g us).run P w = .ok (.enter g us) w) (Post : Ending → World → Prop) (hc : Calls P g us w Post) (h : ∀ e w', Post e w' → ∃ v, e = .returned v ∧ wpTail P lo.toArray Q m (j + 1) (a.put o.dst v) w') : wpTail P lo.toArray Q (m + 1) j a w :=
  tl_step ho hw fun K hK => by
    unfold Oper.wp
    have he : (execOp a.eval o).run P w = .ok (.enter g us) w := by
      unfold execOp
      have hf : a.eval (.func g) = .func (.func g) #[] #[] := rfl
      simp [hop, resolve, invoke, hx, hf, Deferred.ofValue, hcf]
    rw [he, Oper.upon_enter]
    refine Calls.mono hc ?_
    intro e w' hp
    obtain ⟨v, rfl, hq⟩ := h e w' hp
    exact hK _ _ hq
/-- A call of a function that is a value. -/
theorem flw_callV {lo : List Oper} {Q : Exit → Act → World → Prop} {S : World → Prop} {E : World → World → Prop} {L : List (Fct E)} {A : Act} {f : Nat → Value} {w : World} {j : Nat} {o : Oper} (ho : lo[j]? = some o) (hw : Region.wanted o (yielded lo.toArray A.tmps) = true) (g : FuncId) (z : Operand) (hz : A.eval z = .func (.func g) #[] #[]) (xs : Array Operand) (ts : Array TypeId) (hop : o.op = .call { callee := .value z, args := xs, argTypes := ts })
    (us : Array Value) (hx : xs.map A.eval = us) (hcf : ∀ w, (callFunc g us).run Tryd.prog w = .ok (.enter g us) w)
    (R : Value → World → Prop) (hc : Calls Tryd.prog g us w fun e w' => (∃ v, e = .returned v ∧ R v w') ∧ Below w.heap.size w w') (h : ∀ v w', R v w' → Below w.heap.size w w' → S w' ∧ E w w' ∧ Lft L j (updF f j v) w') : FlwOp Tryd.prog lo Q S E L A f w j :=
  ⟨o, ho, .inl ⟨hw, fun K hK => by
    unfold Oper.wp
    have he : (execOp A.eval o).run Tryd.prog w = .ok (.enter g us) w := by
      unfold execOp
      simp [hop, resolve, invoke, hx, hz, Deferred.ofValue, hcf]
    rw [he, Oper.upon_enter]
    refine Calls.mono hc ?_
    rintro e w' ⟨⟨v, rfl, hr⟩, hb⟩
    obtain ⟨a, b, c⟩ := h v w' hr hb
    exact hK v w' a b c⟩⟩
/-- What a table's box and a number tell. -/
theorem results_twoT {fn : Func} {p u : Tmp} {ty : TypeId} (h : fn.results = #[.cell p ty, .tmp u]) (tmps : Array Value) (w : World) (g : Nat) (t : TypeId) (cs : Array Value) (fr : Nat × Nat) {fs : Array Field}
    (hp : tmps.getD p undef = .pointer (some ⟨g, 0, none⟩)) (hg : w.heap[g]? = some (.cells cs t fr)) (x : Value) (hx : tmps.getD u undef = x)
    (hu : Tryd.prog.underlying ty = some (.struct fs)) (hi : (Tryd.prog.info? ty).map (·.size) = some cs.size) :
    (results fn tmps).run Tryd.prog w = .ok (.tuple #[.agg cs, x]) w := by
  have hp' : tmps[p]?.getD undef = .pointer (some ⟨g, 0, none⟩) := by simpa using hp
  have hx' : tmps[u]?.getD undef = x := by simpa using hx
  simp [results, h, hp', hx', asAddr, run_loadVar_row w g t ty cs fr _ hg hu rfl hi]
end Go.Proofs.YtnkcehmgagpadaaDoor
/- Tables: what is laid on the cells of a sum's places, what a set's table is, one less another, what is in it. Plain. No condition. -/
namespace Go.Proofs.YtnkcehmgagpadaaDoor
open Go.RowKit
def layT (f : Ce → Su → Ce) (s : Nat) (x : Su) (L : List Ce) : List Ce := (places s L.length x).foldl (fun L p => L.modify p.toNat (fun c => f c x)) L
def newT (s : Nat) (n : Int) : Nat × List Ce × Int := if goodN n = true then (s, List.replicate n.toNat zC, 0) else (0, [], 1)
def layA (f : Ce → Su → Ce) (s : Nat) (A : List Su) (L : List Ce) : List Ce := A.foldl (fun L x => layT f s x L) L
def ofT (s : Nat) (n : Int) (A : List Su) : Nat × List Ce × Int := if goodN n = true then (s, layA putC s (srt A) (List.replicate n.toNat zC), 0) else (0, [], 1)
def okM (s t : Nat) (A B : List Ce) : Bool := goodN A.length && goodN B.length && decide (s = t) && decide (A.length = B.length)
def minusT (s : Nat) (A : List Ce) (t : Nat) (B : List Ce) : Nat × List Ce × Int := if okM s t A B = true then (s, List.zipWith minusC A B, 0) else (0, [], 1)
def zeroT (L : List Ce) : Bool := goodN L.length && L.all (fun c => decide (c = zC))
def cntL (L : List Ce) : Int := L.foldl (fun n c => IntKind.i64.wrap (n + c.1)) 0
def cntT (L : List Ce) : Int := if goodN L.length = true then cntL (L.take (L.length / 3)) else 0
theorem lays_len (g : List Ce → Int → List Ce) (hg : ∀ L p, (g L p).length = L.length) : ∀ (l : List Int) (L : List Ce), (l.foldl g L).length = L.length
  | [], _ => rfl
  | p :: l, L => (lays_len g hg l (g L p)).trans (hg L p)
theorem layT_len (f : Ce → Su → Ce) (s : Nat) (x : Su) (L : List Ce) : (layT f s x L).length = L.length := lays_len _ (fun _ _ => List.length_modify _ _ _) _ _
theorem layA_len (f : Ce → Su → Ce) (s : Nat) : ∀ (A : List Su) (L : List Ce), (layA f s A L).length = L.length
  | [], _ => rfl
  | x :: A, L => (layA_len f s A (layT f s x L)).trans (layT_len f s x L)
theorem layA_snoc (f : Ce → Su → Ce) (s : Nat) (A : List Su) (x : Su) (L : List Ce) : layA f s (A ++ [x]) L = layT f s x (layA f s A L) := by unfold layA; rw [List.foldl_append]; rfl
theorem good_nat {n : Nat} (h : goodN n = true) : ∃ p : Nat, 1 ≤ p ∧ p ≤ 341 ∧ n = 3 * p := by
  obtain ⟨p, h1, h2, h3⟩ := good_part h
  exact ⟨p, h1, h2, by omega⟩
theorem good_int {n : Int} (h : goodN n = true) : ∃ m : Nat, n = m ∧ 3 ≤ m ∧ m ≤ 1024 := by
  obtain ⟨p, h1, h2, h3⟩ := good_part h
  exact ⟨3 * p, by omega, by omega, by omega⟩
/-- A place lies in the table. -/
theorem place_lt {s : Nat} {n : Nat} {x : Su} {i : Nat} (h : i < (places s n x).length) : ∃ k : Nat, (places s n x)[i] = (k : Int) ∧ k < n := by
  cases hg : goodN n with
  | false => rw [places_none hg] at h; simp at h
  | true =>
    obtain ⟨p, h1, h2, h3⟩ := good_part hg
    have h4 : i < 3 := by rw [places_len hg] at h; exact h
    have e1 : places s (n : Int) x = (List.range 3).map (placeAt s n x) := if_pos hg
    have e : (places s (n : Int) x)[i] = placeAt s n x i := by simp only [e1, List.getElem_map, List.getElem_range]
    have h5 : (n : Int) / 3 = p := by omega
    have h6 := Int.emod_nonneg (M (wordOf (placeS s x).1 i)) (show (p : Int) ≠ 0 by omega)
    have h7 := Int.emod_lt_of_pos (M (wordOf (placeS s x).1 i)) (show (0 : Int) < p by omega)
    have h8 : placeAt s n x i = i * p + M (wordOf (placeS s x).1 i) % p := by unfold placeAt; rw [h5]
    have h9 : (i : Int) * p ≤ 2 * p := Int.mul_le_mul_of_nonneg_right (by omega) (by omega)
    have h10 : 0 ≤ (i : Int) * p := Int.mul_nonneg (by omega) (by omega)
    refine ⟨(placeAt s n x i).toNat, ?_, ?_⟩
    · rw [e]; omega
    · omega
/-- What is laid on after the first places. -/
def layTo (f : Ce → Su → Ce) (l : List Int) (x : Su) (L : List Ce) (i : Nat) : List Ce := (l.take i).foldl (fun L p => L.modify p.toNat (fun c => f c x)) L
theorem layTo_len (f : Ce → Su → Ce) (l : List Int) (x : Su) (L : List Ce) (i : Nat) : (layTo f l x L i).length = L.length := lays_len _ (fun _ _ => List.length_modify _ _ _) _ _
theorem layTo_all (f : Ce → Su → Ce) (s : Nat) (x : Su) (L : List Ce) : layTo f (places s L.length x) x L (places s L.length x).length = layT f s x L := by unfold layTo layT; rw [List.take_length]
theorem layTo_succ (f : Ce → Su → Ce) (l : List Int) (x : Su) (L : List Ce) (i : Nat) (h : i < l.length) (k : Nat) (hk : l[i] = (k : Int)) (hl : k < (layTo f l x L i).length) : layTo f l x L (i + 1) = (layTo f l x L i).set k (f (layTo f l x L i)[k] x) := by
  have e : layTo f l x L (i + 1) = (layTo f l x L i).modify k (fun c => f c x) := by
    unfold layTo
    rw [List.take_succ_eq_append_getElem h, List.foldl_append, hk]; rfl
  rw [e]
  refine List.ext_getElem (by simp) fun j h1 h2 => ?_
  rw [List.getElem_modify, List.getElem_set]
  by_cases hkj : k = j
  · subst hkj; simp
  · simp [hkj]
end Go.Proofs.YtnkcehmgagpadaaDoor
/- Plain laws of tables: in whatever order, taken out again, one less another, how many. No condition. -/
namespace Go.Proofs.YtnkcehmgagpadaaDoor
open Go.RowKit
/-- What is laid on at these places. -/
def mods (ps : List Nat) (φ : Ce → Ce) (L : List Ce) : List Ce := ps.foldl (fun L p => L.modify p φ) L
theorem mods_len (φ : Ce → Ce) : ∀ (ps : List Nat) (L : List Ce), (mods ps φ L).length = L.length
  | [], _ => rfl
  | p :: ps, L => (mods_len φ ps (L.modify p φ)).trans (List.length_modify _ _ _)
theorem layT_mods (f : Ce → Su → Ce) (s : Nat) (x : Su) (L : List Ce) : layT f s x L = mods ((places s L.length x).map Int.toNat) (fun c => f c x) L := by unfold layT mods; rw [List.foldl_map]
theorem mod_comm {φ ψ : Ce → Ce} (h : ∀ c, φ (ψ c) = ψ (φ c)) (i j : Nat) (L : List Ce) : (L.modify j ψ).modify i φ = (L.modify i φ).modify j ψ := by
  refine List.ext_getElem (by simp) fun k h1 h2 => ?_
  simp only [List.getElem_modify]
  by_cases hi : i = k <;> by_cases hj : j = k <;> simp [hi, hj, h]
theorem mods_mod {φ ψ : Ce → Ce} (h : ∀ c, φ (ψ c) = ψ (φ c)) (i : Nat) : ∀ (ps : List Nat) (L : List Ce), (mods ps ψ L).modify i φ = mods ps ψ (L.modify i φ)
  | [], _ => rfl
  | p :: ps, L => by
    show (mods ps ψ (L.modify p ψ)).modify i φ = mods ps ψ ((L.modify i φ).modify p ψ)
    rw [mods_mod h i ps, mod_comm h]
theorem mods_comm {φ ψ : Ce → Ce} (h : ∀ c, φ (ψ c) = ψ (φ c)) (qs : List Nat) : ∀ (ps : List Nat) (L : List Ce), mods ps φ (mods qs ψ L) = mods qs ψ (mods ps φ L)
  | [], _ => rfl
  | p :: ps, L => by
    show mods ps φ ((mods qs ψ L).modify p φ) = mods qs ψ (mods ps φ (L.modify p φ))
    rw [mods_mod h p qs, mods_comm h qs ps]
theorem mod_back {φ ψ : Ce → Ce} (i : Nat) (L : List Ce) (h : ∀ c ∈ L, φ (ψ c) = c) : (L.modify i ψ).modify i φ = L := by
  refine List.ext_getElem (by simp) fun k h1 h2 => ?_
  simp only [List.getElem_modify]
  by_cases hi : i = k
  · simp [hi]; exact h _ (List.getElem_mem _)
  · simp [hi]
theorem mods_back {φ ψ : Ce → Ce} (hc : ∀ c, φ (ψ c) = ψ (φ c)) : ∀ (ps : List Nat) (L : List Ce), (∀ c ∈ L, φ (ψ c) = c) → mods ps φ (mods ps ψ L) = L
  | [], _, _ => rfl
  | p :: ps, L, h => by
    show mods ps φ ((mods ps ψ (L.modify p ψ)).modify p φ) = L
    rw [mods_mod hc p ps, mod_back p L h]
    exact mods_back hc ps L h
theorem lay_comm {f g : Ce → Su → Ce} {s : Nat} {x y : Su} (h : ∀ c, f (g c y) x = g (f c x) y) (L : List Ce) : layT f s x (layT g s y L) = layT g s y (layT f s x L) := by
  rw [layT_mods f, layT_mods g, layT_mods g, layT_mods f, mods_len, mods_len]
  exact mods_comm h _ _ _
/-- Counts as numbers of sixty-four bits have them. -/
def okT (L : List Ce) : Prop := ∀ c ∈ L, okC c
theorem okT_modify {φ : Ce → Ce} (h : ∀ c, okC (φ c)) {L : List Ce} (hL : okT L) (i : Nat) : okT (L.modify i φ) := fun c hc => by
  obtain ⟨k, hk, rfl⟩ := List.getElem_of_mem hc
  rw [List.getElem_modify]
  split
  · exact h _
  · exact hL _ (List.getElem_mem _)
theorem okT_mods {φ : Ce → Ce} (h : ∀ c, okC (φ c)) : ∀ (ps : List Nat) (L : List Ce), okT L → okT (mods ps φ L)
  | [], _, hL => hL
  | p :: ps, _, hL => okT_mods h ps _ (okT_modify h hL p)
theorem okT_put {s : Nat} {x : Su} {L : List Ce} (h : okT L) : okT (layT putC s x L) := by rw [layT_mods]; exact okT_mods (fun _ => okC_with _ _ _ _) _ _ h
theorem okT_putA {s : Nat} : ∀ (A : List Su) (L : List Ce), okT L → okT (layA putC s A L)
  | [], _, h => h
  | x :: A, L, h => okT_putA A (layT putC s x L) (okT_put h)
theorem okT_zero (n : Nat) : okT (List.replicate n zC) := fun c hc => by rw [List.eq_of_mem_replicate hc]; exact okC_zero
theorem lay_back {s : Nat} {x : Su} {L : List Ce} (h : okT L) : layT takeC s x (layT putC s x L) = L := by
  rw [layT_mods takeC, layT_len, layT_mods putC]
  exact mods_back (fun c => put_take c x x) _ _ (fun c hc => take_put (h c hc) x)
theorem layA_perm {f : Ce → Su → Ce} (hf : ∀ c x y, f (f c x) y = f (f c y) x) {s : Nat} {A B : List Su} (h : A.Perm B) : ∀ L, layA f s A L = layA f s B L := by
  induction h with
  | nil => intro _; rfl
  | cons x _ ih => intro L; exact ih (layT f s x L)
  | swap x y l => intro L; show layA f s l (layT f s x (layT f s y L)) = layA f s l (layT f s y (layT f s x L)); rw [lay_comm (fun c => hf c y x)]
  | trans _ _ ih1 ih2 => intro L; rw [ih1, ih2]
theorem layA_app (f : Ce → Su → Ce) (s : Nat) (A B : List Su) (L : List Ce) : layA f s (A ++ B) L = layA f s B (layA f s A L) := by unfold layA; rw [List.foldl_append]
theorem zip_modify {φ ψ : Ce → Ce} (h : ∀ a b, minusC (φ a) (ψ b) = minusC a b) : ∀ (i : Nat) (P Q : List Ce), List.zipWith minusC (P.modify i φ) (Q.modify i ψ) = List.zipWith minusC P Q
  | _, [], Q => by simp
  | _, a :: P, [] => by simp
  | 0, a :: P, b :: Q => by simp [h]
  | i + 1, a :: P, b :: Q => by simp [zip_modify h i P Q]
theorem zip_mods {φ ψ : Ce → Ce} (h : ∀ a b, minusC (φ a) (ψ b) = minusC a b) : ∀ (ps : List Nat) (P Q : List Ce), List.zipWith minusC (mods ps φ P) (mods ps ψ Q) = List.zipWith minusC P Q
  | [], _, _ => rfl
  | p :: ps, P, Q => (zip_mods h ps (P.modify p φ) (Q.modify p ψ)).trans (zip_modify h p P Q)
theorem zip_layA {s : Nat} : ∀ (C : List Su) (P Q : List Ce), P.length = Q.length → List.zipWith minusC (layA putC s C P) (layA putC s C Q) = List.zipWith minusC P Q
  | [], _, _, _ => rfl
  | x :: C, P, Q, h => by
    show List.zipWith minusC (layA putC s C (layT putC s x P)) (layA putC s C (layT putC s x Q)) = _
    rw [zip_layA C _ _ (by rw [layT_len, layT_len]; exact h), layT_mods, layT_mods, h]
    exact zip_mods (fun a b => put_minus a b x) _ _ _
theorem zip_self : ∀ (L : List Ce), List.zipWith minusC L L = List.replicate L.length zC
  | [] => rfl
  | a :: L => by rw [List.zipWith_cons_cons, zip_self L, minusC_self]; rfl
theorem minU_asc {A : List Su} (h : AscU A) (B : List Su) : minU A B = A.filter fun x => !decide (x ∈ B) := srt_asc (h.filter _)
theorem botU_asc {A : List Su} (h : AscU A) (B : List Su) : botU A B = A.filter fun x => decide (x ∈ B) := srt_asc (h.filter _)
theorem split_perm {A : List Su} (h : AscU A) (B : List Su) : (minU A B ++ botU A B).Perm A := by
  rw [minU_asc h, botU_asc h]
  refine List.perm_append_comm.trans ?_
  exact List.filter_append_perm (fun x => decide (x ∈ B)) A
/-- What one has more, less what the other has more. -/
theorem apart_zip {s : Nat} {A B : List Su} (hA : AscU A) (hB : AscU B) (Z : List Ce) : List.zipWith minusC (layA putC s A Z) (layA putC s B Z) = List.zipWith minusC (layA putC s (minU A B) Z) (layA putC s (minU B A) Z) := by
  have e1 := layA_perm (f := putC) (fun c x y => putC_right c x y) (s := s) (split_perm hA B) Z
  have e2 := layA_perm (f := putC) (fun c x y => putC_right c x y) (s := s) (split_perm hB A) Z
  rw [← e1, ← e2, layA_app, layA_app, sl4 B A]
  exact zip_layA _ _ _ (by rw [layA_len, layA_len])
theorem zero_repl {m : Nat} (hg : goodN (m : Int) = true) : zeroT (List.replicate m zC) = true := by
  unfold zeroT
  rw [List.length_replicate, hg, Bool.true_and, List.all_eq_true]
  intro c hc
  rw [List.eq_of_mem_replicate hc]; simp
end Go.Proofs.YtnkcehmgagpadaaDoor
/- Rows of sums: what lasts; an element. No condition. -/
namespace Go.Proofs.YtnkcehmgagpadaaDoor
open Go.RowKit
theorem Us.flz {w w' : World} {v : Value} {L : List Su} (h : Us w v L) (he : Flz w w') : Us w' v L := h.flzT he
end Go.Proofs.YtnkcehmgagpadaaDoor
