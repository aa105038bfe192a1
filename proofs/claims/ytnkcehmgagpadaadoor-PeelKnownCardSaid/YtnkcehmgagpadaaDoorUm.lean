/- Rows of sums in memory: thirty-two cells a sum; a sum loaded, a row of one made, rows put behind, cut. No condition. -/
import Derived.Test.YtnkcehmgagpadaaDoorUo
import Derived.Test.YtnkcehmgagpadaaDoorOrg
import Derived.Laws.Rows
import Derived.Laws.AppendOwnNone
import Derived.Lib.LazyBuf
import Derived.StillTailTactics
namespace Go.Proofs.YtnkcehmgagpadaaDoor
open Go.RowKit
def encU (x : Su) : List Value := x.1.map u8v
theorem encU_len (x : Su) : (encU x).length = 32 := by unfold encU; rw [List.length_map]; exact x.2
theorem encU_one (x : Su) : ∀ v ∈ encU x, v.oneCell' = true := fun v hv => by
  obtain ⟨y, _, rfl⟩ := List.mem_map.1 hv; rfl
theorem encU_all (x : Su) : (encU x).toArray.all (·.oneCell') = true := u8v_one _
theorem encU_size (x : Su) : (encU x).toArray.size = 32 := by simpa using encU_len x
def rowU (L : List Su) : List Value := L.flatMap encU
theorem rowU_len : ∀ L : List Su, (rowU L).length = L.length * 32
  | [] => rfl
  | x :: L => by
    have h : rowU (x :: L) = encU x ++ rowU L := rfl
    rw [h, List.length_append, encU_len, rowU_len L, List.length_cons]; omega
theorem rowU_app (A B : List Su) : rowU (A ++ B) = rowU A ++ rowU B := List.flatMap_append
theorem rowU_one (x : Su) : rowU [x] = encU x := by unfold rowU; simp
theorem rowU_take (L : List Su) (k : Nat) : (rowU L).take (k * 32) = rowU (L.take k) := by
  by_cases h : k ≤ L.length
  · conv => lhs; rw [← List.take_append_drop k L, rowU_app]
    rw [List.take_append_of_le_length (by rw [rowU_len, List.length_take]; omega), List.take_of_length_le (by rw [rowU_len, List.length_take]; omega)]
  · rw [List.take_of_length_le (by rw [rowU_len]; omega), List.take_of_length_le (by omega)]
theorem rowU_drop (L : List Su) (k : Nat) : (rowU L).drop (k * 32) = rowU (L.drop k) := by
  by_cases h : k ≤ L.length
  · conv => lhs; rw [← List.take_append_drop k L, rowU_app]
    rw [List.drop_append_of_le_length (by rw [rowU_len, List.length_take]; omega), List.drop_of_length_le (by rw [rowU_len, List.length_take]; omega), List.nil_append]
  · rw [List.drop_of_length_le (by rw [rowU_len]; omega), List.drop_of_length_le (by omega)]; rfl
theorem rowU_get (L : List Su) (i : Nat) (h : i < L.length) (j : Nat) (hj : j < 32) : (rowU L)[i * 32 + j]? = (encU L[i])[j]? := by
  have e : rowU L = rowU (L.take i) ++ (encU L[i] ++ rowU (L.drop (i + 1))) := by
    conv => lhs; rw [← List.take_append_drop i L, List.drop_eq_getElem_cons h, rowU_app]
    rfl
  have hl : (rowU (L.take i)).length = i * 32 := by rw [rowU_len, List.length_take]; omega
  rw [e, List.getElem?_append_right (by omega), hl, List.getElem?_append_left (by rw [encU_len]; omega)]
  congr 1; omega
theorem rowU_one' (L : List Su) : ∀ v ∈ rowU L, v.oneCell' = true := fun v hv => by
  obtain ⟨x, _, hx⟩ := List.mem_flatMap.1 hv
  exact encU_one x v hx
/-- A type of slices of sums, the type of its sums. -/
def ElT (T E : TypeId) : Prop := Tryd.prog.underlying T = some (.slice E) ∧ Tryd.prog.underlying E = some (.array 32 5) ∧ (Tryd.prog.info? E).map (fun i => (i.zero, i.size, i.bytes)) = some (some (.agg (Array.replicate 32 (.int .u8 0))), 32, 32)
/-- A slice in memory reads as these sums. -/
def Ss (w : World) (b : Nat) (q : Option Addr) (L : List Su) : Prop := Sees w b q (rowU L)
theorem Ss.el {w : World} {b : Nat} {q : Option Addr} {L : List Su} (h : Ss w b q L) {i : Nat} (hi : i < L.length) :
    ∃ a : Addr, q = some a ∧ a.block < b ∧ ∀ w', Below b w w' → ∀ j u, (encU L[i])[j]? = some u → w'.cell? ((a.add (i * 32)).add j) = some u := by
  obtain ⟨a, rfl, hb, hc⟩ := h.get (by rw [rowU_len]; omega)
  refine ⟨a, rfl, hb, fun w' hw j u hu => ?_⟩
  have hj : j < 32 := by have := (List.getElem?_eq_some_iff.1 hu).1; rwa [encU_len] at this
  rw [add_add, hw.cell (by rw [add_block]; exact hb)]
  exact hc _ u (by rw [rowU_get L i hi j hj]; exact hu)
/-- The value reads as these sums. -/
def Us (w : World) (v : Value) (L : List Su) : Prop := ∃ q c, v = .slice q L.length c ∧ L.length ≤ c ∧ (q = none → c = 0) ∧ Sees w w.heap.size q (rowU L)
theorem Us.keep {w w' : World} {v : Value} {L : List Su} (h : Us w v L) (hb : Below w.heap.size w w') : Us w' v L := by
  obtain ⟨q, c, h1, h2, h3, h4⟩ := h
  exact ⟨q, c, h1, h2, h3, (h4.keep hb).more hb.size⟩
theorem Us.drew {w : World} {v : Value} {L : List Su} (h : Us w v L) : Us w.drew v L := h
theorem Us.nil (w : World) : Us w (.slice none 0 0) [] := ⟨none, 0, rfl, Nat.le_refl _, fun _ => rfl, Sees.nil _ _ _⟩
/-- A row of the call's own. -/
def OwnU (w : World) (base : Nat) (E : TypeId) (v : Value) (L : List Su) : Prop := w.ownsRow base E 32 v L.length (rowU L)
theorem OwnU.nil (w : World) (base : Nat) (E : TypeId) : OwnU w base E (.slice none 0 0) [] := World.ownsRow_nil w base E 32
theorem OwnU.empty (w : World) (base : Nat) (E : TypeId) (hb : base ≤ w.heap.size) : OwnU (w.alloc (.cells #[] E)) base E (.slice (some ⟨w.heap.size, 0, none⟩) 0 0) [] :=
  World.ownsRow_made w #[] 0 hb (Nat.zero_le _) (by simp)
theorem OwnU.base {w : World} {base : Nat} {E : TypeId} {v : Value} {L : List Su} (h : OwnU w base E v L) : ∀ j, Value.ownBlock v = some j → base ≤ j := fun j hj => (World.ownsRow.lt h j hj).1
theorem OwnU.keep {w w' : World} {base : Nat} {E : TypeId} {v : Value} {L : List Su} (h : OwnU w base E v L) (hb : Below w.heap.size w w') : OwnU w' base E v L := by
  rcases h.2 with ⟨rfl, h0⟩ | ⟨g', cap, cur, rfl, hb', hg', h1, h2, h3, h4⟩
  · exact ⟨h.1, .inl ⟨rfl, h0⟩⟩
  · exact ⟨h.1, .inr ⟨g', cap, cur, rfl, hb', (hb.block g' (Array.getElem?_eq_some_iff.1 hg').1).trans hg', h1, h2, h3, h4⟩⟩
theorem OwnU.less {w : World} {b base : Nat} {E : TypeId} {v : Value} {L : List Su} (h : OwnU w base E v L) (hb : b ≤ base) : OwnU w b E v L := by
  rcases h.2 with ⟨rfl, h0⟩ | ⟨g', cap, cur, rfl, hb', r⟩
  · exact ⟨h.1, .inl ⟨rfl, h0⟩⟩
  · exact ⟨h.1, .inr ⟨g', cap, cur, rfl, by omega, r⟩⟩
theorem OwnU.us {w : World} {base : Nat} {E : TypeId} {v : Value} {L : List Su} (h : OwnU w base E v L) : Us w v L := by
  rcases h.2 with ⟨rfl, h0⟩ | ⟨g, cap, cur, rfl, hb, hg, h1, _⟩
  · have : L = [] := List.eq_nil_of_length_eq_zero h0
    subst this
    exact Us.nil w
  · exact ⟨_, cap, rfl, h1, fun e => (by cases e), fun _ => ⟨_, rfl, (Array.getElem?_eq_some_iff.1 hg).1, World.ownsRow.cells h (g := g) rfl⟩⟩
section
variable {P : Program}
theorem load_su {o : Oper} {ev : Operand → Value} {w : World} (E : TypeId) (x : Operand) (ho : o.op = .load E x) (p : Addr) (hx : ev x = .pointer (some p)) (hu : Tryd.prog.underlying E = some (.array 32 5)) (hi : (Tryd.prog.info? E).map (·.size) = some 32)
    (s : Su) (hc : ∀ j u, (encU s)[j]? = some u → w.cell? (p.add j) = some u) : (execOp ev o).run Tryd.prog w = .ok (.value (.agg (encU s).toArray)) w := by
  have hl := run_loadCells_list (P := Tryd.prog) w p (encU s) hc
  rw [encU_len] at hl
  have hrun : (loadVar E p).run Tryd.prog w = .ok (.agg (encU s).toArray) w := by
    cases hq : Tryd.prog.info? E with
    | none => simp [hq] at hi
    | some i =>
      have hs : i.size = 32 := by simpa [hq] using hi
      have hagg : (isAgg E).run Tryd.prog w = .ok true w := by
        unfold isAgg
        rw [Sem.run_bind, run_underlying hu w]
        simp
      simp only [loadVar, sizeOf, typeInfo, Sem.run_bind, hagg, Result.andThen_ok, if_true]
      simp [hq, hs, hl]
  unfold execOp
  simp only [ho, hx, Instr.loadAt, Instr.sureAddr, Sem.run_bind, Sem.run_pure, Result.andThen_ok, hrun]
end
section
variable {ops : Array Oper} {rest : List Oper} {o : Oper} {a : Act} {w : World} {Q : Exit → Act → World → Prop} {K : Act → World → Prop}
theorem wp_load_su (E : TypeId) (x : Operand) (ho : o.op = .load E x) (p : Addr) (hx : a.eval x = .pointer (some p)) (hu : Tryd.prog.underlying E = some (.array 32 5)) (hi : (Tryd.prog.info? E).map (·.size) = some 32)
    (s : Su) (hc : ∀ j u, (encU s)[j]? = some u → w.cell? (p.add j) = some u) (h : K (a.put o.dst (.agg (encU s).toArray)) w) : o.wp Tryd.prog a w K Q := by
  unfold Oper.wp
  rw [load_su E x ho p hx hu hi s hc]
  exact h
theorem wpList_load_su (hgd : o.guard = none) (E : TypeId) (x : Operand) (ho : o.op = .load E x) (p : Addr) (hx : a.eval x = .pointer (some p)) (hu : Tryd.prog.underlying E = some (.array 32 5)) (hi : (Tryd.prog.info? E).map (·.size) = some 32)
    (s : Su) (hc : ∀ j u, (encU s)[j]? = some u → w.cell? (p.add j) = some u) (h : wpList Tryd.prog ops Q rest (a.put o.dst (.agg (encU s).toArray)) w) : wpList Tryd.prog ops Q (o :: rest) a w :=
  wpList_plain hgd fun _ hK => wp_load_su E x ho p hx hu hi s hc (hK _ _ h)
def aggU (s : Su) : Value := .agg (encU s).toArray
theorem fill_many (L : List Su) (cells : Array Value) (hc : cells.size = L.length * 32) :
    Instr.fill (fun i => some (i * 32, 32)) cells (((L.map aggU).zipIdx 0).map fun x => (x.2, x.1)) = some (rowU L).toArray := by
  obtain ⟨r, h1, h2, h3⟩ := Great.fill_dense (s := 32) (by decide) (L.map aggU) 0 cells (fun v hv => by
    obtain ⟨x, _, rfl⟩ := List.mem_map.1 hv
    exact encU_size x) (by rw [List.length_map, hc, Nat.zero_add]; exact Nat.le_refl _)
  rw [h1]
  congr 1
  have hs : r.size = (rowU L).toArray.size := by rw [h2, hc]; simp [rowU_len]
  refine Array.ext hs fun k hk1 hk2 => ?_
  have h4 := h3 k
  have hk : k < L.length * 32 := by rw [h2, hc] at hk1; exact hk1
  have hi : k / 32 < L.length := by omega
  rw [if_pos ⟨by omega, by rw [List.length_map, Nat.zero_add]; exact hk⟩, Nat.sub_zero, List.getElem?_map, List.getElem?_eq_getElem hi, Option.map_some, Option.bind_some] at h4
  have h5 := rowU_get L (k / 32) hi (k % 32) (Nat.mod_lt _ (by decide))
  rw [show k / 32 * 32 + k % 32 = k by omega] at h5
  have h6 : (aggU L[k / 32]).cells[k % 32]? = (encU L[k / 32])[k % 32]? := by simp [aggU, Value.cells]
  rw [h6, ← h5, Array.getElem?_eq_getElem hk1] at h4
  have h7 : (rowU L)[k]? = some ((rowU L).toArray[k]) := by simp
  rw [h7] at h4
  exact Option.some.inj h4
theorem fill_one (cells : Array Value) (hc : cells.size = 32) (s : Su) : Instr.fill (fun i => some (i * 32, 32)) cells [(0, aggU s)] = some (encU s).toArray := by
  have := fill_many [s] cells (by simpa using hc)
  rw [rowU_one] at this
  exact this
/-- A row of one sum. -/
theorem wp_one_su (T E : TypeId) (hT : ElT T E) (x : Operand) (ho : o.op = .buildSlice T 1 #[(0, x)]) (s : Su) (hx : a.eval x = .agg (encU s).toArray)
    (h : K (a.put o.dst (.slice (some ⟨w.heap.size, 0, none⟩) 1 1)) (w.alloc (.cells (encU s).toArray E))) : o.wp Tryd.prog a w K Q := by
  obtain ⟨i0, hi, hz0, hz1, hz2⟩ := info_parts hT.2.2
  refine wp_buildSlice T E 1 _ ho (encU s).toArray i0 _ hT.1 hi hz0 (by rw [hz1]; omega) (by rw [hz1]; omega) ?_ h
  rw [hz1]
  simp only [List.map_toArray, List.map_cons, List.map_nil, hx]
  exact fill_one _ (by simp) s
theorem wpList_one_su (hgd : o.guard = none) (T E : TypeId) (hT : ElT T E) (x : Operand) (ho : o.op = .buildSlice T 1 #[(0, x)]) (s : Su) (hx : a.eval x = .agg (encU s).toArray)
    (h : wpList Tryd.prog ops Q rest (a.put o.dst (.slice (some ⟨w.heap.size, 0, none⟩) 1 1)) (w.alloc (.cells (encU s).toArray E))) : wpList Tryd.prog ops Q (o :: rest) a w :=
  wpList_plain hgd fun _ hK => wp_one_su T E hT x ho s hx (hK _ _ h)
theorem Ss.one {w : World} {g : Nat} {E : TypeId} {s : Su} {b : Nat} (h : Has w g E (encU s)) (hb : g < b) : Sees w b (some ⟨g, 0, none⟩) (rowU [s]) := by
  rw [rowU_one]; exact Sees.of_has h hb
theorem run_none_su (T E : TypeId) (hT : ElT T E) (w : World) : (Instr.buildSlice T 0 #[]).run Tryd.prog w = .ok (.slice (some ⟨w.heap.size, 0, none⟩) 0 0) (w.alloc (.cells #[] E)) := by
  obtain ⟨i0, hi, hz0, hz1, hz2⟩ := info_parts hT.2.2
  simp [Instr.buildSlice, run_underlying hT.1, sizeOf, typeInfo, hi, newRow, Instr.fill]
  rw [show Array.range 0 = #[] by kernel_rfl, Array.map_empty]
/-- Sums put behind a row of the call's own. -/
theorem wp_append_su (T E : TypeId) (hT : ElT T E) (s x : Operand) (ho : o.op = .call { callee := .builtin .append, args := #[s, x], argTypes := #[T, T] })
    (base : Nat) (v : Value) (L : List Su) (hs : a.eval s = v) (hown : OwnU w base E v L)
    (q : Option Addr) (M : List Su) (m cap b : Nat) (hm : M.length = m) (hx : a.eval x = .slice q m cap) (hq : q = none → cap = 0) (hl : Sees w b q (rowU M))
    (hn : L.length + m ≤ 4000000) (hbase : base ≤ w.heap.size)
    (h : ∀ v' w', OwnU w' base E v' (L ++ M) → w.grownBy w' v.ownBlock → K (a.put o.dst v') w') : o.wp Tryd.prog a w K Q := by
  subst hm
  obtain ⟨i0, hi, hz0, hz1, hz2⟩ := info_parts hT.2.2
  have fin : ∀ v' w', w'.ownsRow base E 32 v' (L.length + M.length) (rowU L ++ rowU M) → OwnU w' base E v' (L ++ M) := fun v' w' h1 => by
    unfold OwnU; rw [List.length_append, rowU_app]; exact h1
  have hbytes : (L.length + M.length) * 32 ≤ 140737488355328 := Nat.le_trans (Nat.mul_le_mul hn (Nat.le_refl 32)) (by decide)
  rcases q with _ | ad
  · have hl0 : M = [] := by
      rcases M with _ | ⟨y, M⟩
      · rfl
      · obtain ⟨a, h1, _⟩ := hl.get (by rw [rowU_len, List.length_cons]; omega)
        cases h1
    subst hl0
    obtain rfl := hq rfl
    have hrun := run_append_owned_none (P := Tryd.prog) (w := w) base T o.type E i0 32 hT.1 hi v L.length (rowU L) hown
    have hx' : a.eval x = .slice none 0 0 := hx
    unfold Oper.wp
    simp [execOp, ho, resolve, invoke, builtin, hs, hx', hrun, Result.andThen]
    exact h v w (by simpa using hown) ⟨rfl, rfl, rfl, Nat.le_refl _, fun _ _ _ => rfl⟩
  · by_cases hl0 : M = []
    · subst hl0
      refine wp_append_own w s x T ho base E i0 _ 32 32 hT.1 hi hz0 hz1 hz2 rfl (by decide) v L.length (rowU L) hs hown ad 0 cap [] hx rfl (fun j u hj => by simp at hj) (fun u hu => by cases hu) (by unfold maxLen; simp at hn; omega) hbytes hbase (fun v' w' h1 h2 _ => ?_)
      exact h v' w' (fin v' w' (by simpa [rowU] using h1)) h2
    · refine wp_append_own w s x T ho base E i0 _ 32 32 hT.1 hi hz0 hz1 hz2 rfl (by decide) v L.length (rowU L) hs hown ad M.length cap (rowU M) hx (rowU_len M) (fun j u hj => ?_) (fun u hu => rowU_one' M u hu) (by unfold maxLen; omega) hbytes hbase (fun v' w' h1 h2 _ => ?_)
      · obtain ⟨a', h1, _, h3⟩ := hl.get (by have := (List.getElem?_eq_some_iff.1 hj).1; omega)
        cases h1
        exact h3 j u hj
      · exact h v' w' (fin v' w' h1) h2
theorem wpList_append_su (hgd : o.guard = none) (T E : TypeId) (hT : ElT T E) (s x : Operand) (ho : o.op = .call { callee := .builtin .append, args := #[s, x], argTypes := #[T, T] })
    (base : Nat) (v : Value) (L : List Su) (hs : a.eval s = v) (hown : OwnU w base E v L)
    (q : Option Addr) (M : List Su) (m cap b : Nat) (hm : M.length = m) (hx : a.eval x = .slice q m cap) (hq : q = none → cap = 0) (hl : Sees w b q (rowU M))
    (hn : L.length + m ≤ 4000000) (hbase : base ≤ w.heap.size)
    (h : ∀ v' w', OwnU w' base E v' (L ++ M) → Below base w w' → wpList Tryd.prog ops Q rest (a.put o.dst v') w') : wpList Tryd.prog ops Q (o :: rest) a w :=
  wpList_plain hgd fun _ hK => wp_append_su T E hT s x ho base v L hs hown q M m cap b hm hx hq hl hn hbase fun v' w' h1 h2 => hK _ _ (h v' w' h1 ((Below.refl base w).grown h2 hbase (fun k hk => hown.base k hk)))
end
theorem cut_su (T E : TypeId) (hT : ElT T E) (q : Option Addr) (n c k : Nat) (hk : k ≤ n) (w : World) :
    (Instr.slice T (.slice q n c) (some (.int .i64 (k : Int))) none none).run Tryd.prog w = .ok (.slice (if c = k then q else q.map (·.add (k * 32))) (n - k) (c - k)) w := by
  obtain ⟨i0, hi, hz0, hz1, hz2⟩ := info_parts hT.2.2
  simp [Instr.slice, run_underlying hT.1, Instr.sliceBounds, Instr.sliceBound, asIntOf, sizeOf, typeInfo, hi, hz1]
  intro hc
  omega
theorem head_su (T E : TypeId) (hT : ElT T E) (q : Option Addr) (n c k : Nat) (hk : k ≤ c) (w : World) :
    (Instr.slice T (.slice q n c) none (some (.int .i64 (k : Int))) none).run Tryd.prog w = .ok (.slice q k c) w := by
  obtain ⟨i0, hi, hz0, hz1, hz2⟩ := info_parts hT.2.2
  have e : q.map (fun a : Addr => a.add 0) = q := by cases q <;> simp [Addr.add]
  simp [Instr.slice, run_underlying hT.1, Instr.sliceBounds, Instr.sliceBound, asIntOf, sizeOf, typeInfo, hi, e]
  intro hc
  omega
theorem Sees.cutU {w : World} {b : Nat} {q : Option Addr} {L : List Su} {c k : Nat} (h : Sees w b q (rowU L)) (hc : L.length ≤ c) : Sees w b (if c = k then q else q.map (·.add (k * 32))) (rowU (L.drop k)) := fun hl => by
  have hk : k < L.length := by rw [rowU_len, List.length_drop] at hl; omega
  obtain ⟨a, rfl, hb, hx⟩ := h.get (by rw [rowU_len]; omega)
  rw [if_neg (by omega)]
  refine ⟨a.add (k * 32), rfl, by rw [add_block]; exact hb, fun j u hu => ?_⟩
  rw [add_add]
  exact hx _ u (by rw [← hu, ← rowU_drop, List.getElem?_drop])
theorem cutU_none {q : Option Addr} {c k n : Nat} (hq : q = none → c = 0) : (if c = k then q else q.map (·.add n)) = none → c - k = 0 := by
  split
  · intro _; omega
  · intro h; have := hq (by simpa using h); omega
end Go.Proofs.YtnkcehmgagpadaaDoor
