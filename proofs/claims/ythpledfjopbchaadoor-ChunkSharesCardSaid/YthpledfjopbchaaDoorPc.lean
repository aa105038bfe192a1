/- Rows of pieces in memory: thirty-three cells a piece: its sum, its bytes' value. Condition: none. -/
import Derived.Test.YthpledfjopbchaaDoorUr
import Derived.Test.YthpledfjopbchaaDoorUe
import Derived.Test.YthpledfjopbchaaDoorParts
import Derived.Great.FillDense
namespace Go.Proofs.YthpledfjopbchaaDoor
open Go.RowKit
/-- A piece: its sum, its bytes' value, its bytes. -/
abbrev Pc := Su × Value × List (BitVec 8)
def encP (p : Pc) : List Value := encU p.1 ++ [p.2.1]
theorem encP_len (p : Pc) : (encP p).length = 33 := by unfold encP; rw [List.length_append, encU_len]; rfl
def rowP (L : List Pc) : List Value := L.flatMap encP
theorem rowP_len : ∀ L : List Pc, (rowP L).length = L.length * 33
  | [] => rfl
  | x :: L => by
    have h : rowP (x :: L) = encP x ++ rowP L := rfl
    rw [h, List.length_append, encP_len, rowP_len L, List.length_cons]; omega
theorem rowP_app (A B : List Pc) : rowP (A ++ B) = rowP A ++ rowP B := List.flatMap_append
theorem rowP_one (x : Pc) : rowP [x] = encP x := by unfold rowP; simp
theorem rowP_drop (L : List Pc) (k : Nat) : (rowP L).drop (k * 33) = rowP (L.drop k) := by
  by_cases h : k ≤ L.length
  · conv => lhs; rw [← List.take_append_drop k L, rowP_app]
    rw [List.drop_append_of_le_length (by rw [rowP_len, List.length_take]; omega), List.drop_of_length_le (by rw [rowP_len, List.length_take]; omega), List.nil_append]
  · rw [List.drop_of_length_le (by rw [rowP_len]; omega), List.drop_of_length_le (by omega)]; rfl
theorem rowP_take (L : List Pc) (k : Nat) : (rowP L).take (k * 33) = rowP (L.take k) := by
  by_cases h : k ≤ L.length
  · conv => lhs; rw [← List.take_append_drop k L, rowP_app]
    rw [List.take_append_of_le_length (by rw [rowP_len, List.length_take]; omega), List.take_of_length_le (by rw [rowP_len, List.length_take]; omega)]
  · rw [List.take_of_length_le (by rw [rowP_len]; omega), List.take_of_length_le (by omega)]
theorem rowP_get (L : List Pc) (i : Nat) (h : i < L.length) (j : Nat) (hj : j < 33) : (rowP L)[i * 33 + j]? = (encP L[i])[j]? := by
  have e : rowP L = rowP (L.take i) ++ (encP L[i] ++ rowP (L.drop (i + 1))) := by
    conv => lhs; rw [← List.take_append_drop i L, List.drop_eq_getElem_cons h, rowP_app]
    rfl
  have hl : (rowP (L.take i)).length = i * 33 := by rw [rowP_len, List.length_take]; omega
  rw [e, List.getElem?_append_right (by omega), hl, List.getElem?_append_left (by rw [encP_len]; omega)]
  congr 1; omega
/-- The pieces' bytes are there. -/
def Pcb (w : World) (L : List Pc) : Prop := ∀ p ∈ L, Bs w p.2.1 p.2.2
theorem Pcb.keep {w w' : World} {L : List Pc} (h : Pcb w L) (hb : Below w.heap.size w w') : Pcb w' L := fun p hp => (h p hp).keep hb
theorem Bs.one {w : World} {v : Value} {x : List (BitVec 8)} (h : Bs w v x) : v.oneCell' = true := by
  obtain ⟨q, c, rfl, _⟩ := h; rfl
theorem rowP_ones {w : World} {L : List Pc} (h : Pcb w L) : ∀ v ∈ rowP L, v.oneCell' = true := fun v hv => by
  obtain ⟨x, hx, hx2⟩ := List.mem_flatMap.1 hv
  rcases List.mem_append.1 hx2 with h1 | h1
  · exact encU_one _ v h1
  · rw [List.mem_singleton.1 h1]; exact (h x hx).one
/-- A type of slices of pieces, the type of its pieces. -/
def ElP (T E : TypeId) : Prop := Tryd.prog.underlying T = some (.slice E) ∧ (∃ fs, Tryd.prog.underlying E = some (.struct fs)) ∧ (Tryd.prog.info? E).map (fun i => (i.zero, i.size, i.bytes)) = some (some (.agg (Array.replicate 32 (.int .u8 0) ++ #[.slice none 0 0])), 33, 56)
/-- The value reads as these pieces. -/
def PcV (w : World) (v : Value) (L : List Pc) : Prop := ∃ q c, v = .slice q L.length c ∧ L.length ≤ c ∧ (q = none → c = 0) ∧ Sees w w.heap.size q (rowP L)
theorem PcV.keep {w w' : World} {v : Value} {L : List Pc} (h : PcV w v L) (hb : Below w.heap.size w w') : PcV w' v L := by
  obtain ⟨q, c, h1, h2, h3, h4⟩ := h
  exact ⟨q, c, h1, h2, h3, (h4.keep hb).more hb.size⟩
theorem PcV.nil (w : World) : PcV w (.slice none 0 0) [] := ⟨none, 0, rfl, Nat.le_refl _, fun _ => rfl, Sees.nil _ _ _⟩
/-- One of them: its thirty-three cells. -/
theorem Sees.pc {w : World} {b : Nat} {q : Option Addr} {L : List Pc} (h : Sees w b q (rowP L)) {i : Nat} (hi : i < L.length) :
    ∃ a : Addr, q = some a ∧ a.block < b ∧ ∀ w', Below b w w' → ∀ j u, (encP L[i])[j]? = some u → w'.cell? ((a.add (i * 33)).add j) = some u := by
  obtain ⟨a, rfl, hb, hc⟩ := h.get (by rw [rowP_len]; omega)
  refine ⟨a, rfl, hb, fun w' hw j u hu => ?_⟩
  have hj : j < 33 := by have := (List.getElem?_eq_some_iff.1 hu).1; rwa [encP_len] at this
  rw [add_add, hw.cell (by rw [add_block]; exact hb)]
  exact hc _ u (by rw [rowP_get L i hi j hj]; exact hu)
theorem encP_su {p : Pc} {j : Nat} {u : Value} (h : (encU p.1)[j]? = some u) : (encP p)[j]? = some u := by
  have hj := (List.getElem?_eq_some_iff.1 h).1
  unfold encP; rw [List.getElem?_append_left hj]; exact h
theorem encP_b (p : Pc) : (encP p)[32]? = some p.2.1 := by
  unfold encP; rw [List.getElem?_append_right (by rw [encU_len]; omega), encU_len]; rfl
/-- A row of the call's own. -/
def OwnP (w : World) (base : Nat) (E : TypeId) (v : Value) (L : List Pc) : Prop := w.ownsRow base E 33 v L.length (rowP L)
theorem OwnP.nil (w : World) (base : Nat) (E : TypeId) : OwnP w base E (.slice none 0 0) [] := World.ownsRow_nil w base E 33
theorem OwnP.empty (w : World) (base : Nat) (E : TypeId) (hb : base ≤ w.heap.size) : OwnP (w.alloc (.cells #[] E)) base E (.slice (some ⟨w.heap.size, 0, none⟩) 0 0) [] :=
  World.ownsRow_made w #[] 0 hb (Nat.zero_le _) (by simp)
theorem OwnP.base {w : World} {base : Nat} {E : TypeId} {v : Value} {L : List Pc} (h : OwnP w base E v L) : ∀ j, Value.ownBlock v = some j → base ≤ j := fun j hj => (World.ownsRow.lt h j hj).1
theorem OwnP.keep {w w' : World} {base : Nat} {E : TypeId} {v : Value} {L : List Pc} (h : OwnP w base E v L) (hb : Below w.heap.size w w') : OwnP w' base E v L := by
  rcases h.2 with ⟨rfl, h0⟩ | ⟨g', cap, cur, rfl, hb', hg', h1, h2, h3, h4⟩
  · exact ⟨h.1, .inl ⟨rfl, h0⟩⟩
  · exact ⟨h.1, .inr ⟨g', cap, cur, rfl, hb', (hb.block g' (Array.getElem?_eq_some_iff.1 hg').1).trans hg', h1, h2, h3, h4⟩⟩
theorem OwnP.less {w : World} {b base : Nat} {E : TypeId} {v : Value} {L : List Pc} (h : OwnP w base E v L) (hb : b ≤ base) : OwnP w b E v L := by
  rcases h.2 with ⟨rfl, h0⟩ | ⟨g', cap, cur, rfl, hb', r⟩
  · exact ⟨h.1, .inl ⟨rfl, h0⟩⟩
  · exact ⟨h.1, .inr ⟨g', cap, cur, rfl, by omega, r⟩⟩
theorem OwnP.pc {w : World} {base : Nat} {E : TypeId} {v : Value} {L : List Pc} (h : OwnP w base E v L) : PcV w v L := by
  rcases h.2 with ⟨rfl, h0⟩ | ⟨g, cap, cur, rfl, hb, hg, h1, _⟩
  · have : L = [] := List.eq_nil_of_length_eq_zero h0
    subst this
    exact PcV.nil w
  · exact ⟨_, cap, rfl, h1, fun e => (by cases e), fun _ => ⟨_, rfl, (Array.getElem?_eq_some_iff.1 hg).1, World.ownsRow.cells h (g := g) rfl⟩⟩
section
variable {P : Program}
/-- A whole piece loaded. -/
theorem load_pc {o : Oper} {ev : Operand → Value} {w : World} (T E : TypeId) (hT : ElP T E) (x : Operand) (ho : o.op = .load E x) (p : Addr) (hx : ev x = .pointer (some p))
    (s : Pc) (hc : ∀ j u, (encP s)[j]? = some u → w.cell? (p.add j) = some u) : (execOp ev o).run Tryd.prog w = .ok (.value (.agg (encP s).toArray)) w := by
  have hl := run_loadCells_list (P := Tryd.prog) w p (encP s) hc
  rw [encP_len] at hl
  obtain ⟨i0, hi, hz0, hz1, hz2⟩ := info_parts hT.2.2
  obtain ⟨fs, hu⟩ := hT.2.1
  have hrun : (loadVar E p).run Tryd.prog w = .ok (.agg (encP s).toArray) w := by
    have hagg : (isAgg E).run Tryd.prog w = .ok true w := by
      unfold isAgg
      rw [Sem.run_bind, run_underlying hu w]
      simp
    simp only [loadVar, sizeOf, typeInfo, Sem.run_bind, hagg, Result.andThen_ok, if_true]
    simp [hi, hz1, hl]
  unfold execOp
  simp only [ho, hx, Instr.loadAt, Instr.sureAddr, Sem.run_bind, Sem.run_pure, Result.andThen_ok, hrun]
end
/-- One part that fills the whole. -/
theorem fill_whole (s : Nat) (hs : 0 < s) (x : List Value) (hx : x.length = s) (cells : Array Value) (hc : cells.size = s) : Instr.fill (fun i => some (i * s, s)) cells [(0, .agg x.toArray)] = some x.toArray := by
  obtain ⟨r, h1, h2, h3⟩ := Great.fill_dense hs [Value.agg x.toArray] 0 cells (fun v hv => by
    rw [List.mem_singleton.1 hv]; simpa [Value.cells] using hx) (by simp [hc])
  rw [show [(0, Value.agg x.toArray)] = (([Value.agg x.toArray].zipIdx 0).map fun x => (x.2, x.1)) from rfl, h1]
  congr 1
  have hsz : r.size = x.toArray.size := by rw [h2, hc]; simp [hx]
  refine Array.ext hsz fun k hk1 hk2 => ?_
  have hk : k < s := by rw [h2, hc] at hk1; exact hk1
  have h4 := h3 k
  rw [if_pos ⟨by omega, by simpa using hk⟩, Nat.div_eq_of_lt hk, Nat.mod_eq_of_lt hk] at h4
  simp only [Nat.sub_self, List.getElem?_cons_zero, Option.bind_some, Value.cells] at h4
  rw [Array.getElem?_eq_getElem hk1, Array.getElem?_eq_getElem hk2] at h4
  exact Option.some.inj h4
section
variable {ops : Array Oper} {rest : List Oper} {o : Oper} {a : Act} {w : World} {Q : Exit → Act → World → Prop} {K : Act → World → Prop}
/-- A row of one piece. -/
theorem wp_one_pc (T E : TypeId) (hT : ElP T E) (x : Operand) (ho : o.op = .buildSlice T 1 #[(0, x)]) (s : Pc) (hx : a.eval x = .agg (encP s).toArray)
    (h : K (a.put o.dst (.slice (some ⟨w.heap.size, 0, none⟩) 1 1)) (w.alloc (.cells (encP s).toArray E))) : o.wp Tryd.prog a w K Q := by
  obtain ⟨i0, hi, hz0, hz1, hz2⟩ := info_parts hT.2.2
  refine wp_buildSlice T E 1 _ ho (encP s).toArray i0 _ hT.1 hi hz0 (by rw [hz1]; omega) (by rw [hz1]; omega) ?_ h
  rw [hz1]
  simp only [List.map_toArray, List.map_cons, List.map_nil, hx]
  exact fill_whole 33 (by decide) (encP s) (encP_len s) _ (by simp)
theorem wpList_one_pc (hgd : o.guard = none) (T E : TypeId) (hT : ElP T E) (x : Operand) (ho : o.op = .buildSlice T 1 #[(0, x)]) (s : Pc) (hx : a.eval x = .agg (encP s).toArray)
    (h : wpList Tryd.prog ops Q rest (a.put o.dst (.slice (some ⟨w.heap.size, 0, none⟩) 1 1)) (w.alloc (.cells (encP s).toArray E))) : wpList Tryd.prog ops Q (o :: rest) a w :=
  wpList_plain hgd fun _ hK => wp_one_pc T E hT x ho s hx (hK _ _ h)
/-- Pieces put behind a row of the call's own. -/
theorem wp_append_pc (T E : TypeId) (hT : ElP T E) (s x : Operand) (ho : o.op = .call { callee := .builtin .append, args := #[s, x], argTypes := #[T, T] })
    (base : Nat) (v : Value) (L : List Pc) (hs : a.eval s = v) (hown : OwnP w base E v L)
    (q : Option Addr) (M : List Pc) (m cap b : Nat) (hm : M.length = m) (hx : a.eval x = .slice q m cap) (hq : q = none → cap = 0) (hl : Sees w b q (rowP M)) (h1 : ∀ u ∈ rowP M, u.oneCell' = true)
    (hn : L.length + m ≤ 2000000) (hbase : base ≤ w.heap.size)
    (h : ∀ v' w', OwnP w' base E v' (L ++ M) → w.grownBy w' v.ownBlock → K (a.put o.dst v') w') : o.wp Tryd.prog a w K Q := by
  subst hm
  obtain ⟨i0, hi, hz0, hz1, hz2⟩ := info_parts hT.2.2
  have fin : ∀ v' w', w'.ownsRow base E 33 v' (L.length + M.length) (rowP L ++ rowP M) → OwnP w' base E v' (L ++ M) := fun v' w' h1 => by
    unfold OwnP; rw [List.length_append, rowP_app]; exact h1
  have hbytes : (L.length + M.length) * 56 ≤ 140737488355328 := Nat.le_trans (Nat.mul_le_mul hn (Nat.le_refl 56)) (by decide)
  rcases q with _ | ad
  · have hl0 : M = [] := by
      rcases M with _ | ⟨y, M⟩
      · rfl
      · obtain ⟨a, h1, _⟩ := hl.get (by rw [rowP_len, List.length_cons]; omega)
        cases h1
    subst hl0
    obtain rfl := hq rfl
    have hrun := run_append_owned_none (P := Tryd.prog) (w := w) base T o.type E i0 33 hT.1 hi v L.length (rowP L) hown
    have hx' : a.eval x = .slice none 0 0 := hx
    unfold Oper.wp
    simp [execOp, ho, resolve, invoke, builtin, hs, hx', hrun, Result.andThen]
    exact h v w (by simpa using hown) ⟨rfl, rfl, rfl, Nat.le_refl _, fun _ _ _ => rfl⟩
  · by_cases hl0 : M = []
    · subst hl0
      refine wp_append_own w s x T ho base E i0 _ 33 56 hT.1 hi hz0 hz1 hz2 rfl (by decide) v L.length (rowP L) hs hown ad 0 cap [] hx rfl (fun j u hj => by simp at hj) (fun u hu => by cases hu) (by unfold maxLen; simp at hn; omega) hbytes hbase (fun v' w' h1 h2 _ => ?_)
      exact h v' w' (fin v' w' (by simpa [rowP] using h1)) h2
    · refine wp_append_own w s x T ho base E i0 _ 33 56 hT.1 hi hz0 hz1 hz2 rfl (by decide) v L.length (rowP L) hs hown ad M.length cap (rowP M) hx (rowP_len M) (fun j u hj => ?_) h1 (by unfold maxLen; omega) hbytes hbase (fun v' w' h1 h2 _ => ?_)
      · obtain ⟨a', h1, _, h3⟩ := hl.get (by have := (List.getElem?_eq_some_iff.1 hj).1; omega)
        cases h1
        exact h3 j u hj
      · exact h v' w' (fin v' w' h1) h2
theorem wpList_append_pc (hgd : o.guard = none) (T E : TypeId) (hT : ElP T E) (s x : Operand) (ho : o.op = .call { callee := .builtin .append, args := #[s, x], argTypes := #[T, T] })
    (base : Nat) (v : Value) (L : List Pc) (hs : a.eval s = v) (hown : OwnP w base E v L)
    (q : Option Addr) (M : List Pc) (m cap b : Nat) (hm : M.length = m) (hx : a.eval x = .slice q m cap) (hq : q = none → cap = 0) (hl : Sees w b q (rowP M)) (h1 : ∀ u ∈ rowP M, u.oneCell' = true)
    (hn : L.length + m ≤ 2000000) (hbase : base ≤ w.heap.size)
    (h : ∀ v' w', OwnP w' base E v' (L ++ M) → Below base w w' → wpList Tryd.prog ops Q rest (a.put o.dst v') w') : wpList Tryd.prog ops Q (o :: rest) a w :=
  wpList_plain hgd fun _ hK => wp_append_pc T E hT s x ho base v L hs hown q M m cap b hm hx hq hl h1 hn hbase fun v' w' h1 h2 => hK _ _ (h v' w' h1 ((Below.refl base w).grown h2 hbase (fun k hk => hown.base k hk)))
end
theorem Has.pc {w : World} {g : Nat} {E : TypeId} {s : Pc} {b : Nat} (h : Has w g E (encP s)) (hb : g < b) : Sees w b (some ⟨g, 0, none⟩) (rowP [s]) := by
  rw [rowP_one]; exact Sees.of_has h hb
end Go.Proofs.YthpledfjopbchaaDoor
