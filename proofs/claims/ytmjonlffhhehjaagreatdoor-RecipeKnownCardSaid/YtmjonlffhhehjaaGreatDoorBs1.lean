/- Rows of pieces in memory: thirty-three cells a piece: its sum, its bytes' value. Condition: none. -/
import Derived.Test.YtmjonlffhhehjaaGreatDoorBu1
import Derived.Test.YtmjonlffhhehjaaGreatDoorBd1
import Derived.Great.FillDense
import Derived.Test.YtmjonlffhhehjaaGreatDoorProg
import Derived.Test.YtmjonlffhhehjaaGreatDoorBa1
import Derived.Test.YtmjonlffhhehjaaGreatDoorBg1
import Derived.WalkSpells
import Derived.Lib.Hide
import Derived.Laws.Tables
import Derived.Laws.Rows
import Derived.Deep.DeepCutAuto
import Derived.Test.YtmjonlffhhehjaaGreatDoorBc1
namespace Go.Proofs.YtmjonlffhhehjaaGreatDoor
open Go.RowKit
/-- A piece: its sum, its bytes' value, its bytes. -/
abbrev Pc := Su × Value × List (BitVec 8)
def encP (p : Pc) : List Value := encU p.1 ++ [p.2.1]
theorem encP_len (p : Pc) : (encP p).length = 33 := by unfold encP; rw [List.length_append, encU_len]; rfl
def rowP (L : List Pc) : List Value := L.flatMap encP
theorem rowP_len : ∀ L : List Pc, (rowP L).length = L.length * 33
  | [] => rfl
  | x :: L => by
    have h : rowP (x :: L) = encP x ++ rowP L := rfl
    rw [h, List.length_append, encP_len, rowP_len L, List.length_cons]; omega
theorem rowP_app (A B : List Pc) : rowP (A ++ B) = rowP A ++ rowP B := List.flatMap_append
theorem rowP_one (x : Pc) : rowP [x] = encP x := by unfold rowP; simp
theorem rowP_drop (L : List Pc) (k : Nat) : (rowP L).drop (k * 33) = rowP (L.drop k) := by
  by_cases h : k ≤ L.length
  · conv => lhs; rw [← List.take_append_drop k L, rowP_app]
    rw [List.drop_append_of_le_length (by rw [rowP_len, List.length_take]; omega), List.drop_of_length_le (by rw [rowP_len, List.length_take]; omega), List.nil_append]
  · rw [List.drop_of_length_le (by rw [rowP_len]; omega), List.drop_of_length_le (by omega)]; rfl
theorem rowP_take (L : List Pc) (k : Nat) : (rowP L).take (k * 33) = rowP (L.take k) := by
  by_cases h : k ≤ L.length
  · conv => lhs; rw [← List.take_append_drop k L, rowP_app]
    rw [List.take_append_of_le_length (by rw [rowP_len, List.length_take]; omega), List.take_of_length_le (by rw [rowP_len, List.length_take]; omega)]
  · rw [List.take_of_length_le (by rw [rowP_len]; omega), List.take_of_length_le (by omega)]
theorem rowP_get (L : List Pc) (i : Nat) (h : i < L.length) (j : Nat) (hj : j < 33) : (rowP L)[i * 33 + j]? = (encP L[i])[j]? := by
  have e : rowP L = rowP (L.take i) ++ (encP L[i] ++ rowP (L.drop (i + 1))) := by
    conv => lhs; rw [← List.take_append_drop i L, List.drop_eq_getElem_cons h, rowP_app]
    rfl
  have hl : (rowP (L.take i)).length = i * 33 := by rw [rowP_len, List.length_take]; omega
  rw [e, List.getElem?_append_right (by omega), hl, List.getElem?_append_left (by rw [encP_len]; omega)]
  congr 1; omega
/-- The pieces' bytes are there. -/
def Pcb (w : World) (L : List Pc) : Prop := ∀ p ∈ L, Bs w p.2.1 p.2.2
theorem Pcb.keep {w w' : World} {L : List Pc} (h : Pcb w L) (hb : Below w.heap.size w w') : Pcb w' L := fun p hp => (h p hp).keep hb
theorem Bs.one {w : World} {v : Value} {x : List (BitVec 8)} (h : Bs w v x) : v.oneCell' = true := by
  obtain ⟨q, c, rfl, _⟩ := h; rfl
theorem rowP_ones {w : World} {L : List Pc} (h : Pcb w L) : ∀ v ∈ rowP L, v.oneCell' = true := fun v hv => by
  obtain ⟨x, hx, hx2⟩ := List.mem_flatMap.1 hv
  rcases List.mem_append.1 hx2 with h1 | h1
  · exact encU_one _ v h1
  · rw [List.mem_singleton.1 h1]; exact (h x hx).one
/-- A type of slices of pieces, the type of its pieces. -/
def ElP (T E : TypeId) : Prop := Tryz.prog.underlying T = some (.slice E) ∧ (∃ fs, Tryz.prog.underlying E = some (.struct fs)) ∧ (Tryz.prog.info? E).map (fun i => (i.zero, i.size, i.bytes)) = some (some (.agg (Array.replicate 32 (.int .u8 0) ++ #[.slice none 0 0])), 33, 56)
/-- The value reads as these pieces. -/
def PcV (w : World) (v : Value) (L : List Pc) : Prop := ∃ q c, v = .slice q L.length c ∧ L.length ≤ c ∧ (q = none → c = 0) ∧ Sees w w.heap.size q (rowP L)
theorem PcV.keep {w w' : World} {v : Value} {L : List Pc} (h : PcV w v L) (hb : Below w.heap.size w w') : PcV w' v L := by
  obtain ⟨q, c, h1, h2, h3, h4⟩ := h
  exact ⟨q, c, h1, h2, h3, (h4.keep hb).more hb.size⟩
theorem PcV.nil (w : World) : PcV w (.slice none 0 0) [] := ⟨none, 0, rfl, Nat.le_refl _, fun _ => rfl, Sees.nil _ _ _⟩
/-- One of them: its thirty-three cells. -/
theorem Sees.pc {w : World} {b : Nat} {q : Option Addr} {L : List Pc} (h : Sees w b q (rowP L)) {i : Nat} (hi : i < L.length) :
    ∃ a : Addr, q = some a ∧ a.block < b ∧ ∀ w', Below b w w' → ∀ j u, (encP L[i])[j]? = some u → w'.cell? ((a.add (i * 33)).add j) = some u := by
  obtain ⟨a, rfl, hb, hc⟩ := h.get (by rw [rowP_len]; omega)
  refine ⟨a, rfl, hb, fun w' hw j u hu => ?_⟩
  have hj : j < 33 := by have := (List.getElem?_eq_some_iff.1 hu).1; rwa [encP_len] at this
  rw [add_add, hw.cell (by rw [add_block]; exact hb)]
  exact hc _ u (by rw [rowP_get L i hi j hj]; exact hu)
theorem encP_su {p : Pc} {j : Nat} {u : Value} (h : (encU p.1)[j]? = some u) : (encP p)[j]? = some u := by
  have hj := (List.getElem?_eq_some_iff.1 h).1
  unfold encP; rw [List.getElem?_append_left hj]; exact h
theorem encP_b (p : Pc) : (encP p)[32]? = some p.2.1 := by
  unfold encP; rw [List.getElem?_append_right (by rw [encU_len]; omega), encU_len]; rfl
/-- A row of the call's own. -/
def OwnP (w : World) (base : Nat) (E : TypeId) (v : Value) (L : List Pc) : Prop := w.ownsRow base E 33 v L.length (rowP L)
theorem OwnP.nil (w : World) (base : Nat) (E : TypeId) : OwnP w base E (.slice none 0 0) [] := World.ownsRow_nil w base E 33
theorem OwnP.empty (w : World) (base : Nat) (E : TypeId) (hb : base ≤ w.heap.size) : OwnP (w.alloc (.cells #[] E)) base E (.slice (some ⟨w.heap.size, 0, none⟩) 0 0) [] :=
  World.ownsRow_made w #[] 0 hb (Nat.zero_le _) (by simp)
theorem OwnP.base {w : World} {base : Nat} {E : TypeId} {v : Value} {L : List Pc} (h : OwnP w base E v L) : ∀ j, Value.ownBlock v = some j → base ≤ j := fun j hj => (World.ownsRow.lt h j hj).1
theorem OwnP.keep {w w' : World} {base : Nat} {E : TypeId} {v : Value} {L : List Pc} (h : OwnP w base E v L) (hb : Below w.heap.size w w') : OwnP w' base E v L := by
  rcases h.2 with ⟨rfl, h0⟩ | ⟨g', cap, cur, rfl, hb', hg', h1, h2, h3, h4⟩
  · exact ⟨h.1, .inl ⟨rfl, h0⟩⟩
  · exact ⟨h.1, .inr ⟨g', cap, cur, rfl, hb', (hb.block g' (Array.getElem?_eq_some_iff.1 hg').1).trans hg', h1, h2, h3, h4⟩⟩
theorem OwnP.less {w : World} {b base : Nat} {E : TypeId} {v : Value} {L : List Pc} (h : OwnP w base E v L) (hb : b ≤ base) : OwnP w b E v L := by
  rcases h.2 with ⟨rfl, h0⟩ | ⟨g', cap, cur, rfl, hb', r⟩
  · exact ⟨h.1, .inl ⟨rfl, h0⟩⟩
  · exact ⟨h.1, .inr ⟨g', cap, cur, rfl, by omega, r⟩⟩
theorem OwnP.pc {w : World} {base : Nat} {E : TypeId} {v : Value} {L : List Pc} (h : OwnP w base E v L) : PcV w v L := by
  rcases h.2 with ⟨rfl, h0⟩ | ⟨g, cap, cur, rfl, hb, hg, h1, _⟩
  · have : L = [] := List.eq_nil_of_length_eq_zero h0
    subst this
    exact PcV.nil w
  · exact ⟨_, cap, rfl, h1, fun e => (by cases e), fun _ => ⟨_, rfl, (Array.getElem?_eq_some_iff.1 hg).1, World.ownsRow.cells h (g := g) rfl⟩⟩
section
variable {P : Program}
/-- A whole piece loaded. -/
theorem load_pc {o : Oper} {ev : Operand → Value} {w : World} (T E : TypeId) (hT : ElP T E) (x : Operand) (ho : o.op = .load E x) (p : Addr) (hx : ev x = .pointer (some p))
    (s : Pc) (hc : ∀ j u, (encP s)[j]? = some u → w.cell? (p.add j) = some u) : (execOp ev o).run Tryz.prog w = .ok (.value (.agg (encP s).toArray)) w := by
  have hl := run_loadCells_list (P := Tryz.prog) w p (encP s) hc
  rw [encP_len] at hl
  obtain ⟨i0, hi, hz0, hz1, hz2⟩ := info_parts hT.2.2
  obtain ⟨fs, hu⟩ := hT.2.1
  have hrun : (loadVar E p).run Tryz.prog w = .ok (.agg (encP s).toArray) w := by
    have hagg : (isAgg E).run Tryz.prog w = .ok true w := by
      unfold isAgg
      rw [Sem.run_bind, run_underlying hu w]
      simp
    simp only [loadVar, sizeOf, typeInfo, Sem.run_bind, hagg, Result.andThen_ok, if_true]
    simp [hi, hz1, hl]
  unfold execOp
  simp only [ho, hx, Instr.loadAt, Instr.sureAddr, Sem.run_bind, Sem.run_pure, Result.andThen_ok, hrun]
end
/-- One part that fills the whole. -/
theorem fill_whole (s : Nat) (hs : 0 < s) (x : List Value) (hx : x.length = s) (cells : Array Value) (hc : cells.size = s) : Instr.fill (fun i => some (i * s, s)) cells [(0, .agg x.toArray)] = some x.toArray := by
  obtain ⟨r, h1, h2, h3⟩ := Great.fill_dense hs [Value.agg x.toArray] 0 cells (fun v hv => by
    rw [List.mem_singleton.1 hv]; simpa [Value.cells] using hx) (by simp [hc])
  rw [show [(0, Value.agg x.toArray)] = (([Value.agg x.toArray].zipIdx 0).map fun x => (x.2, x.1)) from rfl, h1]
  congr 1
  have hsz : r.size = x.toArray.size := by rw [h2, hc]; simp [hx]
  refine Array.ext hsz fun k hk1 hk2 => ?_
  have hk : k < s := by rw [h2, hc] at hk1; exact hk1
  have h4 := h3 k
  rw [if_pos ⟨by omega, by simpa using hk⟩, Nat.div_eq_of_lt hk, Nat.mod_eq_of_lt hk] at h4
  simp only [Nat.sub_self, List.getElem?_cons_zero, Option.bind_some, Value.cells] at h4
  rw [Array.getElem?_eq_getElem hk1, Array.getElem?_eq_getElem hk2] at h4
  exact Option.some.inj h4
section
variable {ops : Array Oper} {rest : List Oper} {o : Oper} {a : Act} {w : World} {Q : Exit → Act → World → Prop} {K : Act → World → Prop}
/-- A row of one piece. -/
theorem wp_one_pc (T E : TypeId) (hT : ElP T E) (x : Operand) (ho : o.op = .buildSlice T 1 #[(0, x)]) (s : Pc) (hx : a.eval x = .agg (encP s).toArray)
    (h : K (a.put o.dst (.slice (some ⟨w.heap.size, 0, none⟩) 1 1)) (w.alloc (.cells (encP s).toArray E))) : o.wp Tryz.prog a w K Q := by
  obtain ⟨i0, hi, hz0, hz1, hz2⟩ := info_parts hT.2.2
  refine wp_buildSlice T E 1 _ ho (encP s).toArray i0 _ hT.1 hi hz0 (by rw [hz1]; omega) (by rw [hz1]; omega) ?_ h
  rw [hz1]
  simp only [List.map_toArray, List.map_cons, List.map_nil, hx]
  exact fill_whole 33 (by decide) (encP s) (encP_len s) _ (by simp)
theorem wpList_one_pc (hgd : o.guard = none) (T E : TypeId) (hT : ElP T E) (x : Operand) (ho : o.op = .buildSlice T 1 #[(0, x)]) (s : Pc) (hx : a.eval x = .agg (encP s).toArray)
    (h : wpList Tryz.prog ops Q rest (a.put o.dst (.slice (some ⟨w.heap.size, 0, none⟩) 1 1)) (w.alloc (.cells (encP s).toArray E))) : wpList Tryz.prog ops Q (o :: rest) a w :=
  wpList_plain hgd fun _ hK => wp_one_pc T E hT x ho s hx (hK _ _ h)
/-- Pieces put behind a row of the call's own. -/
theorem wp_append_pc (T E : TypeId) (hT : ElP T E) (s x : Operand) (ho : o.op = .call { callee := .builtin .append, args := #[s, x], argTypes := #[T, T] })
    (base : Nat) (v : Value) (L : List Pc) (hs : a.eval s = v) (hown : OwnP w base E v L)
    (q : Option Addr) (M : List Pc) (m cap b : Nat) (hm : M.length = m) (hx : a.eval x = .slice q m cap) (hq : q = none → cap = 0) (hl : Sees w b q (rowP M)) (h1 : ∀ u ∈ rowP M, u.oneCell' = true)
    (hn : L.length + m ≤ 2000000) (hbase : base ≤ w.heap.size)
    (h : ∀ v' w', OwnP w' base E v' (L ++ M) → w.grownBy w' v.ownBlock → K (a.put o.dst v') w') : o.wp Tryz.prog a w K Q := by
  subst hm
  obtain ⟨i0, hi, hz0, hz1, hz2⟩ := info_parts hT.2.2
  have fin : ∀ v' w', w'.ownsRow base E 33 v' (L.length + M.length) (rowP L ++ rowP M) → OwnP w' base E v' (L ++ M) := fun v' w' h1 => by
    unfold OwnP; rw [List.length_append, rowP_app]; exact h1
  have hbytes : (L.length + M.length) * 56 ≤ 140737488355328 := Nat.le_trans (Nat.mul_le_mul hn (Nat.le_refl 56)) (by decide)
  rcases q with _ | ad
  · have hl0 : M = [] := by
      rcases M with _ | ⟨y, M⟩
      · rfl
      · obtain ⟨a, h1, _⟩ := hl.get (by rw [rowP_len, List.length_cons]; omega)
        cases h1
    subst hl0
    obtain rfl := hq rfl
    have hrun := run_append_owned_none (P := Tryz.prog) (w := w) base T o.type E i0 33 hT.1 hi v L.length (rowP L) hown
    have hx' : a.eval x = .slice none 0 0 := hx
    unfold Oper.wp
    simp [execOp, ho, resolve, invoke, builtin, hs, hx', hrun, Result.andThen]
    exact h v w (by simpa using hown) ⟨rfl, rfl, rfl, Nat.le_refl _, fun _ _ _ => rfl⟩
  · by_cases hl0 : M = []
    · subst hl0
      refine wp_append_own w s x T ho base E i0 _ 33 56 hT.1 hi hz0 hz1 hz2 rfl (by decide) v L.length (rowP L) hs hown ad 0 cap [] hx rfl (fun j u hj => by simp at hj) (fun u hu => by cases hu) (by unfold maxLen; simp at hn; omega) hbytes hbase (fun v' w' h1 h2 _ => ?_)
      exact h v' w' (fin v' w' (by simpa [rowP] using h1)) h2
    · refine wp_append_own w s x T ho base E i0 _ 33 56 hT.1 hi hz0 hz1 hz2 rfl (by decide) v L.length (rowP L) hs hown ad M.length cap (rowP M) hx (rowP_len M) (fun j u hj => ?_) h1 (by unfold maxLen; omega) hbytes hbase (fun v' w' h1 h2 _ => ?_)
      · obtain ⟨a', h1, _, h3⟩ := hl.get (by have := (List.getElem?_eq_some_iff.1 hj).1; omega)
        cases h1
        exact h3 j u hj
      · exact h v' w' (fin v' w' h1) h2
theorem wpList_append_pc (hgd : o.guard = none) (T E : TypeId) (hT : ElP T E) (s x : Operand) (ho : o.op = .call { callee := .builtin .append, args := #[s, x], argTypes := #[T, T] })
    (base : Nat) (v : Value) (L : List Pc) (hs : a.eval s = v) (hown : OwnP w base E v L)
    (q : Option Addr) (M : List Pc) (m cap b : Nat) (hm : M.length = m) (hx : a.eval x = .slice q m cap) (hq : q = none → cap = 0) (hl : Sees w b q (rowP M)) (h1 : ∀ u ∈ rowP M, u.oneCell' = true)
    (hn : L.length + m ≤ 2000000) (hbase : base ≤ w.heap.size)
    (h : ∀ v' w', OwnP w' base E v' (L ++ M) → Below base w w' → wpList Tryz.prog ops Q rest (a.put o.dst v') w') : wpList Tryz.prog ops Q (o :: rest) a w :=
  wpList_plain hgd fun _ hK => wp_append_pc T E hT s x ho base v L hs hown q M m cap b hm hx hq hl h1 hn hbase fun v' w' h1 h2 => hK _ _ (h v' w' h1 ((Below.refl base w).grown h2 hbase (fun k hk => hown.base k hk)))
end
theorem Has.pc {w : World} {g : Nat} {E : TypeId} {s : Pc} {b : Nat} (h : Has w g E (encP s)) (hb : g < b) : Sees w b (some ⟨g, 0, none⟩) (rowP [s]) := by
  rw [rowP_one]; exact Sees.of_has h hb
end Go.Proofs.YtmjonlffhhehjaaGreatDoor
/- Contracts: the document's own turned, keys. No condition but that the turn is by 1 to 31. -/
namespace Go.Proofs.YtmjonlffhhehjaaGreatDoor
open Go.RowKit
section
attribute [local go_sem] N_and N_or N_xor N_add
theorem turned_any (x : BitVec 32) (k : Nat) (m : Int) (hm : m = (k : Int)) (h0 : 0 < k) (h1 : k < 32) (w : World) :
    Calls Tryz.prog 105 #[.int .u32 (N x), .int .u64 m] w fun e w' => e = .returned (.int .u32 (N (rotr x k))) ∧ w = w' := by
  subst hm
  have hx := N_nonneg x
  obtain ⟨j, hj⟩ : ∃ j, j + k = 32 := ⟨32 - k, by omega⟩
  have e1 : (min j 32) = 32 - k := by omega
  have e2 : (IntKind.u64.wrap (32 - (k : Int))) = (j : Int) := by rw [show (32 - (k : Int)) = (j : Int) from by omega]; exact IntWalk.u64_in _ (by omega)
  have e3 : (min k 32) = k := by omega
  have e4 := rotr_of' x k _ _ rfl rfl
  rw [IntKind.wrap_u32'] at e4
  have e5 : (0 : Int) ≤ (j : Int) := by omega
  have e6 : (0 : Int) ≤ (k : Int) := by omega
  have hb : IntKind.u32.bits = 32 := rfl
  clear hj h0 h1
  go_enter Tryz.func105, Tryz.ntmps105
  go_wp2
  go_ret
  exact ⟨rfl, rfl⟩
end
theorem turned_q (x : BitVec 32) (k : Nat) (m : Int) (hm : m = (k : Int)) (h0 : 0 < k) (h1 : k < 32) (w : World) :
    Calls Tryz.prog 105 #[.int .u32 (N x), .int .u64 m] w fun e w' => e = .returned (.int .u32 (N (rotr x k))) ∧ w' = w :=
  (turned_any x k m hm h0 h1 w).mono fun _ _ ⟨h1, h2⟩ => ⟨h1, h2.symm⟩
theorem wpList_built {P : Program} {ops : Array Oper} {Q : Exit → Act → World → Prop} {rest : List Oper} {o : Oper} {a : Act} {w : World} (hgd : o.guard = none) (t : TypeId) (parts : Array (Nat × Operand)) (ho : o.op = .build t parts) (cs : Array Value)
    (hf : P.built t (parts.map fun (i, x) => (i, a.eval x)).toList = some cs) (h : wpList P ops Q rest (a.put o.dst (.agg cs)) w) : wpList P ops Q (o :: rest) a w := by
  refine wpList_step (fun K hK => ?_)
  rw [if_pos (by simp [Region.wanted, hgd])]
  refine wp_build t parts ho (by rw [hf]; rfl) ?_
  rw [hf]
  exact hK _ _ h
def keyVals : List Value := keyNats.map fun (n : Nat) => Value.int .u32 (n : Int)
theorem keys_small : ∀ n ∈ keyNats, n < 4294967296 := by decide +kernel
theorem keys_lit : keys.map u32v = keyVals := by
  unfold keys keyVals
  rw [List.map_map]
  refine List.map_congr_left (fun n hn => ?_)
  have := keys_small n hn
  show Value.int .u32 (N (BitVec.ofNat 32 n)) = _
  rw [← N_ofNat n this]
theorem keyVals_one : keyVals.toArray.all (·.oneCell') = true := by rw [← keys_lit]; exact u32v_one _
set_option maxRecDepth 100000 in
theorem keys_any (w : World) : Calls Tryz.prog 104 #[] w fun e w' => e = .returned (.agg (keys.map u32v).toArray) ∧ Below w.heap.size w w' := by
  rw [keys_lit]
  have HO := Lib.hid keyVals_one
  go_enter Tryz.func104, Tryz.ntmps104
  go_wp2_with (first
    | (refine wpList_built rfl 167 _ rfl keyVals.toArray (by kernel_rfl) ?_)
    | (refine wpList_store_row rfl 167 _ _ rfl w.heap.size keyVals.toArray rfl rfl 167 _ (heap_alloc_new _ _) (by kernel_rfl) (by kernel_rfl) HO.out ?_))
  refine bodyPost_ret (v := .agg keyVals.toArray) ?_ rfl ⟨rfl, below_row ((Below.refl _ _).alloc (Nat.le_refl _) _) (Nat.le_refl _) _⟩
  exact results_cell_row rfl _ _ w.heap.size 167 _ (0, 0) _ rfl ((Has.made w 167 _).rowl keyVals) Tryz.underlying167 rfl (by kernel_rfl)
end Go.Proofs.YtmjonlffhhehjaaGreatDoor
/- Contracts: chunk.Cut, the pieces of bytes with their sums. Conditions: at most a million bytes, no longer than their room; the sums' tables are laid. -/
namespace Go.Proofs.YtmjonlffhhehjaaGreatDoor
open Go.RowKit
/-- The plain rule. -/
def plR : Rl := ⟨16, 128, 8, 31, 7⟩
theorem plR_ok : plR.Ok := by constructor <;> decide
def shaU (x : List (BitVec 8)) : Su := ⟨sha x, sha_length _⟩
/-- The pieces, each with its sum. -/
def cutP (b : List (BitVec 8)) : List (Su × List (BitVec 8)) := (pieces b (endsL plR 0 b)).map fun x => (shaU x, x)
theorem cutP_length (b : List (BitVec 8)) : (cutP b).length = (endsL plR 0 b).length := by unfold cutP; rw [List.length_map, pieces_length]
def keyP (p : Pc) : Su × List (BitVec 8) := (p.1, p.2.2)
theorem elPc : ElP 42 87 := ⟨Tryz.underlying42, ⟨_, Tryz.underlying87⟩, by kernel_rfl⟩
/-- The thirty-three cells of none. -/
def zPc : Array Value := Array.replicate 32 (Value.int .u8 0) ++ #[Value.slice none 0 0]
theorem made_runP (n : Nat) (hn : n ≤ 1000000) (w : World) :
    (Instr.makeSlice 42 (.int .i64 0) (.int .i64 (n : Int))).run Tryz.prog w = .ok (.slice (some ⟨w.heap.size, 0, none⟩) 0 n) (w.alloc (.cells (madeCells zPc (n * 33)) 87)) := by
  obtain ⟨i0, hi, hz0, hz1, hz2⟩ := info_parts elPc.2.2
  have := run_make (P := Tryz.prog) w 42 87 i0 _ elPc.1 hi hz0 .i64 .i64 0 n (by omega) (by omega) (by rw [hz2]; omega) (by omega)
  rw [hz1, show (Value.agg (Array.replicate 32 (Value.int .u8 0) ++ #[Value.slice none 0 0])).cells = zPc from rfl] at this
  simpa using this
theorem of_one {w : World} {v : Value} {x : List (BitVec 8)} (h : Bs w v x) (hx : x.length ≤ 1000000) (hL : Laid w) :
    Calls Tryz.prog 19 #[.slice (some ⟨w.heap.size, 0, none⟩) 1 1] (w.alloc (.cells #[v] 40)) fun e w' => e = .returned (.agg (encU (shaU x)).toArray) ∧ Below (w.alloc (.cells #[v] 40)).heap.size (w.alloc (.cells #[v] 40)) w' ∧ Below w.heap.size w w' := by
  obtain ⟨q, c, rfl, hc, _, hs⟩ := h
  have hb : Below w.heap.size w (w.alloc (.cells #[.slice q x.length c] 40)) := (Below.refl _ _).alloc (Nat.le_refl _) _
  have hP : Parts (w.alloc (.cells #[.slice q x.length c] 40)) (w.alloc (.cells #[.slice q x.length c] 40)).heap.size (some ⟨w.heap.size, 0, none⟩) [x] := fun i hi => by
    obtain rfl : i = 0 := by simpa using hi
    refine ⟨⟨w.heap.size, 0, none⟩, q, c, rfl, by simp, ?_, hc, (hs.keep hb).more hb.size⟩
    rw [add_lit', Nat.zero_add]
    exact (Has.made' w 40 #[.slice q x.length c] [.slice q x.length c] rfl).cellv rfl
  have h := of_any [x] _ 1 _ hP (by simp) (by simp; omega) (hL.keep hb hL.size)
  refine Calls.mono h ?_
  rintro e w' ⟨rfl, h2⟩
  have e : ([x] : List (List (BitVec 8))).flatten = x := by simp
  rw [e]
  exact ⟨rfl, h2, hb.trans (h2.mono hb.size)⟩
theorem built_pc (s : Su) (q : Option Addr) (n c : Nat) (x : List (BitVec 8)) : Tryz.prog.built 87 [(0, .agg (encU s).toArray), (1, .slice q n c)] = some (encP (s, .slice q n c, x)).toArray := by
  obtain ⟨l, hl⟩ := s
  unfold encP encU
  match l, hl with
  | [a0, a1, a2, a3, a4, a5, a6, a7, a8, a9, b0, b1, b2, b3, b4, b5, b6, b7, b8, b9, c0, c1, c2, c3, c4, c5, c6, c7, c8, c9, d0, d1], _ => show _ = _; kernel_rfl
theorem build_cells {o : Oper} {ev : Operand → Value} {w : World} (E : TypeId) (parts : Array (Nat × Operand)) (ho : o.op = .build E parts) (cs : Array Value) (l : List (Nat × Value)) (hl : (parts.map fun (i, x) => (i, ev x)).toList = l) (hb : Tryz.prog.built E l = some cs) :
    (execOp ev o).run Tryz.prog w = .ok (.value (.agg cs)) w := by
  unfold execOp
  simp only [ho, Sem.run_bind, run_build w E _ cs (by rw [hl]; exact hb), Result.andThen_ok]
  rfl
theorem slT_infoP : (Tryz.prog.info? 40).map (fun i => (i.zero, i.size, i.bytes)) = some (some (.slice none 0 0), 1, 24) := by kernel_rfl
section
variable {o : Oper} {a : Act} {w : World} {Q : Exit → Act → World → Prop} {K : Act → World → Prop}
/-- A row of one slice of bytes. -/
theorem wp_one_bs (x : Operand) (ho : o.op = .buildSlice 82 1 #[(0, x)]) (q : Option Addr) (n c : Nat) (hx : a.eval x = .slice q n c)
    (h : K (a.put o.dst (.slice (some ⟨w.heap.size, 0, none⟩) 1 1)) (w.alloc (.cells #[.slice q n c] 40))) : o.wp Tryz.prog a w K Q := by
  obtain ⟨i0, hi, hz0, hz1, hz2⟩ := info_parts slT_infoP
  refine wp_buildSlice 82 40 1 _ ho #[.slice q n c] i0 _ Tryz.underlying82 hi hz0 (by rw [hz1]; omega) (by rw [hz1]; omega) ?_ h
  rw [hz1]
  simp only [List.map_toArray, List.map_cons, List.map_nil, hx]
  kernel_rfl
end
set_option maxHeartbeats 4000000 in
set_option maxRecDepth 100000 in
theorem ccut_any (b : List (BitVec 8)) (q : Option Addr) (c : Nat) (w : World) (hc : b.length ≤ c) (hq : q = none → c = 0) (hl : b.length ≤ 1000000) (hs : Sees w w.heap.size q (b.map u8v)) (hL : Laid w) :
    Calls Tryz.prog 14 #[.slice q b.length c] w fun e w' => (∃ v L, e = .returned v ∧ PcV w' v L ∧ Pcb w' L ∧ L.map keyP = cutP b) ∧ Below w.heap.size w w' := by
  have HPL := Lib.hid (fun w1 => plain_any w1)
  have HPA : Hid (∀ v, Below w.heap.size w v → Calls Tryz.prog 43 #[ruleV 16 128 8 31 7, .slice q b.length c] v fun e w' => ∃ u, e = .returned u ∧ Ps w' u (pieces b (endsL plR 0 b)) ∧ Below v.heap.size v w') := Lib.hid (fun v (hb : Below w.heap.size w v) => parts_good plR plR_ok b q c v hc hq hl ((hs.keep hb).more hb.size))
  have HLT : Hid ((pieces b (endsL plR 0 b)).length ≤ 1000000) := Lib.hid (by rw [pieces_length]; exact Nat.le_trans (endsL_count plR_ok b) hl)
  have HPC : Hid (∀ x ∈ pieces b (endsL plR 0 b), x.length ≤ 1000000) := Lib.hid (fun x hx => by
    unfold pieces at hx
    obtain ⟨i, hi, rfl⟩ := List.mem_map.1 hx
    have hi' : i < (endsL plR 0 b).length := by simpa using hi
    obtain ⟨k1, k2, _⟩ := endsL_lt plR_ok b i hi'
    rw [piece_length _ _ _ (by rw [getD_at _ i hi']; exact k2), getD_at _ i hi']
    omega)
  have HCP : Hid (cutP b = (pieces b (endsL plR 0 b)).map fun x => (shaU x, x)) := Lib.hid rfl
  have HL := Lib.hid hL
  have HSZ := Lib.hid hL.size
  generalize pieces b (endsL plR 0 b) = X at *
  clear hs hL
  unfold ruleV ruleL at HPL HPA
  go_enter Tryz.func14, Tryz.ntmps14
  go_upto_region 2 with (first | ((with_reducible refine (HPL.out _).mono ?_); rintro e w3 ⟨rfl, hB⟩; have HB3 := Lib.hid hB; clear hB) | ((with_reducible refine (HPA.out _ HB3.out).mono ?_); rintro e w4 ⟨v4, rfl, ⟨q5, c5, vs, rfl, hse, hvl, hvs⟩, hB⟩; have HB4 := Lib.hid (HB3.out.trans (hB.mono HB3.out.size)); have HSE := Lib.hid hse; have HVL := Lib.hid hvl; have HVS := Lib.hid hvs; clear hB hse hvl hvs))
  clear HPL HPA HB3
  have hmk := made_runP X.length HLT.out w4
  have HA := Lib.hid ((Below.refl w4.heap.size w4).alloc (Nat.le_refl _) (.cells (madeCells zPc (X.length * 33)) 87))
  have HROW : Hid (OwnP (w4.alloc (.cells (madeCells zPc (X.length * 33)) 87)) w4.heap.size 87 (.slice (some ⟨w4.heap.size, 0, none⟩) 0 X.length) []) := Lib.hid (World.ownsRow_made w4 _ X.length (Nat.le_refl _) (by have := HLT.out; unfold maxLen; omega) (size_madeCells _ _))
  go_upto_region 4 with fail
  clear hmk
  generalize w4.alloc (.cells (madeCells zPc (X.length * 33)) 87) = w6 at *
  go_loopw [4, 15] (fun v vi wr => ∃ (j : Nat) (L : List Pc), j ≤ X.length ∧ L.length = j ∧ vi = .int .i64 j ∧ OwnP wr w4.heap.size 87 v L ∧ Pcb w4 L ∧ L.map keyP = (cutP b).take j ∧ Below w4.heap.size w4 wr) (fun _ vi _ => X.length - (intOf vi).toNat)
  case atStart => exact ⟨0, [], by omega, rfl, rfl, HROW.out, fun p hp => by (cases hp), rfl, HA.out⟩
  case round =>
    clear HROW HA
    rename_i wr
    obtain ⟨j, L, hj, hLl, rfl, hrow, hpb, hkey, hB⟩ := hrel
    have HROW := Lib.hid hrow
    have HB := Lib.hid hB
    have HPB := Lib.hid hpb
    have HKEY := Lib.hid hkey
    clear hrow hB hpb hkey
    have HLn := Lib.hid hLl
    clear hLl
    by_cases hlt : j < X.length
    · have hvj : j < vs.length := by rw [HVL.out]; exact hlt
      obtain ⟨x, hx⟩ : ∃ x, x = X[j] := ⟨_, rfl⟩
      have hbs4 := HVS.out j vs[j] X[j] (List.getElem?_eq_getElem hvj) (List.getElem?_eq_getElem hlt)
      rw [← hx] at hbs4
      have hxl := HPC.out X[j] (List.getElem_mem hlt)
      rw [← hx] at hxl
      obtain ⟨ad, rfl, hab, hcell⟩ := (HSE.out.keep HB.out).get (by rw [HVL.out]; omega)
      have cx := hcell j vs[j] (List.getElem?_eq_getElem hvj)
      obtain ⟨u, hu⟩ : ∃ u, u = vs[j] := ⟨_, rfl⟩
      rw [← hu] at cx hbs4
      have hbs := hbs4.keep HB.out
      have HOF := Lib.hid (of_one hbs hxl (HL.out.keep (HB4.out.trans (HB.out.mono HB4.out.size)) HSZ.out))
      have HBS4 := Lib.hid hbs4
      obtain ⟨qx, cx', rfl, _, _, _⟩ := hbs4
      have HBD := Lib.hid (built_pc (shaU x) qx x.length cx' x)
      have HXJ : Hid ((cutP b).take (j + 1) = (cutP b).take j ++ [(shaU x, x)]) := Lib.hid (by
        rw [HCP.out, ← List.map_take, ← List.map_take, List.take_add_one, List.getElem?_eq_getElem hlt, ← hx]
        simp)
      have HX1 := Lib.hid hxl
      clear hbs hcell hx hu hxl hab
      have hjj : (j : Int) < (X.length : Int) := by omega
      have HLEN : Hid (L.length + 1 ≤ 2000000) := Lib.hid (by have := HLn.out; have := HLT.out; omega)
      have HONE : Hid (∀ v ∈ rowP [(shaU x, Value.slice qx x.length cx', x)], v.oneCell' = true) := Lib.hid (by
        refine rowP_ones (w := w4) (fun p hp => ?_)
        rw [List.mem_singleton.1 hp]; exact HBS4.out)
      have hll : j < 1000000 := by have := HLT.out; omega
      go_upto_region 6 with fail
      refine wp_region_lit ?_
      try simp only [Act.put, List.setIfInBounds_toArray, List.set_cons_zero, List.set_cons_succ]
      refine lp_pure (v := ?_) (by kernel_rfl) ?_ ?_
      rotate_left
      · go_simp; try with_reducible rfl
      try simp only [Act.put, List.setIfInBounds_toArray, List.set_cons_zero, List.set_cons_succ]
      refine lp_pure (v := ?_) (by kernel_rfl) ?_ ?_
      rotate_left
      · go_simp; try with_reducible rfl
      try simp only [Act.put, List.setIfInBounds_toArray, List.set_cons_zero, List.set_cons_succ]
      refine lp_step (by kernel_rfl) (fun K hK => wp_one_bs (.tmp 20) rfl qx x.length cx' rfl (hK _ _ ?_))
      try simp only [Act.put, List.setIfInBounds_toArray, List.set_cons_zero, List.set_cons_succ]
      refine lp_step (by kernel_rfl) (fun K hK => ?_)
      go_wp2_with fail
      refine Calls.mono HOF.out ?_
      rintro e w7 ⟨rfl, _, hB7⟩
      have HB7 := Lib.hid hB7
      clear hB7
      refine hK _ _ ?_
      clear hK
      try simp only [Act.put, List.setIfInBounds_toArray, List.set_cons_zero, List.set_cons_succ]
      refine lp_pure (v := ?_) (by kernel_rfl) ?_ ?_
      rotate_left
      · go_simp; try with_reducible rfl
      try simp only [Act.put, List.setIfInBounds_toArray, List.set_cons_zero, List.set_cons_succ]
      refine lp_pure (by kernel_rfl) (build_cells 87 _ rfl (encP (shaU x, .slice qx x.length cx', x)).toArray [(0, .agg (encU (shaU x)).toArray), (1, .slice qx x.length cx')] (by kernel_rfl) HBD.out) ?_
      try simp only [Act.put, List.setIfInBounds_toArray, List.set_cons_zero, List.set_cons_succ]
      refine wpList_one_pc rfl 42 87 elPc (.tmp 24) rfl (shaU x, .slice qx x.length cx', x) rfl ?_
      try simp only [Act.put, List.setIfInBounds_toArray, List.set_cons_zero, List.set_cons_succ]
      refine wpList_append_pc rfl 42 87 elPc (.tmp 19) (.tmp 25) rfl w4.heap.size _ L rfl ((HROW.out.keep HB7.out).keep ((Below.refl _ _).alloc (Nat.le_refl _) _)) (some ⟨w7.heap.size, 0, none⟩) [(shaU x, .slice qx x.length cx', x)] 1 1 (w7.heap.size + 1) rfl rfl (fun h => by cases h) (Has.pc (Has.made' _ _ _ _ rfl) (by omega)) HONE.out HLEN.out (by have := HB.out.size; have := HB7.out.size; simp; omega) ?_
      intro v8 w8 h1 h2
      have HROW2 := Lib.hid h1
      have HB8 := Lib.hid h2
      clear h1 h2
      try simp only [Act.put, List.setIfInBounds_toArray, List.set_cons_zero, List.set_cons_succ]
      refine lp_pure (v := ?_) (by kernel_rfl) ?_ ?_
      rotate_left
      · go_simp; try with_reducible rfl
      try simp only [Act.put, List.setIfInBounds_toArray, List.set_cons_zero, List.set_cons_succ]
      refine wpList_nil ?_
      go_wp2_with fail
      go_roundw
      case rel =>
        refine ⟨j + 1, L ++ [(shaU x, .slice qx x.length cx', x)], by omega, by rw [List.length_append, HLn.out]; rfl, by go_num, HROW2.out, fun p hp => ?_, ?_, ?_⟩
        · rcases List.mem_append.1 hp with h | h
          · exact HPB.out p h
          · rw [List.mem_singleton.1 h]; exact HBS4.out
        · rw [List.map_append, HKEY.out, HXJ.out]; rfl
        · exact (HB.out.trans (HB7.out.mono HB.out.size)).trans (((Below.refl _ _).alloc (Nat.le_trans HB.out.size HB7.out.size) _).trans HB8.out)
      case measure => simp [intOf]; omega
    · have hjl : j = X.length := by omega
      subst hjl
      have k3 : ¬ ((X.length : Int) < (X.length : Int)) := by omega
      have HPV := Lib.hid HROW.out.pc
      clear hlt
      go_wp2_with fail
      go_ret
      refine ⟨⟨_, rfl, L, HPV.out, HPB.out.keep HB.out, ?_⟩, HB4.out.trans (HB.out.mono HB4.out.size)⟩
      rw [HKEY.out, List.take_of_length_le (by rw [HCP.out, List.length_map]; exact Nat.le_refl _)]
end Go.Proofs.YtmjonlffhhehjaaGreatDoor
/- A variable laid, a whole piece or sum copied into it. No condition. -/
namespace Go.Proofs.YtmjonlffhhehjaaGreatDoor
open Go.RowKit
section
variable {ops : Array Oper} {rest : List Oper} {o : Oper} {a : Act} {w : World} {Q : Exit → Act → World → Prop}
theorem wpList_alloc (hgd : o.guard = none) (E : TypeId) (ho : o.op = .alloc E) (cells : Array Value) (hz : (zeroValue E).run Tryz.prog w = .ok (.agg cells) w)
    (h : wpList Tryz.prog ops Q rest (a.put o.dst (.pointer (some ⟨w.heap.size, 0, none⟩))) (w.alloc (.cells cells E))) : wpList Tryz.prog ops Q (o :: rest) a w :=
  wpList_plain hgd fun _ hK => by
    unfold Oper.wp execOp
    simp [ho, Instr.alloc, hz, newVar, newRow, Value.cells, Result.andThen]
    exact hK _ _ h
end
theorem zPc_run (w : World) : (zeroValue 87).run Tryz.prog w = .ok (.agg zPc) w := by kernel_rfl
theorem zSu_run (w : World) : (zeroValue 31).run Tryz.prog w = .ok (.agg (Array.replicate 32 (Value.int .u8 0))) w := by kernel_rfl
theorem zPc_size : zPc.size = 33 := by kernel_rfl
theorem encP_all {p : Pc} (h : p.2.1.oneCell' = true) : (encP p).toArray.all (·.oneCell') = true := by
  refine Array.all_eq_true_iff_forall_mem.2 fun v hv => ?_
  have hv' : v ∈ encP p := by simpa using hv
  rcases List.mem_append.1 hv' with h1 | h1
  · exact encU_one _ v h1
  · rw [List.mem_singleton.1 h1]; exact h
theorem szPc : (Tryz.prog.info? 87).map (·.size) = some 33 := by kernel_rfl
section
variable {ops : Array Oper} {rest : List Oper} {o o2 : Oper} {a : Act} {w : World} {Q : Exit → Act → World → Prop}
/-- A variable is laid, and a piece is copied into it. -/
theorem wp_copy_pc (hgd : o.guard = none) (ho : o.op = .alloc 87) (hgd2 : o2.guard = none) (x y : Operand) (ho2 : o2.op = .store 87 x y) (p : Pc) (h1 : p.2.1.oneCell' = true)
    (hx : (a.put o.dst (.pointer (some ⟨w.heap.size, 0, none⟩))).eval x = .pointer (some ⟨w.heap.size, 0, none⟩)) (hy : (a.put o.dst (.pointer (some ⟨w.heap.size, 0, none⟩))).eval y = .agg (encP p).toArray)
    (h : ∀ w', Has w' w.heap.size 87 (encP p) → Below w.heap.size w w' → wpList Tryz.prog ops Q rest ((a.put o.dst (.pointer (some ⟨w.heap.size, 0, none⟩))).put o2.dst undef) w') : wpList Tryz.prog ops Q (o :: o2 :: rest) a w := by
  refine wpList_alloc hgd _ ho zPc (zPc_run w) ?_
  have hh : Has (w.alloc (.cells zPc 87)) w.heap.size 87 zPc.toList := Has.made' _ _ _ _ (by simp)
  refine wpList_store_row hgd2 _ x y ho2 w.heap.size (encP p).toArray hx hy _ zPc.toList.toArray hh (by rw [szPc, List.size_toArray, encP_len]) (by rw [List.size_toArray, List.size_toArray, encP_len]; exact zPc_size) (encP_all h1) ?_
  exact h _ (hh.rowl _) (below_row ((Below.refl _ _).alloc (Nat.le_refl _) _) (Nat.le_refl _) _)
/-- A variable is laid, and a sum is copied into it. -/
theorem wp_copy_su (hgd : o.guard = none) (E : TypeId) (hz : (zeroValue E).run Tryz.prog w = .ok (.agg (Array.replicate 32 (Value.int .u8 0))) w) (hE : (Tryz.prog.info? E).map (·.size) = some 32) (ho : o.op = .alloc E) (hgd2 : o2.guard = none) (x y : Operand) (ho2 : o2.op = .store E x y) (s : Su)
    (hx : (a.put o.dst (.pointer (some ⟨w.heap.size, 0, none⟩))).eval x = .pointer (some ⟨w.heap.size, 0, none⟩)) (hy : (a.put o.dst (.pointer (some ⟨w.heap.size, 0, none⟩))).eval y = .agg (encU s).toArray)
    (h : ∀ w', Has w' w.heap.size E (encU s) → Below w.heap.size w w' → wpList Tryz.prog ops Q rest ((a.put o.dst (.pointer (some ⟨w.heap.size, 0, none⟩))).put o2.dst undef) w') : wpList Tryz.prog ops Q (o :: o2 :: rest) a w := by
  refine wpList_alloc hgd _ ho _ hz ?_
  have hh : Has (w.alloc (.cells (Array.replicate 32 (Value.int .u8 0)) E)) w.heap.size E (List.replicate 32 (Value.int .u8 0)) := Has.made' _ _ _ _ rfl
  refine wpList_store_row hgd2 _ x y ho2 w.heap.size (encU s).toArray hx hy _ _ hh (by rw [hE, List.size_toArray, encU_len]) (by rw [List.size_toArray, List.size_toArray, encU_len]; simp) (encU_all s) ?_
  exact h _ (hh.rowl _) (below_row ((Below.refl _ _).alloc (Nat.le_refl _) _) (Nat.le_refl _) _)
end
end Go.Proofs.YtmjonlffhhehjaaGreatDoor
