/- Rows of pieces in memory: thirty-three cells a piece: its sum, its bytes' value. Condition: none. -/
import Derived.Test.YthpledfjopbchaaDoorBb1
import Derived.Test.YthpledfjopbchaaDoorBd1
import Derived.Great.FillDense
import Derived.Test.YthpledfjopbchaaDoorProg
import Derived.Test.YthpledfjopbchaaDoorBa1
import Derived.WalkSpells
import Derived.Lib.Hide
import Derived.Laws.Tables
import Derived.Laws.Rows
import Derived.Deep.DeepCutAuto
import Derived.Test.YthpledfjopbchaaDoorBc1
import Derived.ProofKit
import Derived.OpenShut
import Derived.Deep.Slices
import Derived.ChangeSame
namespace Go.Proofs.YthpledfjopbchaaDoor
open Go.RowKit
/-- A piece: its sum, its bytes' value, its bytes. -/
abbrev Pc := Su × Value × List (BitVec 8)
def encP (p : Pc) : List Value := encU p.1 ++ [p.2.1]
theorem encP_len (p : Pc) : (encP p).length = 33 := by unfold encP; rw [List.length_append, encU_len]; rfl
def rowP (L : List Pc) : List Value := L.flatMap encP
theorem rowP_len : ∀ L : List Pc, (rowP L).length = L.length * 33
  | [] => rfl
  | x :: L => by
    have h : rowP (x :: L) = encP x ++ rowP L := rfl
    rw [h, List.length_append, encP_len, rowP_len L, List.length_cons]; omega
theorem rowP_app (A B : List Pc) : rowP (A ++ B) = rowP A ++ rowP B := List.flatMap_append
theorem rowP_one (x : Pc) : rowP [x] = encP x := by unfold rowP; simp
theorem rowP_drop (L : List Pc) (k : Nat) : (rowP L).drop (k * 33) = rowP (L.drop k) := by
  by_cases h : k ≤ L.length
  · conv => lhs; rw [← List.take_append_drop k L, rowP_app]
    rw [List.drop_append_of_le_length (by rw [rowP_len, List.length_take]; omega), List.drop_of_length_le (by rw [rowP_len, List.length_take]; omega), List.nil_append]
  · rw [List.drop_of_length_le (by rw [rowP_len]; omega), List.drop_of_length_le (by omega)]; rfl
theorem rowP_take (L : List Pc) (k : Nat) : (rowP L).take (k * 33) = rowP (L.take k) := by
  by_cases h : k ≤ L.length
  · conv => lhs; rw [← List.take_append_drop k L, rowP_app]
    rw [List.take_append_of_le_length (by rw [rowP_len, List.length_take]; omega), List.take_of_length_le (by rw [rowP_len, List.length_take]; omega)]
  · rw [List.take_of_length_le (by rw [rowP_len]; omega), List.take_of_length_le (by omega)]
theorem rowP_get (L : List Pc) (i : Nat) (h : i < L.length) (j : Nat) (hj : j < 33) : (rowP L)[i * 33 + j]? = (encP L[i])[j]? := by
  have e : rowP L = rowP (L.take i) ++ (encP L[i] ++ rowP (L.drop (i + 1))) := by
    conv => lhs; rw [← List.take_append_drop i L, List.drop_eq_getElem_cons h, rowP_app]
    rfl
  have hl : (rowP (L.take i)).length = i * 33 := by rw [rowP_len, List.length_take]; omega
  rw [e, List.getElem?_append_right (by omega), hl, List.getElem?_append_left (by rw [encP_len]; omega)]
  congr 1; omega
/-- The pieces' bytes are there. -/
def Pcb (w : World) (L : List Pc) : Prop := ∀ p ∈ L, Bs w p.2.1 p.2.2
theorem Pcb.keep {w w' : World} {L : List Pc} (h : Pcb w L) (hb : Below w.heap.size w w') : Pcb w' L := fun p hp => (h p hp).keep hb
theorem Bs.one {w : World} {v : Value} {x : List (BitVec 8)} (h : Bs w v x) : v.oneCell' = true := by
  obtain ⟨q, c, rfl, _⟩ := h; rfl
theorem rowP_ones {w : World} {L : List Pc} (h : Pcb w L) : ∀ v ∈ rowP L, v.oneCell' = true := fun v hv => by
  obtain ⟨x, hx, hx2⟩ := List.mem_flatMap.1 hv
  rcases List.mem_append.1 hx2 with h1 | h1
  · exact encU_one _ v h1
  · rw [List.mem_singleton.1 h1]; exact (h x hx).one
/-- A type of slices of pieces, the type of its pieces. -/
def ElP (T E : TypeId) : Prop := Tryd.prog.underlying T = some (.slice E) ∧ (∃ fs, Tryd.prog.underlying E = some (.struct fs)) ∧ (Tryd.prog.info? E).map (fun i => (i.zero, i.size, i.bytes)) = some (some (.agg (Array.replicate 32 (.int .u8 0) ++ #[.slice none 0 0])), 33, 56)
/-- The value reads as these pieces. -/
def PcV (w : World) (v : Value) (L : List Pc) : Prop := ∃ q c, v = .slice q L.length c ∧ L.length ≤ c ∧ (q = none → c = 0) ∧ Sees w w.heap.size q (rowP L)
theorem PcV.keep {w w' : World} {v : Value} {L : List Pc} (h : PcV w v L) (hb : Below w.heap.size w w') : PcV w' v L := by
  obtain ⟨q, c, h1, h2, h3, h4⟩ := h
  exact ⟨q, c, h1, h2, h3, (h4.keep hb).more hb.size⟩
theorem PcV.nil (w : World) : PcV w (.slice none 0 0) [] := ⟨none, 0, rfl, Nat.le_refl _, fun _ => rfl, Sees.nil _ _ _⟩
/-- One of them: its thirty-three cells. -/
theorem Sees.pc {w : World} {b : Nat} {q : Option Addr} {L : List Pc} (h : Sees w b q (rowP L)) {i : Nat} (hi : i < L.length) :
    ∃ a : Addr, q = some a ∧ a.block < b ∧ ∀ w', Below b w w' → ∀ j u, (encP L[i])[j]? = some u → w'.cell? ((a.add (i * 33)).add j) = some u := by
  obtain ⟨a, rfl, hb, hc⟩ := h.get (by rw [rowP_len]; omega)
  refine ⟨a, rfl, hb, fun w' hw j u hu => ?_⟩
  have hj : j < 33 := by have := (List.getElem?_eq_some_iff.1 hu).1; rwa [encP_len] at this
  rw [add_add, hw.cell (by rw [add_block]; exact hb)]
  exact hc _ u (by rw [rowP_get L i hi j hj]; exact hu)
theorem encP_su {p : Pc} {j : Nat} {u : Value} (h : (encU p.1)[j]? = some u) : (encP p)[j]? = some u := by
  have hj := (List.getElem?_eq_some_iff.1 h).1
  unfold encP; rw [List.getElem?_append_left hj]; exact h
theorem encP_b (p : Pc) : (encP p)[32]? = some p.2.1 := by
  unfold encP; rw [List.getElem?_append_right (by rw [encU_len]; omega), encU_len]; rfl
/-- A row of the call's own. -/
def OwnP (w : World) (base : Nat) (E : TypeId) (v : Value) (L : List Pc) : Prop := w.ownsRow base E 33 v L.length (rowP L)
theorem OwnP.nil (w : World) (base : Nat) (E : TypeId) : OwnP w base E (.slice none 0 0) [] := World.ownsRow_nil w base E 33
theorem OwnP.empty (w : World) (base : Nat) (E : TypeId) (hb : base ≤ w.heap.size) : OwnP (w.alloc (.cells #[] E)) base E (.slice (some ⟨w.heap.size, 0, none⟩) 0 0) [] :=
  World.ownsRow_made w #[] 0 hb (Nat.zero_le _) (by simp)
theorem OwnP.base {w : World} {base : Nat} {E : TypeId} {v : Value} {L : List Pc} (h : OwnP w base E v L) : ∀ j, Value.ownBlock v = some j → base ≤ j := fun j hj => (World.ownsRow.lt h j hj).1
theorem OwnP.keep {w w' : World} {base : Nat} {E : TypeId} {v : Value} {L : List Pc} (h : OwnP w base E v L) (hb : Below w.heap.size w w') : OwnP w' base E v L := by
  rcases h.2 with ⟨rfl, h0⟩ | ⟨g', cap, cur, rfl, hb', hg', h1, h2, h3, h4⟩
  · exact ⟨h.1, .inl ⟨rfl, h0⟩⟩
  · exact ⟨h.1, .inr ⟨g', cap, cur, rfl, hb', (hb.block g' (Array.getElem?_eq_some_iff.1 hg').1).trans hg', h1, h2, h3, h4⟩⟩
theorem OwnP.less {w : World} {b base : Nat} {E : TypeId} {v : Value} {L : List Pc} (h : OwnP w base E v L) (hb : b ≤ base) : OwnP w b E v L := by
  rcases h.2 with ⟨rfl, h0⟩ | ⟨g', cap, cur, rfl, hb', r⟩
  · exact ⟨h.1, .inl ⟨rfl, h0⟩⟩
  · exact ⟨h.1, .inr ⟨g', cap, cur, rfl, by omega, r⟩⟩
theorem OwnP.pc {w : World} {base : Nat} {E : TypeId} {v : Value} {L : List Pc} (h : OwnP w base E v L) : PcV w v L := by
  rcases h.2 with ⟨rfl, h0⟩ | ⟨g, cap, cur, rfl, hb, hg, h1, _⟩
  · have : L = [] := List.eq_nil_of_length_eq_zero h0
    subst this
    exact PcV.nil w
  · exact ⟨_, cap, rfl, h1, fun e => (by cases e), fun _ => ⟨_, rfl, (Array.getElem?_eq_some_iff.1 hg).1, World.ownsRow.cells h (g := g) rfl⟩⟩
section
variable {P : Program}
/-- A whole piece loaded. -/
theorem load_pc {o : Oper} {ev : Operand → Value} {w : World} (T E : TypeId) (hT : ElP T E) (x : Operand) (ho : o.op = .load E x) (p : Addr) (hx : ev x = .pointer (some p))
    (s : Pc) (hc : ∀ j u, (encP s)[j]? = some u → w.cell? (p.add j) = some u) : (execOp ev o).run Tryd.prog w = .ok (.value (.agg (encP s).toArray)) w := by
  have hl := run_loadCells_list (P := Tryd.prog) w p (encP s) hc
  rw [encP_len] at hl
  obtain ⟨i0, hi, hz0, hz1, hz2⟩ := info_parts hT.2.2
  obtain ⟨fs, hu⟩ := hT.2.1
  have hrun : (loadVar E p).run Tryd.prog w = .ok (.agg (encP s).toArray) w := by
    have hagg : (isAgg E).run Tryd.prog w = .ok true w := by
      unfold isAgg
      rw [Sem.run_bind, run_underlying hu w]
      simp
    simp only [loadVar, sizeOf, typeInfo, Sem.run_bind, hagg, Result.andThen_ok, if_true]
    simp [hi, hz1, hl]
  unfold execOp
  simp only [ho, hx, Instr.loadAt, Instr.sureAddr, Sem.run_bind, Sem.run_pure, Result.andThen_ok, hrun]
end
/-- One part that fills the whole. -/
theorem fill_whole (s : Nat) (hs : 0 < s) (x : List Value) (hx : x.length = s) (cells : Array Value) (hc : cells.size = s) : Instr.fill (fun i => some (i * s, s)) cells [(0, .agg x.toArray)] = some x.toArray := by
  obtain ⟨r, h1, h2, h3⟩ := Great.fill_dense hs [Value.agg x.toArray] 0 cells (fun v hv => by
    rw [List.mem_singleton.1 hv]; simpa [Value.cells] using hx) (by simp [hc])
  rw [show [(0, Value.agg x.toArray)] = (([Value.agg x.toArray].zipIdx 0).map fun x => (x.2, x.1)) from rfl, h1]
  congr 1
  have hsz : r.size = x.toArray.size := by rw [h2, hc]; simp [hx]
  refine Array.ext hsz fun k hk1 hk2 => ?_
  have hk : k < s := by rw [h2, hc] at hk1; exact hk1
  have h4 := h3 k
  rw [if_pos ⟨by omega, by simpa using hk⟩, Nat.div_eq_of_lt hk, Nat.mod_eq_of_lt hk] at h4
  simp only [Nat.sub_self, List.getElem?_cons_zero, Option.bind_some, Value.cells] at h4
  rw [Array.getElem?_eq_getElem hk1, Array.getElem?_eq_getElem hk2] at h4
  exact Option.some.inj h4
section
variable {ops : Array Oper} {rest : List Oper} {o : Oper} {a : Act} {w : World} {Q : Exit → Act → World → Prop} {K : Act → World → Prop}
/-- A row of one piece. -/
theorem wp_one_pc (T E : TypeId) (hT : ElP T E) (x : Operand) (ho : o.op = .buildSlice T 1 #[(0, x)]) (s : Pc) (hx : a.eval x = .agg (encP s).toArray)
    (h : K (a.put o.dst (.slice (some ⟨w.heap.size, 0, none⟩) 1 1)) (w.alloc (.cells (encP s).toArray E))) : o.wp Tryd.prog a w K Q := by
  obtain ⟨i0, hi, hz0, hz1, hz2⟩ := info_parts hT.2.2
  refine wp_buildSlice T E 1 _ ho (encP s).toArray i0 _ hT.1 hi hz0 (by rw [hz1]; omega) (by rw [hz1]; omega) ?_ h
  rw [hz1]
  simp only [List.map_toArray, List.map_cons, List.map_nil, hx]
  exact fill_whole 33 (by decide) (encP s) (encP_len s) _ (by simp)
theorem wpList_one_pc (hgd : o.guard = none) (T E : TypeId) (hT : ElP T E) (x : Operand) (ho : o.op = .buildSlice T 1 #[(0, x)]) (s : Pc) (hx : a.eval x = .agg (encP s).toArray)
    (h : wpList Tryd.prog ops Q rest (a.put o.dst (.slice (some ⟨w.heap.size, 0, none⟩) 1 1)) (w.alloc (.cells (encP s).toArray E))) : wpList Tryd.prog ops Q (o :: rest) a w :=
  wpList_plain hgd fun _ hK => wp_one_pc T E hT x ho s hx (hK _ _ h)
/-- Pieces put behind a row of the call's own. -/
theorem wp_append_pc (T E : TypeId) (hT : ElP T E) (s x : Operand) (ho : o.op = .call { callee := .builtin .append, args := #[s, x], argTypes := #[T, T] })
    (base : Nat) (v : Value) (L : List Pc) (hs : a.eval s = v) (hown : OwnP w base E v L)
    (q : Option Addr) (M : List Pc) (m cap b : Nat) (hm : M.length = m) (hx : a.eval x = .slice q m cap) (hq : q = none → cap = 0) (hl : Sees w b q (rowP M)) (h1 : ∀ u ∈ rowP M, u.oneCell' = true)
    (hn : L.length + m ≤ 2000000) (hbase : base ≤ w.heap.size)
    (h : ∀ v' w', OwnP w' base E v' (L ++ M) → w.grownBy w' v.ownBlock → K (a.put o.dst v') w') : o.wp Tryd.prog a w K Q := by
  subst hm
  obtain ⟨i0, hi, hz0, hz1, hz2⟩ := info_parts hT.2.2
  have fin : ∀ v' w', w'.ownsRow base E 33 v' (L.length + M.length) (rowP L ++ rowP M) → OwnP w' base E v' (L ++ M) := fun v' w' h1 => by
    unfold OwnP; rw [List.length_append, rowP_app]; exact h1
  have hbytes : (L.length + M.length) * 56 ≤ 140737488355328 := Nat.le_trans (Nat.mul_le_mul hn (Nat.le_refl 56)) (by decide)
  rcases q with _ | ad
  · have hl0 : M = [] := by
      rcases M with _ | ⟨y, M⟩
      · rfl
      · obtain ⟨a, h1, _⟩ := hl.get (by rw [rowP_len, List.length_cons]; omega)
        cases h1
    subst hl0
    obtain rfl := hq rfl
    have hrun := run_append_owned_none (P := Tryd.prog) (w := w) base T o.type E i0 33 hT.1 hi v L.length (rowP L) hown
    have hx' : a.eval x = .slice none 0 0 := hx
    unfold Oper.wp
    simp [execOp, ho, resolve, invoke, builtin, hs, hx', hrun, Result.andThen]
    exact h v w (by simpa using hown) ⟨rfl, rfl, rfl, Nat.le_refl _, fun _ _ _ => rfl⟩
  · by_cases hl0 : M = []
    · subst hl0
      refine wp_append_own w s x T ho base E i0 _ 33 56 hT.1 hi hz0 hz1 hz2 rfl (by decide) v L.length (rowP L) hs hown ad 0 cap [] hx rfl (fun j u hj => by simp at hj) (fun u hu => by cases hu) (by unfold maxLen; simp at hn; omega) hbytes hbase (fun v' w' h1 h2 _ => ?_)
      exact h v' w' (fin v' w' (by simpa [rowP] using h1)) h2
    · refine wp_append_own w s x T ho base E i0 _ 33 56 hT.1 hi hz0 hz1 hz2 rfl (by decide) v L.length (rowP L) hs hown ad M.length cap (rowP M) hx (rowP_len M) (fun j u hj => ?_) h1 (by unfold maxLen; omega) hbytes hbase (fun v' w' h1 h2 _ => ?_)
      · obtain ⟨a', h1, _, h3⟩ := hl.get (by have := (List.getElem?_eq_some_iff.1 hj).1; omega)
        cases h1
        exact h3 j u hj
      · exact h v' w' (fin v' w' h1) h2
theorem wpList_append_pc (hgd : o.guard = none) (T E : TypeId) (hT : ElP T E) (s x : Operand) (ho : o.op = .call { callee := .builtin .append, args := #[s, x], argTypes := #[T, T] })
    (base : Nat) (v : Value) (L : List Pc) (hs : a.eval s = v) (hown : OwnP w base E v L)
    (q : Option Addr) (M : List Pc) (m cap b : Nat) (hm : M.length = m) (hx : a.eval x = .slice q m cap) (hq : q = none → cap = 0) (hl : Sees w b q (rowP M)) (h1 : ∀ u ∈ rowP M, u.oneCell' = true)
    (hn : L.length + m ≤ 2000000) (hbase : base ≤ w.heap.size)
    (h : ∀ v' w', OwnP w' base E v' (L ++ M) → Below base w w' → wpList Tryd.prog ops Q rest (a.put o.dst v') w') : wpList Tryd.prog ops Q (o :: rest) a w :=
  wpList_plain hgd fun _ hK => wp_append_pc T E hT s x ho base v L hs hown q M m cap b hm hx hq hl h1 hn hbase fun v' w' h1 h2 => hK _ _ (h v' w' h1 ((Below.refl base w).grown h2 hbase (fun k hk => hown.base k hk)))
end
theorem Has.pc {w : World} {g : Nat} {E : TypeId} {s : Pc} {b : Nat} (h : Has w g E (encP s)) (hb : g < b) : Sees w b (some ⟨g, 0, none⟩) (rowP [s]) := by
  rw [rowP_one]; exact Sees.of_has h hb
end Go.Proofs.YthpledfjopbchaaDoor
/- Contracts: the document's own turned, keys. No condition but that the turn is by 1 to 31. -/
namespace Go.Proofs.YthpledfjopbchaaDoor
open Go.RowKit
section
attribute [local go_sem] N_and N_or N_xor N_add
theorem turned_any (x : BitVec 32) (k : Nat) (m : Int) (hm : m = (k : Int)) (h0 : 0 < k) (h1 : k < 32) (w : World) :
    Calls Tryd.prog 63 #[.int .u32 (N x), .int .u64 m] w fun e w' => e = .returned (.int .u32 (N (rotr x k))) ∧ w = w' := by
  subst hm
  have hx := N_nonneg x
  obtain ⟨j, hj⟩ : ∃ j, j + k = 32 := ⟨32 - k, by omega⟩
  have e1 : (min j 32) = 32 - k := by omega
  have e2 : (IntKind.u64.wrap (32 - (k : Int))) = (j : Int) := by rw [show (32 - (k : Int)) = (j : Int) from by omega]; exact IntWalk.u64_in _ (by omega)
  have e3 : (min k 32) = k := by omega
  have e4 := rotr_of' x k _ _ rfl rfl
  rw [IntKind.wrap_u32'] at e4
  have e5 : (0 : Int) ≤ (j : Int) := by omega
  have e6 : (0 : Int) ≤ (k : Int) := by omega
  have hb : IntKind.u32.bits = 32 := rfl
  clear hj h0 h1
  go_enter Tryd.func63, Tryd.ntmps63
  go_wp2
  go_ret
  exact ⟨rfl, rfl⟩
end
theorem turned_q (x : BitVec 32) (k : Nat) (m : Int) (hm : m = (k : Int)) (h0 : 0 < k) (h1 : k < 32) (w : World) :
    Calls Tryd.prog 63 #[.int .u32 (N x), .int .u64 m] w fun e w' => e = .returned (.int .u32 (N (rotr x k))) ∧ w' = w :=
  (turned_any x k m hm h0 h1 w).mono fun _ _ ⟨h1, h2⟩ => ⟨h1, h2.symm⟩
theorem wpList_built {P : Program} {ops : Array Oper} {Q : Exit → Act → World → Prop} {rest : List Oper} {o : Oper} {a : Act} {w : World} (hgd : o.guard = none) (t : TypeId) (parts : Array (Nat × Operand)) (ho : o.op = .build t parts) (cs : Array Value)
    (hf : P.built t (parts.map fun (i, x) => (i, a.eval x)).toList = some cs) (h : wpList P ops Q rest (a.put o.dst (.agg cs)) w) : wpList P ops Q (o :: rest) a w := by
  refine wpList_step (fun K hK => ?_)
  rw [if_pos (by simp [Region.wanted, hgd])]
  refine wp_build t parts ho (by rw [hf]; rfl) ?_
  rw [hf]
  exact hK _ _ h
def keyVals : List Value := keyNats.map fun (n : Nat) => Value.int .u32 (n : Int)
theorem keys_small : ∀ n ∈ keyNats, n < 4294967296 := by decide +kernel
theorem keys_lit : keys.map u32v = keyVals := by
  unfold keys keyVals
  rw [List.map_map]
  refine List.map_congr_left (fun n hn => ?_)
  have := keys_small n hn
  show Value.int .u32 (N (BitVec.ofNat 32 n)) = _
  rw [← N_ofNat n this]
theorem keyVals_one : keyVals.toArray.all (·.oneCell') = true := by rw [← keys_lit]; exact u32v_one _
set_option maxRecDepth 100000 in
theorem keys_any (w : World) : Calls Tryd.prog 62 #[] w fun e w' => e = .returned (.agg (keys.map u32v).toArray) ∧ Below w.heap.size w w' := by
  rw [keys_lit]
  have HO := Lib.hid keyVals_one
  go_enter Tryd.func62, Tryd.ntmps62
  go_wp2_with (first
    | (refine wpList_built rfl 103 _ rfl keyVals.toArray (by kernel_rfl) ?_)
    | (refine wpList_store_row rfl 103 _ _ rfl w.heap.size keyVals.toArray rfl rfl 103 _ (heap_alloc_new _ _) (by kernel_rfl) (by kernel_rfl) HO.out ?_))
  refine bodyPost_ret (v := .agg keyVals.toArray) ?_ rfl ⟨rfl, below_row ((Below.refl _ _).alloc (Nat.le_refl _) _) (Nat.le_refl _) _⟩
  exact results_cell_row rfl _ _ w.heap.size 103 _ (0, 0) _ rfl ((Has.made w 103 _).rowl keyVals) Tryd.underlying103 rfl (by kernel_rfl)
end Go.Proofs.YthpledfjopbchaaDoor
/- Contracts: chunk.Cut, the pieces of bytes with their sums. Conditions: at most a million bytes, no longer than their room; the sums' tables are laid. -/
namespace Go.Proofs.YthpledfjopbchaaDoor
open Go.RowKit
/-- The plain rule. -/
def plR : Rl := ⟨16, 128, 8, 31, 7⟩
theorem plR_ok : plR.Ok := by constructor <;> decide
def shaU (x : List (BitVec 8)) : Su := ⟨sha x, sha_length _⟩
/-- The pieces, each with its sum. -/
def cutP (b : List (BitVec 8)) : List (Su × List (BitVec 8)) := (pieces b (endsL plR 0 b)).map fun x => (shaU x, x)
theorem cutP_length (b : List (BitVec 8)) : (cutP b).length = (endsL plR 0 b).length := by unfold cutP; rw [List.length_map, pieces_length]
def keyP (p : Pc) : Su × List (BitVec 8) := (p.1, p.2.2)
theorem elPc : ElP 33 28 := ⟨Tryd.underlying33, ⟨_, Tryd.underlying28⟩, by kernel_rfl⟩
/-- The thirty-three cells of none. -/
def zPc : Array Value := Array.replicate 32 (Value.int .u8 0) ++ #[Value.slice none 0 0]
theorem made_runP (n : Nat) (hn : n ≤ 1000000) (w : World) :
    (Instr.makeSlice 33 (.int .i64 0) (.int .i64 (n : Int))).run Tryd.prog w = .ok (.slice (some ⟨w.heap.size, 0, none⟩) 0 n) (w.alloc (.cells (madeCells zPc (n * 33)) 28)) := by
  obtain ⟨i0, hi, hz0, hz1, hz2⟩ := info_parts elPc.2.2
  have := run_make (P := Tryd.prog) w 33 28 i0 _ elPc.1 hi hz0 .i64 .i64 0 n (by omega) (by omega) (by rw [hz2]; omega) (by omega)
  rw [hz1, show (Value.agg (Array.replicate 32 (Value.int .u8 0) ++ #[Value.slice none 0 0])).cells = zPc from rfl] at this
  simpa using this
theorem of_one {w : World} {v : Value} {x : List (BitVec 8)} (h : Bs w v x) (hx : x.length ≤ 1000000) (hL : Laid w) :
    Calls Tryd.prog 9 #[.slice (some ⟨w.heap.size, 0, none⟩) 1 1] (w.alloc (.cells #[v] 26)) fun e w' => e = .returned (.agg (encU (shaU x)).toArray) ∧ Below (w.alloc (.cells #[v] 26)).heap.size (w.alloc (.cells #[v] 26)) w' ∧ Below w.heap.size w w' := by
  obtain ⟨q, c, rfl, hc, _, hs⟩ := h
  have hb : Below w.heap.size w (w.alloc (.cells #[.slice q x.length c] 26)) := (Below.refl _ _).alloc (Nat.le_refl _) _
  have hP : Parts (w.alloc (.cells #[.slice q x.length c] 26)) (w.alloc (.cells #[.slice q x.length c] 26)).heap.size (some ⟨w.heap.size, 0, none⟩) [x] := fun i hi => by
    obtain rfl : i = 0 := by simpa using hi
    refine ⟨⟨w.heap.size, 0, none⟩, q, c, rfl, by simp, ?_, hc, (hs.keep hb).more hb.size⟩
    rw [add_lit', Nat.zero_add]
    exact (Has.made' w 26 #[.slice q x.length c] [.slice q x.length c] rfl).cellv rfl
  have h := of_any [x] _ 1 _ hP (by simp) (by simp; omega) (hL.keep hb hL.size)
  refine Calls.mono h ?_
  rintro e w' ⟨rfl, h2⟩
  have e : ([x] : List (List (BitVec 8))).flatten = x := by simp
  rw [e]
  exact ⟨rfl, h2, hb.trans (h2.mono hb.size)⟩
theorem built_pc (s : Su) (q : Option Addr) (n c : Nat) (x : List (BitVec 8)) : Tryd.prog.built 28 [(0, .agg (encU s).toArray), (1, .slice q n c)] = some (encP (s, .slice q n c, x)).toArray := by
  obtain ⟨l, hl⟩ := s
  unfold encP encU
  match l, hl with
  | [a0, a1, a2, a3, a4, a5, a6, a7, a8, a9, b0, b1, b2, b3, b4, b5, b6, b7, b8, b9, c0, c1, c2, c3, c4, c5, c6, c7, c8, c9, d0, d1], _ => show _ = _; kernel_rfl
theorem build_cells {o : Oper} {ev : Operand → Value} {w : World} (E : TypeId) (parts : Array (Nat × Operand)) (ho : o.op = .build E parts) (cs : Array Value) (l : List (Nat × Value)) (hl : (parts.map fun (i, x) => (i, ev x)).toList = l) (hb : Tryd.prog.built E l = some cs) :
    (execOp ev o).run Tryd.prog w = .ok (.value (.agg cs)) w := by
  unfold execOp
  simp only [ho, Sem.run_bind, run_build w E _ cs (by rw [hl]; exact hb), Result.andThen_ok]
  rfl
theorem slT_infoP : (Tryd.prog.info? 26).map (fun i => (i.zero, i.size, i.bytes)) = some (some (.slice none 0 0), 1, 24) := by kernel_rfl
section
variable {o : Oper} {a : Act} {w : World} {Q : Exit → Act → World → Prop} {K : Act → World → Prop}
/-- A row of one slice of bytes. -/
theorem wp_one_bs (x : Operand) (ho : o.op = .buildSlice 58 1 #[(0, x)]) (q : Option Addr) (n c : Nat) (hx : a.eval x = .slice q n c)
    (h : K (a.put o.dst (.slice (some ⟨w.heap.size, 0, none⟩) 1 1)) (w.alloc (.cells #[.slice q n c] 26))) : o.wp Tryd.prog a w K Q := by
  obtain ⟨i0, hi, hz0, hz1, hz2⟩ := info_parts slT_infoP
  refine wp_buildSlice 58 26 1 _ ho #[.slice q n c] i0 _ Tryd.underlying58 hi hz0 (by rw [hz1]; omega) (by rw [hz1]; omega) ?_ h
  rw [hz1]
  simp only [List.map_toArray, List.map_cons, List.map_nil, hx]
  kernel_rfl
end
set_option maxHeartbeats 4000000 in
set_option maxRecDepth 100000 in
theorem ccut_any (b : List (BitVec 8)) (q : Option Addr) (c : Nat) (w : World) (hc : b.length ≤ c) (hq : q = none → c = 0) (hl : b.length ≤ 1000000) (hs : Sees w w.heap.size q (b.map u8v)) (hL : Laid w) :
    Calls Tryd.prog 12 #[.slice q b.length c] w fun e w' => (∃ v L, e = .returned v ∧ PcV w' v L ∧ Pcb w' L ∧ L.map keyP = cutP b) ∧ Below w.heap.size w w' := by
  have HPL := Lib.hid (fun w1 => plain_any w1)
  have HPA : Hid (∀ v, Below w.heap.size w v → Calls Tryd.prog 31 #[ruleV 16 128 8 31 7, .slice q b.length c] v fun e w' => ∃ u, e = .returned u ∧ Ps w' u (pieces b (endsL plR 0 b)) ∧ Below v.heap.size v w') := Lib.hid (fun v (hb : Below w.heap.size w v) => parts_good plR plR_ok b q c v hc hq hl ((hs.keep hb).more hb.size))
  have HLT : Hid ((pieces b (endsL plR 0 b)).length ≤ 1000000) := Lib.hid (by rw [pieces_length]; exact Nat.le_trans (endsL_count plR_ok b) hl)
  have HPC : Hid (∀ x ∈ pieces b (endsL plR 0 b), x.length ≤ 1000000) := Lib.hid (fun x hx => by
    unfold pieces at hx
    obtain ⟨i, hi, rfl⟩ := List.mem_map.1 hx
    have hi' : i < (endsL plR 0 b).length := by simpa using hi
    obtain ⟨k1, k2, _⟩ := endsL_lt plR_ok b i hi'
    rw [piece_length _ _ _ (by rw [getD_at _ i hi']; exact k2), getD_at _ i hi']
    omega)
  have HCP : Hid (cutP b = (pieces b (endsL plR 0 b)).map fun x => (shaU x, x)) := Lib.hid rfl
  have HL := Lib.hid hL
  have HSZ := Lib.hid hL.size
  generalize pieces b (endsL plR 0 b) = X at *
  clear hs hL
  unfold ruleV ruleL at HPL HPA
  go_enter Tryd.func12, Tryd.ntmps12
  go_upto_region 2 with (first | ((with_reducible refine (HPL.out _).mono ?_); rintro e w3 ⟨rfl, hB⟩; have HB3 := Lib.hid hB; clear hB) | ((with_reducible refine (HPA.out _ HB3.out).mono ?_); rintro e w4 ⟨v4, rfl, ⟨q5, c5, vs, rfl, hse, hvl, hvs⟩, hB⟩; have HB4 := Lib.hid (HB3.out.trans (hB.mono HB3.out.size)); have HSE := Lib.hid hse; have HVL := Lib.hid hvl; have HVS := Lib.hid hvs; clear hB hse hvl hvs))
  clear HPL HPA HB3
  have hmk := made_runP X.length HLT.out w4
  have HA := Lib.hid ((Below.refl w4.heap.size w4).alloc (Nat.le_refl _) (.cells (madeCells zPc (X.length * 33)) 28))
  have HROW : Hid (OwnP (w4.alloc (.cells (madeCells zPc (X.length * 33)) 28)) w4.heap.size 28 (.slice (some ⟨w4.heap.size, 0, none⟩) 0 X.length) []) := Lib.hid (World.ownsRow_made w4 _ X.length (Nat.le_refl _) (by have := HLT.out; unfold maxLen; omega) (size_madeCells _ _))
  go_upto_region 4 with fail
  clear hmk
  generalize w4.alloc (.cells (madeCells zPc (X.length * 33)) 28) = w6 at *
  go_loopw [4, 15] (fun v vi wr => ∃ (j : Nat) (L : List Pc), j ≤ X.length ∧ L.length = j ∧ vi = .int .i64 j ∧ OwnP wr w4.heap.size 28 v L ∧ Pcb w4 L ∧ L.map keyP = (cutP b).take j ∧ Below w4.heap.size w4 wr) (fun _ vi _ => X.length - (intOf vi).toNat)
  case atStart => exact ⟨0, [], by omega, rfl, rfl, HROW.out, fun p hp => by (cases hp), rfl, HA.out⟩
  case round =>
    clear HROW HA
    rename_i wr
    obtain ⟨j, L, hj, hLl, rfl, hrow, hpb, hkey, hB⟩ := hrel
    have HROW := Lib.hid hrow
    have HB := Lib.hid hB
    have HPB := Lib.hid hpb
    have HKEY := Lib.hid hkey
    clear hrow hB hpb hkey
    have HLn := Lib.hid hLl
    clear hLl
    by_cases hlt : j < X.length
    · have hvj : j < vs.length := by rw [HVL.out]; exact hlt
      obtain ⟨x, hx⟩ : ∃ x, x = X[j] := ⟨_, rfl⟩
      have hbs4 := HVS.out j vs[j] X[j] (List.getElem?_eq_getElem hvj) (List.getElem?_eq_getElem hlt)
      rw [← hx] at hbs4
      have hxl := HPC.out X[j] (List.getElem_mem hlt)
      rw [← hx] at hxl
      obtain ⟨ad, rfl, hab, hcell⟩ := (HSE.out.keep HB.out).get (by rw [HVL.out]; omega)
      have cx := hcell j vs[j] (List.getElem?_eq_getElem hvj)
      obtain ⟨u, hu⟩ : ∃ u, u = vs[j] := ⟨_, rfl⟩
      rw [← hu] at cx hbs4
      have hbs := hbs4.keep HB.out
      have HOF := Lib.hid (of_one hbs hxl (HL.out.keep (HB4.out.trans (HB.out.mono HB4.out.size)) HSZ.out))
      have HBS4 := Lib.hid hbs4
      obtain ⟨qx, cx', rfl, _, _, _⟩ := hbs4
      have HBD := Lib.hid (built_pc (shaU x) qx x.length cx' x)
      have HXJ : Hid ((cutP b).take (j + 1) = (cutP b).take j ++ [(shaU x, x)]) := Lib.hid (by
        rw [HCP.out, ← List.map_take, ← List.map_take, List.take_add_one, List.getElem?_eq_getElem hlt, ← hx]
        simp)
      have HX1 := Lib.hid hxl
      clear hbs hcell hx hu hxl hab
      have hjj : (j : Int) < (X.length : Int) := by omega
      have HLEN : Hid (L.length + 1 ≤ 2000000) := Lib.hid (by have := HLn.out; have := HLT.out; omega)
      have HONE : Hid (∀ v ∈ rowP [(shaU x, Value.slice qx x.length cx', x)], v.oneCell' = true) := Lib.hid (by
        refine rowP_ones (w := w4) (fun p hp => ?_)
        rw [List.mem_singleton.1 hp]; exact HBS4.out)
      have hll : j < 1000000 := by have := HLT.out; omega
      go_upto_region 6 with fail
      refine wp_region_lit ?_
      try simp only [Act.put, List.setIfInBounds_toArray, List.set_cons_zero, List.set_cons_succ]
      refine lp_pure (v := ?_) (by kernel_rfl) ?_ ?_
      rotate_left
      · go_simp; try with_reducible rfl
      try simp only [Act.put, List.setIfInBounds_toArray, List.set_cons_zero, List.set_cons_succ]
      refine lp_pure (v := ?_) (by kernel_rfl) ?_ ?_
      rotate_left
      · go_simp; try with_reducible rfl
      try simp only [Act.put, List.setIfInBounds_toArray, List.set_cons_zero, List.set_cons_succ]
      refine lp_step (by kernel_rfl) (fun K hK => wp_one_bs (.tmp 20) rfl qx x.length cx' rfl (hK _ _ ?_))
      try simp only [Act.put, List.setIfInBounds_toArray, List.set_cons_zero, List.set_cons_succ]
      refine lp_step (by kernel_rfl) (fun K hK => ?_)
      go_wp2_with fail
      refine Calls.mono HOF.out ?_
      rintro e w7 ⟨rfl, _, hB7⟩
      have HB7 := Lib.hid hB7
      clear hB7
      refine hK _ _ ?_
      clear hK
      try simp only [Act.put, List.setIfInBounds_toArray, List.set_cons_zero, List.set_cons_succ]
      refine lp_pure (v := ?_) (by kernel_rfl) ?_ ?_
      rotate_left
      · go_simp; try with_reducible rfl
      try simp only [Act.put, List.setIfInBounds_toArray, List.set_cons_zero, List.set_cons_succ]
      refine lp_pure (by kernel_rfl) (build_cells 28 _ rfl (encP (shaU x, .slice qx x.length cx', x)).toArray [(0, .agg (encU (shaU x)).toArray), (1, .slice qx x.length cx')] (by kernel_rfl) HBD.out) ?_
      try simp only [Act.put, List.setIfInBounds_toArray, List.set_cons_zero, List.set_cons_succ]
      refine wpList_one_pc rfl 33 28 elPc (.tmp 24) rfl (shaU x, .slice qx x.length cx', x) rfl ?_
      try simp only [Act.put, List.setIfInBounds_toArray, List.set_cons_zero, List.set_cons_succ]
      refine wpList_append_pc rfl 33 28 elPc (.tmp 19) (.tmp 25) rfl w4.heap.size _ L rfl ((HROW.out.keep HB7.out).keep ((Below.refl _ _).alloc (Nat.le_refl _) _)) (some ⟨w7.heap.size, 0, none⟩) [(shaU x, .slice qx x.length cx', x)] 1 1 (w7.heap.size + 1) rfl rfl (fun h => by cases h) (Has.pc (Has.made' _ _ _ _ rfl) (by omega)) HONE.out HLEN.out (by have := HB.out.size; have := HB7.out.size; simp; omega) ?_
      intro v8 w8 h1 h2
      have HROW2 := Lib.hid h1
      have HB8 := Lib.hid h2
      clear h1 h2
      try simp only [Act.put, List.setIfInBounds_toArray, List.set_cons_zero, List.set_cons_succ]
      refine lp_pure (v := ?_) (by kernel_rfl) ?_ ?_
      rotate_left
      · go_simp; try with_reducible rfl
      try simp only [Act.put, List.setIfInBounds_toArray, List.set_cons_zero, List.set_cons_succ]
      refine wpList_nil ?_
      go_wp2_with fail
      go_roundw
      case rel =>
        refine ⟨j + 1, L ++ [(shaU x, .slice qx x.length cx', x)], by omega, by rw [List.length_append, HLn.out]; rfl, by go_num, HROW2.out, fun p hp => ?_, ?_, ?_⟩
        · rcases List.mem_append.1 hp with h | h
          · exact HPB.out p h
          · rw [List.mem_singleton.1 h]; exact HBS4.out
        · rw [List.map_append, HKEY.out, HXJ.out]; rfl
        · exact (HB.out.trans (HB7.out.mono HB.out.size)).trans (((Below.refl _ _).alloc (Nat.le_trans HB.out.size HB7.out.size) _).trans HB8.out)
      case measure => simp [intOf]; omega
    · have hjl : j = X.length := by omega
      subst hjl
      have k3 : ¬ ((X.length : Int) < (X.length : Int)) := by omega
      have HPV := Lib.hid HROW.out.pc
      clear hlt
      go_wp2_with fail
      go_ret
      refine ⟨⟨_, rfl, L, HPV.out, HPB.out.keep HB.out, ?_⟩, HB4.out.trans (HB.out.mono HB4.out.size)⟩
      rw [HKEY.out, List.take_of_length_le (by rw [HCP.out, List.length_map]; exact Nat.le_refl _)]
end Go.Proofs.YthpledfjopbchaaDoor
/- A variable laid, a whole piece or sum copied into it. No condition. -/
namespace Go.Proofs.YthpledfjopbchaaDoor
open Go.RowKit
section
variable {ops : Array Oper} {rest : List Oper} {o : Oper} {a : Act} {w : World} {Q : Exit → Act → World → Prop}
theorem wpList_alloc (hgd : o.guard = none) (E : TypeId) (ho : o.op = .alloc E) (cells : Array Value) (hz : (zeroValue E).run Tryd.prog w = .ok (.agg cells) w)
    (h : wpList Tryd.prog ops Q rest (a.put o.dst (.pointer (some ⟨w.heap.size, 0, none⟩))) (w.alloc (.cells cells E))) : wpList Tryd.prog ops Q (o :: rest) a w :=
  wpList_plain hgd fun _ hK => by
    unfold Oper.wp execOp
    simp [ho, Instr.alloc, hz, newVar, newRow, Value.cells, Result.andThen]
    exact hK _ _ h
end
theorem zPc_run (w : World) : (zeroValue 28).run Tryd.prog w = .ok (.agg zPc) w := by kernel_rfl
theorem zSu_run (w : World) : (zeroValue 24).run Tryd.prog w = .ok (.agg (Array.replicate 32 (Value.int .u8 0))) w := by kernel_rfl
theorem zPc_size : zPc.size = 33 := by kernel_rfl
theorem encP_all {p : Pc} (h : p.2.1.oneCell' = true) : (encP p).toArray.all (·.oneCell') = true := by
  refine Array.all_eq_true_iff_forall_mem.2 fun v hv => ?_
  have hv' : v ∈ encP p := by simpa using hv
  rcases List.mem_append.1 hv' with h1 | h1
  · exact encU_one _ v h1
  · rw [List.mem_singleton.1 h1]; exact h
theorem szPc : (Tryd.prog.info? 28).map (·.size) = some 33 := by kernel_rfl
section
variable {ops : Array Oper} {rest : List Oper} {o o2 : Oper} {a : Act} {w : World} {Q : Exit → Act → World → Prop}
/-- A variable is laid, and a piece is copied into it. -/
theorem wp_copy_pc (hgd : o.guard = none) (ho : o.op = .alloc 28) (hgd2 : o2.guard = none) (x y : Operand) (ho2 : o2.op = .store 28 x y) (p : Pc) (h1 : p.2.1.oneCell' = true)
    (hx : (a.put o.dst (.pointer (some ⟨w.heap.size, 0, none⟩))).eval x = .pointer (some ⟨w.heap.size, 0, none⟩)) (hy : (a.put o.dst (.pointer (some ⟨w.heap.size, 0, none⟩))).eval y = .agg (encP p).toArray)
    (h : ∀ w', Has w' w.heap.size 28 (encP p) → Below w.heap.size w w' → wpList Tryd.prog ops Q rest ((a.put o.dst (.pointer (some ⟨w.heap.size, 0, none⟩))).put o2.dst undef) w') : wpList Tryd.prog ops Q (o :: o2 :: rest) a w := by
  refine wpList_alloc hgd _ ho zPc (zPc_run w) ?_
  have hh : Has (w.alloc (.cells zPc 28)) w.heap.size 28 zPc.toList := Has.made' _ _ _ _ (by simp)
  refine wpList_store_row hgd2 _ x y ho2 w.heap.size (encP p).toArray hx hy _ zPc.toList.toArray hh (by rw [szPc, List.size_toArray, encP_len]) (by rw [List.size_toArray, List.size_toArray, encP_len]; exact zPc_size) (encP_all h1) ?_
  exact h _ (hh.rowl _) (below_row ((Below.refl _ _).alloc (Nat.le_refl _) _) (Nat.le_refl _) _)
/-- A variable is laid, and a sum is copied into it. -/
theorem wp_copy_su (hgd : o.guard = none) (E : TypeId) (hz : (zeroValue E).run Tryd.prog w = .ok (.agg (Array.replicate 32 (Value.int .u8 0))) w) (hE : (Tryd.prog.info? E).map (·.size) = some 32) (ho : o.op = .alloc E) (hgd2 : o2.guard = none) (x y : Operand) (ho2 : o2.op = .store E x y) (s : Su)
    (hx : (a.put o.dst (.pointer (some ⟨w.heap.size, 0, none⟩))).eval x = .pointer (some ⟨w.heap.size, 0, none⟩)) (hy : (a.put o.dst (.pointer (some ⟨w.heap.size, 0, none⟩))).eval y = .agg (encU s).toArray)
    (h : ∀ w', Has w' w.heap.size E (encU s) → Below w.heap.size w w' → wpList Tryd.prog ops Q rest ((a.put o.dst (.pointer (some ⟨w.heap.size, 0, none⟩))).put o2.dst undef) w') : wpList Tryd.prog ops Q (o :: o2 :: rest) a w := by
  refine wpList_alloc hgd _ ho _ hz ?_
  have hh : Has (w.alloc (.cells (Array.replicate 32 (Value.int .u8 0)) E)) w.heap.size E (List.replicate 32 (Value.int .u8 0)) := Has.made' _ _ _ _ rfl
  refine wpList_store_row hgd2 _ x y ho2 w.heap.size (encU s).toArray hx hy _ _ hh (by rw [hE, List.size_toArray, encU_len]) (by rw [List.size_toArray, List.size_toArray, encU_len]; simp) (encU_all s) ?_
  exact h _ (hh.rowl _) (below_row ((Below.refl _ _).alloc (Nat.le_refl _) _) (Nat.le_refl _) _)
end
end Go.Proofs.YthpledfjopbchaaDoor
/- Contract: chunk.Names: the pieces' sums. Conditions: at most a million bytes, no longer than their room; the sums' tables are laid. -/
namespace Go.Proofs.YthpledfjopbchaaDoor
open Go.RowKit
def namesU (b : List (BitVec 8)) : List Su := (cutP b).map (·.1)
theorem namesU_length (b : List (BitVec 8)) : (namesU b).length ≤ b.length := by unfold namesU; rw [List.length_map, cutP_length]; exact endsL_count plR_ok b
theorem made_runSu (n : Nat) (hn : n ≤ 1000000) (w : World) :
    (Instr.makeSlice 32 (.int .i64 0) (.int .i64 (n : Int))).run Tryd.prog w = .ok (.slice (some ⟨w.heap.size, 0, none⟩) 0 n) (w.alloc (.cells (madeCells (Array.replicate 32 (Value.int .u8 0)) (n * 32)) 24)) := by
  obtain ⟨i0, hi, hz0, hz1, hz2⟩ := info_parts elSum.2.2
  have := run_make (P := Tryd.prog) w 32 24 i0 _ elSum.1 hi hz0 .i64 .i64 0 n (by omega) (by omega) (by rw [hz2]; omega) (by omega)
  rw [hz1, show (Value.agg (Array.replicate 32 (Value.int .u8 0))).cells = Array.replicate 32 (Value.int .u8 0) from rfl] at this
  simpa using this
set_option maxHeartbeats 4000000 in
set_option maxRecDepth 100000 in
theorem names_any (b : List (BitVec 8)) (q : Option Addr) (c : Nat) (w : World) (hc : b.length ≤ c) (hq : q = none → c = 0) (hl : b.length ≤ 1000000) (hs : Sees w w.heap.size q (b.map u8v)) (hL : Laid w) :
    Calls Tryd.prog 17 #[.slice q b.length c] w fun e w' => (∃ v, e = .returned v ∧ OwnU w' w.heap.size 24 v (namesU b)) ∧ Below w.heap.size w w' := by
  have HC := Lib.hid (ccut_any b q c w hc hq hl hs hL)
  have HNL : Hid ((cutP b).length ≤ 1000000) := Lib.hid (by rw [cutP_length]; exact Nat.le_trans (endsL_count plR_ok b) hl)
  have HNA : Hid (namesU b = (cutP b).map (·.1)) := Lib.hid rfl
  generalize cutP b = X at *
  clear hs hL
  go_enter Tryd.func17, Tryd.ntmps17
  go_upto_region 2 with ((with_reducible refine HC.out.mono ?_); rintro e w4 ⟨⟨v4, LP, rfl, ⟨q5, c5, rfl, hlc, hq5, hse⟩, hpb, hkey⟩, hB⟩; have HB4 := Lib.hid hB; have HSE := Lib.hid hse; have HPB := Lib.hid hpb; have HKEY := Lib.hid hkey; clear hB hse hpb hkey)
  have HLX : Hid (LP.length = X.length) := Lib.hid (by rw [← HKEY.out, List.length_map])
  have hlx : LP.length ≤ 1000000 := by rw [HLX.out]; exact HNL.out
  have hmk := made_runSu LP.length hlx w4
  have HA := Lib.hid ((Below.refl w4.heap.size w4).alloc (Nat.le_refl _) (.cells (madeCells (Array.replicate 32 (Value.int .u8 0)) (LP.length * 32)) 24))
  have HROW : Hid (OwnU (w4.alloc (.cells (madeCells (Array.replicate 32 (Value.int .u8 0)) (LP.length * 32)) 24)) w4.heap.size 24 (.slice (some ⟨w4.heap.size, 0, none⟩) 0 LP.length) []) := Lib.hid (World.ownsRow_made w4 _ LP.length (Nat.le_refl _) (by unfold maxLen; omega) (size_madeCells _ _))
  clear HC
  go_upto_region 4 with fail
  clear hmk
  generalize w4.alloc (.cells (madeCells (Array.replicate 32 (Value.int .u8 0)) (LP.length * 32)) 24) = w6 at *
  go_loopw [4, 14] (fun v vi wr => ∃ j : Nat, j ≤ LP.length ∧ vi = .int .i64 j ∧ OwnU wr w4.heap.size 24 v ((LP.take j).map (·.1)) ∧ Below w4.heap.size w4 wr) (fun _ vi _ => LP.length - (intOf vi).toNat)
  case atStart => exact ⟨0, by omega, rfl, HROW.out, HA.out⟩
  case round =>
    clear HROW HA
    rename_i wr
    obtain ⟨j, hj, rfl, hrow, hB⟩ := hrel
    have HROW := Lib.hid hrow
    have HB := Lib.hid hB
    clear hrow hB
    by_cases hlt : j < LP.length
    · obtain ⟨ad, rfl, hab, hcell⟩ := Sees.pc (HSE.out.keep HB.out) hlt
      obtain ⟨p, hp⟩ : ∃ p, p = LP[j] := ⟨_, rfl⟩
      rw [← hp] at hcell
      have hone := (HPB.out p (by rw [hp]; exact List.getElem_mem hlt)).one
      have HCELL := Lib.hid hcell
      have HONE := Lib.hid hone
      have HXJ : Hid ((LP.take (j + 1)).map (·.1) = (LP.take j).map (·.1) ++ [p.1]) := Lib.hid (by rw [List.take_add_one, List.getElem?_eq_getElem hlt, ← hp]; simp)
      clear hcell hone hab hp
      have hjj : (j : Int) < (LP.length : Int) := by omega
      have hll : j < 1000000 := by omega
      have HLEN : Hid (((LP.take j).map (·.1)).length + 1 ≤ 4000000) := Lib.hid (by rw [List.length_map, List.length_take]; omega)
      go_upto_region 5 with fail
      refine wp_region_lit ?_
      try simp only [Act.put, List.setIfInBounds_toArray, List.set_cons_zero, List.set_cons_succ]
      refine lp_pure (v := ?_) (by kernel_rfl) ?_ ?_
      rotate_left
      · go_simp; try with_reducible rfl
      try simp only [Act.put, List.setIfInBounds_toArray, List.set_cons_zero, List.set_cons_succ]
      refine lp_pure (by kernel_rfl) (load_pc 33 28 elPc (.tmp 16) rfl (ad.add (j * 33)) rfl p (HCELL.out _ (Below.refl _ _))) ?_
      try simp only [Act.put, List.setIfInBounds_toArray, List.set_cons_zero, List.set_cons_succ]
      refine wp_copy_pc rfl rfl rfl (.tmp 6) (.tmp 17) rfl p HONE.out rfl rfl ?_
      intro w7 h1 h2
      have HAS := Lib.hid h1
      have HB7 := Lib.hid (HB.out.trans (h2.mono HB.out.size))
      have HB77 := Lib.hid h2
      clear h1 h2
      try simp only [Act.put, List.setIfInBounds_toArray, List.set_cons_zero, List.set_cons_succ]
      refine wpList_nil ?_
      have HG : Hid (w4.heap.size ≤ wr.heap.size ∧ wr.heap.size < w7.heap.size) := Lib.hid ⟨HB.out.size, HAS.out.lt⟩
      have HROW7 := Lib.hid (HROW.out.keep HB77.out)
      generalize wr.heap.size = g at *
      go_upto_region 6 with fail
      refine wp_region_lit ?_
      try simp only [Act.put, List.setIfInBounds_toArray, List.set_cons_zero, List.set_cons_succ]
      refine lp_pure (v := ?_) (by kernel_rfl) ?_ ?_
      rotate_left
      · go_simp; try with_reducible rfl
      try simp only [Act.put, List.setIfInBounds_toArray, List.set_cons_zero, List.set_cons_succ]
      refine lp_pure (v := ?_) (by kernel_rfl) ?_ ?_
      rotate_left
      · go_simp; try with_reducible rfl
      try simp only [Act.put, List.setIfInBounds_toArray, List.set_cons_zero, List.set_cons_succ]
      refine lp_pure (by kernel_rfl) (load_su 24 (.tmp 19) rfl ⟨g, 0, none⟩ rfl elSum.2.1 szSum p.1 (fun j u hu => by rw [add_lit', Nat.zero_add]; exact HAS.out.cellv (encP_su hu))) ?_
      try simp only [Act.put, List.setIfInBounds_toArray, List.set_cons_zero, List.set_cons_succ]
      refine wpList_one_su rfl 32 24 elSum (.tmp 20) rfl p.1 rfl ?_
      try simp only [Act.put, List.setIfInBounds_toArray, List.set_cons_zero, List.set_cons_succ]
      refine wpList_append_su rfl 32 24 elSum (.tmp 18) (.tmp 21) rfl w4.heap.size _ ((LP.take j).map (·.1)) rfl (HROW7.out.keep ((Below.refl _ _).alloc (Nat.le_refl _) _)) (some ⟨w7.heap.size, 0, none⟩) [p.1] 1 1 (w7.heap.size + 1) rfl rfl (fun h => by cases h) (Ss.one (Has.made' _ _ _ _ rfl) (by omega)) HLEN.out (by have := HG.out; simp; omega) ?_
      intro v8 w8 h1 h2
      have HROW2 := Lib.hid h1
      have HB8 := Lib.hid h2
      clear h1 h2
      try simp only [Act.put, List.setIfInBounds_toArray, List.set_cons_zero, List.set_cons_succ]
      refine lp_pure (v := ?_) (by kernel_rfl) ?_ ?_
      rotate_left
      · go_simp; try with_reducible rfl
      try simp only [Act.put, List.setIfInBounds_toArray, List.set_cons_zero, List.set_cons_succ]
      refine wpList_nil ?_
      go_wp2_with fail
      go_roundw
      case rel =>
        refine ⟨j + 1, by omega, by go_num, ?_, HB7.out.trans (((Below.refl _ _).alloc (by have := HG.out; omega) _).trans HB8.out)⟩
        rw [HXJ.out]; exact HROW2.out
      case measure => simp [intOf]; omega
    · have hjl : j = LP.length := by omega
      subst hjl
      have k3 : ¬ ((LP.length : Int) < (LP.length : Int)) := by omega
      have HPV : Hid (OwnU wr w4.heap.size 24 _ (namesU b)) := Lib.hid (by
        have e : (LP.take LP.length).map (·.1) = namesU b := by rw [List.take_length, HNA.out, ← HKEY.out, List.map_map]; rfl
        rw [← e]; exact HROW.out)
      clear hlt
      go_wp2_with fail
      go_ret
      exact ⟨⟨_, rfl, HPV.out.less HB4.out.size⟩, HB4.out.trans (HB.out.mono HB4.out.size)⟩
end Go.Proofs.YthpledfjopbchaaDoor
/- Contract: chunk.Good. Condition: fewer than 10^12 bytes; the sums' tables are laid. -/
namespace Go.Proofs.YthpledfjopbchaaDoor
open Go.RowKit
/-- Is a piece what it says? -/
def goodPc (p : Pc) : Bool := decide (1 ≤ p.2.2.length) && decide (p.2.2.length ≤ 128) && decide (shaU p.2.2 = p.1)
theorem gdSumP : Tryd.prog.eqGuardType Tryd.prog.depth 24 = false := by kernel_rfl
set_option maxHeartbeats 4000000 in
set_option maxRecDepth 100000 in
theorem pgood_any (p : Pc) (w : World) (hb : Bs w p.2.1 p.2.2) (hn : p.2.2.length < 1000000000000) (hL : Laid w) :
    Calls Tryd.prog 11 #[.agg (encP p).toArray] w fun e w' => e = .returned (.bool (goodPc p)) ∧ Below w.heap.size w w' := by
  obtain ⟨s, v, x⟩ := p
  obtain ⟨q, c, hv, hc, hq, hs⟩ := hb
  simp only [] at hv hc hs hn
  subst hv
  have HB0 := Lib.hid ((Below.refl w.heap.size w).alloc (Nat.le_refl _) (.cells (encP (s, .slice q x.length c, x)).toArray 28))
  have HAS : Hid (Has (w.alloc (.cells (encP (s, .slice q x.length c, x)).toArray 28)) w.heap.size 28 (encP (s, .slice q x.length c, x))) := Lib.hid (Has.made' w _ _ _ rfl)
  have HBS : Hid (Bs w (.slice q x.length c) x) := Lib.hid ⟨q, c, rfl, hc, hq, hs⟩
  have HL := Lib.hid (hL.keep HB0.out hL.size)
  have HSZ := Lib.hid hL.size
  clear hs hL hc hq
  go_enter Tryd.func11, Tryd.ntmps11
  go_upto_region 1 with fail
  have HC0 : Hid ((encP (s, .slice q x.length c, x))[32]? = some (.slice q x.length c)) := Lib.hid (encP_b (s, .slice q x.length c, x))
  have HCS : Hid (∀ j u, (encU s)[j]? = some u → (encP (s, .slice q x.length c, x))[j]? = some u) := Lib.hid (fun j u h => encP_su (p := (s, .slice q x.length c, x)) h)
  have HBS0 := Lib.hid (HBS.out.keep HB0.out)
  have HE := Lib.hid (⟨rfl, rfl⟩ : (encP (s, .slice q x.length c, x)).length = (encP (s, .slice q x.length c, x)).length ∧ True = True)
  clear HE
  generalize hw0 : w.alloc (.cells (encP (s, .slice q x.length c, x)).toArray 28) = w0 at *
  clear hw0
  have HG := Lib.hid HAS.out.lt
  obtain ⟨g, hg⟩ : ∃ g, g = w.heap.size := ⟨_, rfl⟩
  rw [← hg] at HAS HG ⊢
  have HGE := Lib.hid hg
  clear hg
  by_cases h1 : 1 ≤ x.length
  · have k1 : (1 : Int) ≤ (x.length : Int) := by omega
    by_cases h2 : x.length ≤ 128
    · have k2 : (x.length : Int) ≤ 128 := by omega
      have HR : Hid (goodPc (s, .slice q x.length c, x) = decide (shaU x = s)) := Lib.hid (by unfold goodPc; rw [decide_eq_true h1, decide_eq_true h2]; rfl)
      refine wp_region_org [(0, true), (1, true), (2, true), (3, true), (4, true), (5, true), (6, true), (7, true), (8, true), (9, true), (10, true), (11, true), (12, true), (15, true), (16, true), (13, false), (14, false), (17, true), (18, true), (19, true)] (by kernel_rfl) (by kernel_rfl) (by kernel_rfl) ?_
      have HB1 : Hid (Below w.heap.size w w0.drew) := Lib.hid HB0.out.drew
      have HASD : Hid (Has w0.drew g 28 (encP (s, .slice q x.length c, x))) := Lib.hid HAS.out
      have HLD : Hid (Laid w0.drew) := Lib.hid (HL.out.keep ((Below.refl w0.heap.size w0).drew) (by have := HSZ.out; have := HB0.out.size; omega))
      have HBSD : Hid (Bs w0.drew (.slice q x.length c) x) := Lib.hid HBS0.out
      clear HAS HL HBS0 HBS HB0
      generalize w0.drew = wd at *
      have HC32 : Hid (∀ w', Ext wd w' → w'.cell? ⟨g, 32, none⟩ = some (.slice q x.length c)) := Lib.hid (fun w' hv => (HASD.out.keep hv HASD.out.lt).cellv HC0.out)
      have HCU : Hid (∀ w', Ext wd w' → ∀ j u, (encU s)[j]? = some u → w'.cell? ((⟨g, 0, none⟩ : Addr).add j) = some u) := Lib.hid (fun w' hv j u hu => by rw [add_lit', Nat.zero_add]; exact (HASD.out.keep hv HASD.out.lt).cellv (HCS.out j u hu))
      clear HASD HC0 HCS
      simp only [pickOrs, List.getElem?_cons_zero, List.getElem?_cons_succ]
      refine org_pure (v := ?_) (by kernel_rfl) ?_ ?_
      rotate_left
      · intro w' hv; clear hv; go_simp; try with_reducible rfl
      try simp only [Act.put, List.setIfInBounds_toArray, List.set_cons_zero, List.set_cons_succ]
      refine org_pure (v := ?_) (by kernel_rfl) ?_ ?_
      rotate_left
      · intro w' hv; have c32 := HC32.out _ hv; clear hv; go_simp; try with_reducible rfl
      try simp only [Act.put, List.setIfInBounds_toArray, List.set_cons_zero, List.set_cons_succ]
      refine org_pure (v := ?_) (by kernel_rfl) ?_ ?_
      rotate_left
      · intro w' hv; clear hv; go_simp; try with_reducible rfl
      try simp only [Act.put, List.setIfInBounds_toArray, List.set_cons_zero, List.set_cons_succ]
      refine org_pure (v := ?_) (by kernel_rfl) ?_ ?_
      rotate_left
      · intro w' hv; clear hv; go_simp; try with_reducible rfl
      try simp only [Act.put, List.setIfInBounds_toArray, List.set_cons_zero, List.set_cons_succ]
      refine org_pure (v := ?_) (by kernel_rfl) ?_ ?_
      rotate_left
      · intro w' hv; clear hv; go_simp; try with_reducible rfl
      try simp only [Act.put, List.setIfInBounds_toArray, List.set_cons_zero, List.set_cons_succ]
      refine org_pure (v := ?_) (by kernel_rfl) ?_ ?_
      rotate_left
      · intro w' hv; clear hv; go_simp; try with_reducible rfl
      try simp only [Act.put, List.setIfInBounds_toArray, List.set_cons_zero, List.set_cons_succ]
      refine org_pure (v := ?_) (by kernel_rfl) ?_ ?_
      rotate_left
      · intro w' hv; have c32 := HC32.out _ hv; clear hv; go_simp; try with_reducible rfl
      try simp only [Act.put, List.setIfInBounds_toArray, List.set_cons_zero, List.set_cons_succ]
      refine org_pure (v := ?_) (by kernel_rfl) ?_ ?_
      rotate_left
      · intro w' hv; clear hv; go_simp; try with_reducible rfl
      try simp only [Act.put, List.setIfInBounds_toArray, List.set_cons_zero, List.set_cons_succ]
      refine org_pure (v := ?_) (by kernel_rfl) ?_ ?_
      rotate_left
      · intro w' hv; clear hv; go_simp; try with_reducible rfl
      try simp only [Act.put, List.setIfInBounds_toArray, List.set_cons_zero, List.set_cons_succ]
      refine org_pure (v := ?_) (by kernel_rfl) ?_ ?_
      rotate_left
      · intro w' hv; clear hv; go_simp; try with_reducible rfl
      try simp only [Act.put, List.setIfInBounds_toArray, List.set_cons_zero, List.set_cons_succ]
      refine org_pure (v := ?_) (by kernel_rfl) ?_ ?_
      rotate_left
      · intro w' hv; clear hv; go_simp; try with_reducible rfl
      try simp only [Act.put, List.setIfInBounds_toArray, List.set_cons_zero, List.set_cons_succ]
      refine org_pure (v := ?_) (by kernel_rfl) ?_ ?_
      rotate_left
      · intro w' hv; clear hv; go_simp; try with_reducible rfl
      try simp only [Act.put, List.setIfInBounds_toArray, List.set_cons_zero, List.set_cons_succ]
      refine org_pure (v := ?_) (by kernel_rfl) ?_ ?_
      rotate_left
      · intro w' hv; have c32 := HC32.out _ hv; clear hv; go_simp; try with_reducible rfl
      try simp only [Act.put, List.setIfInBounds_toArray, List.set_cons_zero, List.set_cons_succ]
      refine org_pure (v := ?_) (by kernel_rfl) ?_ ?_
      rotate_left
      · intro w' hv; clear hv; go_simp; try with_reducible rfl
      try simp only [Act.put, List.setIfInBounds_toArray, List.set_cons_zero, List.set_cons_succ]
      refine org_pure (by kernel_rfl) (fun w' hv => load_su 24 (.tmp 18) rfl ⟨g, 0, none⟩ rfl elSum.2.1 szSum s (HCU.out _ hv)) ?_
      try simp only [Act.put, List.setIfInBounds_toArray, List.set_cons_zero, List.set_cons_succ]
      refine org_step (by kernel_rfl) (fun K hK => wp_one_bs (.tmp 15) rfl q x.length c rfl (hK _ _ ⟨(Below.refl _ _).alloc (Nat.le_refl _) _, ?_⟩))
      try simp only [Act.put, List.setIfInBounds_toArray, List.set_cons_zero, List.set_cons_succ]
      have HOF := Lib.hid (of_one HBSD.out (by omega) HLD.out)
      refine org_step (by kernel_rfl) (fun K hK => ?_)
      go_wp2_with fail
      refine Calls.mono HOF.out ?_
      rintro e wx ⟨rfl, hb, hb2⟩
      have HE := Lib.hid hb2
      refine hK _ _ ⟨hb, ?_⟩
      clear hK hb hb2
      try simp only [Act.put, List.setIfInBounds_toArray, List.set_cons_zero, List.set_cons_succ]
      refine org_pure (by kernel_rfl) (fun w' hv => eql_su 24 (.tmp 17) (.tmp 19) _ rfl (shaU x) s rfl rfl elSum.2.1 gdSumP) ?_
      try simp only [Act.put, List.setIfInBounds_toArray, List.set_cons_zero, List.set_cons_succ]
      refine org_pure (v := ?_) (by kernel_rfl) ?_ ?_
      rotate_left
      · intro w' hv; clear hv; go_simp; try with_reducible rfl
      try simp only [Act.put, List.setIfInBounds_toArray, List.set_cons_zero, List.set_cons_succ]
      refine org_pure (v := ?_) (by kernel_rfl) ?_ ?_
      rotate_left
      · intro w' hv; clear hv; go_simp; try with_reducible rfl
      try simp only [Act.put, List.setIfInBounds_toArray, List.set_cons_zero, List.set_cons_succ]
      refine org_nil ?_
      go_wp2_with fail
      go_ret
      exact ⟨congrArg (fun b => Ending.returned (.bool b)) HR.out.symm, HB1.out.trans (HE.out.mono HB1.out.size)⟩
    · have k2 : ¬ (x.length : Int) ≤ 128 := by omega
      have HR : Hid (goodPc (s, .slice q x.length c, x) = false) := Lib.hid (by unfold goodPc; rw [decide_eq_false h2, Bool.and_false, Bool.false_and])
      refine wp_region_org [(0, true), (1, true), (2, true), (3, true), (4, true), (5, true), (6, true), (7, true), (8, true), (9, true), (10, true), (11, true), (12, true), (15, true), (16, true), (13, false), (14, false), (17, true), (18, true), (19, true)] (by kernel_rfl) (by kernel_rfl) (by kernel_rfl) ?_
      have HB1 : Hid (Below w.heap.size w w0.drew) := Lib.hid HB0.out.drew
      have HASD : Hid (Has w0.drew g 28 (encP (s, .slice q x.length c, x))) := Lib.hid HAS.out
      have HLD : Hid (Laid w0.drew) := Lib.hid (HL.out.keep ((Below.refl w0.heap.size w0).drew) (by have := HSZ.out; have := HB0.out.size; omega))
      have HBSD : Hid (Bs w0.drew (.slice q x.length c) x) := Lib.hid HBS0.out
      clear HAS HL HBS0 HBS HB0
      generalize w0.drew = wd at *
      have HC32 : Hid (∀ w', Ext wd w' → w'.cell? ⟨g, 32, none⟩ = some (.slice q x.length c)) := Lib.hid (fun w' hv => (HASD.out.keep hv HASD.out.lt).cellv HC0.out)
      have HCU : Hid (∀ w', Ext wd w' → ∀ j u, (encU s)[j]? = some u → w'.cell? ((⟨g, 0, none⟩ : Addr).add j) = some u) := Lib.hid (fun w' hv j u hu => by rw [add_lit', Nat.zero_add]; exact (HASD.out.keep hv HASD.out.lt).cellv (HCS.out j u hu))
      clear HASD HC0 HCS
      simp only [pickOrs, List.getElem?_cons_zero, List.getElem?_cons_succ]
      refine org_pure (v := ?_) (by kernel_rfl) ?_ ?_
      rotate_left
      · intro w' hv; clear hv; go_simp; try with_reducible rfl
      try simp only [Act.put, List.setIfInBounds_toArray, List.set_cons_zero, List.set_cons_succ]
      refine org_pure (v := ?_) (by kernel_rfl) ?_ ?_
      rotate_left
      · intro w' hv; have c32 := HC32.out _ hv; clear hv; go_simp; try with_reducible rfl
      try simp only [Act.put, List.setIfInBounds_toArray, List.set_cons_zero, List.set_cons_succ]
      refine org_pure (v := ?_) (by kernel_rfl) ?_ ?_
      rotate_left
      · intro w' hv; clear hv; go_simp; try with_reducible rfl
      try simp only [Act.put, List.setIfInBounds_toArray, List.set_cons_zero, List.set_cons_succ]
      refine org_pure (v := ?_) (by kernel_rfl) ?_ ?_
      rotate_left
      · intro w' hv; clear hv; go_simp; try with_reducible rfl
      try simp only [Act.put, List.setIfInBounds_toArray, List.set_cons_zero, List.set_cons_succ]
      refine org_pure (v := ?_) (by kernel_rfl) ?_ ?_
      rotate_left
      · intro w' hv; clear hv; go_simp; try with_reducible rfl
      try simp only [Act.put, List.setIfInBounds_toArray, List.set_cons_zero, List.set_cons_succ]
      refine org_pure (v := ?_) (by kernel_rfl) ?_ ?_
      rotate_left
      · intro w' hv; clear hv; go_simp; try with_reducible rfl
      try simp only [Act.put, List.setIfInBounds_toArray, List.set_cons_zero, List.set_cons_succ]
      refine org_pure (v := ?_) (by kernel_rfl) ?_ ?_
      rotate_left
      · intro w' hv; have c32 := HC32.out _ hv; clear hv; go_simp; try with_reducible rfl
      try simp only [Act.put, List.setIfInBounds_toArray, List.set_cons_zero, List.set_cons_succ]
      refine org_pure (v := ?_) (by kernel_rfl) ?_ ?_
      rotate_left
      · intro w' hv; clear hv; go_simp; try with_reducible rfl
      try simp only [Act.put, List.setIfInBounds_toArray, List.set_cons_zero, List.set_cons_succ]
      refine org_pure (v := ?_) (by kernel_rfl) ?_ ?_
      rotate_left
      · intro w' hv; clear hv; go_simp; try with_reducible rfl
      try simp only [Act.put, List.setIfInBounds_toArray, List.set_cons_zero, List.set_cons_succ]
      refine org_pure (v := ?_) (by kernel_rfl) ?_ ?_
      rotate_left
      · intro w' hv; clear hv; go_simp; try with_reducible rfl
      try simp only [Act.put, List.setIfInBounds_toArray, List.set_cons_zero, List.set_cons_succ]
      refine org_pure (v := ?_) (by kernel_rfl) ?_ ?_
      rotate_left
      · intro w' hv; clear hv; go_simp; try with_reducible rfl
      try simp only [Act.put, List.setIfInBounds_toArray, List.set_cons_zero, List.set_cons_succ]
      refine org_skip (by kernel_rfl) ?_
      try simp only [Act.put, List.setIfInBounds_toArray, List.set_cons_zero, List.set_cons_succ]
      refine org_skip (by kernel_rfl) ?_
      try simp only [Act.put, List.setIfInBounds_toArray, List.set_cons_zero, List.set_cons_succ]
      refine org_skip (by kernel_rfl) ?_
      try simp only [Act.put, List.setIfInBounds_toArray, List.set_cons_zero, List.set_cons_succ]
      refine org_skip (by kernel_rfl) ?_
      try simp only [Act.put, List.setIfInBounds_toArray, List.set_cons_zero, List.set_cons_succ]
      refine org_pass (by kernel_rfl) ?_
      try simp only [Act.put, List.setIfInBounds_toArray, List.set_cons_zero, List.set_cons_succ]
      refine org_pass (by kernel_rfl) ?_
      try simp only [Act.put, List.setIfInBounds_toArray, List.set_cons_zero, List.set_cons_succ]
      refine org_skip (by kernel_rfl) ?_
      try simp only [Act.put, List.setIfInBounds_toArray, List.set_cons_zero, List.set_cons_succ]
      refine org_pure (v := ?_) (by kernel_rfl) ?_ ?_
      rotate_left
      · intro w' hv; clear hv; go_simp; try with_reducible rfl
      try simp only [Act.put, List.setIfInBounds_toArray, List.set_cons_zero, List.set_cons_succ]
      refine org_pure (v := ?_) (by kernel_rfl) ?_ ?_
      rotate_left
      · intro w' hv; clear hv; go_simp; try with_reducible rfl
      try simp only [Act.put, List.setIfInBounds_toArray, List.set_cons_zero, List.set_cons_succ]
      refine org_nil ?_
      go_wp2_with fail
      go_ret
      exact ⟨congrArg (fun b => Ending.returned (.bool b)) HR.out.symm, HB1.out⟩
  · have k1 : ¬ (1 : Int) ≤ (x.length : Int) := by omega
    have HR : Hid (goodPc (s, .slice q x.length c, x) = false) := Lib.hid (by unfold goodPc; rw [decide_eq_false h1, Bool.false_and, Bool.false_and])
    refine wp_region_org [(0, true), (1, true), (2, true), (3, true), (4, true), (5, true), (6, true), (7, true), (8, true), (9, true), (10, true), (11, true), (12, true), (15, true), (16, true), (13, false), (14, false), (17, true), (18, true), (19, true)] (by kernel_rfl) (by kernel_rfl) (by kernel_rfl) ?_
    have HB1 : Hid (Below w.heap.size w w0.drew) := Lib.hid HB0.out.drew
    have HASD : Hid (Has w0.drew g 28 (encP (s, .slice q x.length c, x))) := Lib.hid HAS.out
    have HLD : Hid (Laid w0.drew) := Lib.hid (HL.out.keep ((Below.refl w0.heap.size w0).drew) (by have := HSZ.out; have := HB0.out.size; omega))
    have HBSD : Hid (Bs w0.drew (.slice q x.length c) x) := Lib.hid HBS0.out
    clear HAS HL HBS0 HBS HB0
    generalize w0.drew = wd at *
    have HC32 : Hid (∀ w', Ext wd w' → w'.cell? ⟨g, 32, none⟩ = some (.slice q x.length c)) := Lib.hid (fun w' hv => (HASD.out.keep hv HASD.out.lt).cellv HC0.out)
    have HCU : Hid (∀ w', Ext wd w' → ∀ j u, (encU s)[j]? = some u → w'.cell? ((⟨g, 0, none⟩ : Addr).add j) = some u) := Lib.hid (fun w' hv j u hu => by rw [add_lit', Nat.zero_add]; exact (HASD.out.keep hv HASD.out.lt).cellv (HCS.out j u hu))
    clear HASD HC0 HCS
    simp only [pickOrs, List.getElem?_cons_zero, List.getElem?_cons_succ]
    refine org_pure (v := ?_) (by kernel_rfl) ?_ ?_
    rotate_left
    · intro w' hv; clear hv; go_simp; try with_reducible rfl
    try simp only [Act.put, List.setIfInBounds_toArray, List.set_cons_zero, List.set_cons_succ]
    refine org_pure (v := ?_) (by kernel_rfl) ?_ ?_
    rotate_left
    · intro w' hv; have c32 := HC32.out _ hv; clear hv; go_simp; try with_reducible rfl
    try simp only [Act.put, List.setIfInBounds_toArray, List.set_cons_zero, List.set_cons_succ]
    refine org_pure (v := ?_) (by kernel_rfl) ?_ ?_
    rotate_left
    · intro w' hv; clear hv; go_simp; try with_reducible rfl
    try simp only [Act.put, List.setIfInBounds_toArray, List.set_cons_zero, List.set_cons_succ]
    refine org_pure (v := ?_) (by kernel_rfl) ?_ ?_
    rotate_left
    · intro w' hv; clear hv; go_simp; try with_reducible rfl
    try simp only [Act.put, List.setIfInBounds_toArray, List.set_cons_zero, List.set_cons_succ]
    refine org_pure (v := ?_) (by kernel_rfl) ?_ ?_
    rotate_left
    · intro w' hv; clear hv; go_simp; try with_reducible rfl
    try simp only [Act.put, List.setIfInBounds_toArray, List.set_cons_zero, List.set_cons_succ]
    refine org_skip (by kernel_rfl) ?_
    try simp only [Act.put, List.setIfInBounds_toArray, List.set_cons_zero, List.set_cons_succ]
    refine org_skip (by kernel_rfl) ?_
    try simp only [Act.put, List.setIfInBounds_toArray, List.set_cons_zero, List.set_cons_succ]
    refine org_skip (by kernel_rfl) ?_
    try simp only [Act.put, List.setIfInBounds_toArray, List.set_cons_zero, List.set_cons_succ]
    refine org_skip (by kernel_rfl) ?_
    try simp only [Act.put, List.setIfInBounds_toArray, List.set_cons_zero, List.set_cons_succ]
    refine org_pure (v := ?_) (by kernel_rfl) ?_ ?_
    rotate_left
    · intro w' hv; clear hv; go_simp; try with_reducible rfl
    try simp only [Act.put, List.setIfInBounds_toArray, List.set_cons_zero, List.set_cons_succ]
    refine org_pure (v := ?_) (by kernel_rfl) ?_ ?_
    rotate_left
    · intro w' hv; clear hv; go_simp; try with_reducible rfl
    try simp only [Act.put, List.setIfInBounds_toArray, List.set_cons_zero, List.set_cons_succ]
    refine org_skip (by kernel_rfl) ?_
    try simp only [Act.put, List.setIfInBounds_toArray, List.set_cons_zero, List.set_cons_succ]
    refine org_skip (by kernel_rfl) ?_
    try simp only [Act.put, List.setIfInBounds_toArray, List.set_cons_zero, List.set_cons_succ]
    refine org_skip (by kernel_rfl) ?_
    try simp only [Act.put, List.setIfInBounds_toArray, List.set_cons_zero, List.set_cons_succ]
    refine org_skip (by kernel_rfl) ?_
    try simp only [Act.put, List.setIfInBounds_toArray, List.set_cons_zero, List.set_cons_succ]
    refine org_pass (by kernel_rfl) ?_
    try simp only [Act.put, List.setIfInBounds_toArray, List.set_cons_zero, List.set_cons_succ]
    refine org_pass (by kernel_rfl) ?_
    try simp only [Act.put, List.setIfInBounds_toArray, List.set_cons_zero, List.set_cons_succ]
    refine org_skip (by kernel_rfl) ?_
    try simp only [Act.put, List.setIfInBounds_toArray, List.set_cons_zero, List.set_cons_succ]
    refine org_pure (v := ?_) (by kernel_rfl) ?_ ?_
    rotate_left
    · intro w' hv; clear hv; go_simp; try with_reducible rfl
    try simp only [Act.put, List.setIfInBounds_toArray, List.set_cons_zero, List.set_cons_succ]
    refine org_pure (v := ?_) (by kernel_rfl) ?_ ?_
    rotate_left
    · intro w' hv; clear hv; go_simp; try with_reducible rfl
    try simp only [Act.put, List.setIfInBounds_toArray, List.set_cons_zero, List.set_cons_succ]
    refine org_nil ?_
    go_wp2_with fail
    go_ret
    exact ⟨congrArg (fun b => Ending.returned (.bool b)) HR.out.symm, HB1.out⟩
end Go.Proofs.YthpledfjopbchaaDoor
/- Contract: the law's own awake: true. Condition: the sums' tables are laid. -/
namespace Go.Proofs.YthpledfjopbchaaDoor
open Go.RowKit
theorem freeze_newk (w : World) (cs : Array Value) (e : TypeId) (n : Nat) : (w.alloc (.cells cs e)).freeze ⟨w.heap.size, n, none⟩ 1 = w.alloc (.cells cs e (n, n + 1)) := by
  have hm : ∀ (a : Array Obj) (x : Obj) (f : Obj → Obj), (a.push x).modify a.size f = a.push (f x) := by
    intro a x f
    apply Array.ext
    · simp
    · intro i h1 h2
      simp only [Array.getElem_modify, Array.getElem_push]
      by_cases h : a.size = i
      · subst h; simp
      · have hi : i < a.size := by simp at h1; omega
        simp [h, hi]
  unfold World.freeze
  rw [if_neg (by decide)]
  show ({ w.alloc (.cells cs e) with heap := (w.heap.push (.cells cs e)).modify w.heap.size _ } : World) = _
  rw [hm]
  rfl
theorem conv_newk (w : World) (cs : Array Value) (n c : Nat) :
    (convert 26 26 (.slice (some ⟨w.heap.size, 0, none⟩) n c)).run Tryd.prog (w.alloc (.cells cs 5)) =
      .ok (.slice (some ⟨w.heap.size, 0, none⟩) n c) (w.alloc (.cells cs 5 (cs.size, cs.size + 1))) := by
  have hsh : (w.alloc (.cells cs 5)).shape? w.heap.size = some (5, cs.size) := by
    have : (w.alloc (.cells cs 5)).heap[w.heap.size]? = some (.cells cs 5) := heap_alloc_new _ _
    unfold World.shape?
    rw [this]
  have hfr := freeze_newk w cs 5 cs.size
  simp [convert, run_underlying Tryd.underlying26, run_underlying Tryd.underlying5, markStringish, hsh, hfr]
theorem made_seesk (w : World) (x : List (BitVec 8)) (cs : Array Value) (f : Nat × Nat) (hx : cs = (x.map u8v).toArray) :
    Sees (w.alloc (.cells cs 5 f)) (w.heap.size + 1) (some ⟨w.heap.size, 0, none⟩) (x.map u8v) := fun _ =>
  ⟨_, rfl, Nat.lt_succ_self _, fun j u hu => by
    rw [Addr.add_mid, Nat.zero_add]
    exact (cell_of_row _ w.heap.size j cs 5 f (heap_alloc_new w _)).trans (by rw [hx]; simpa using hu)⟩
section
variable {o : Oper} {a : Act} {w : World} {Q : Exit → Act → World → Prop} {K : Act → World → Prop}
/-- Bytes' literal, turned into a slice of its own. -/
theorem wp_convk (x : Operand) (ho : o.op = .convert 26 26 x) (cs : Array Value) (n c : Nat) (hx : a.eval x = .slice (some ⟨w.heap.size, 0, none⟩) n c)
    (h : K (a.put o.dst (.slice (some ⟨w.heap.size, 0, none⟩) n c)) (w.alloc (.cells cs 5 (cs.size, cs.size + 1)))) : o.wp Tryd.prog a (w.alloc (.cells cs 5)) K Q := by
  unfold Oper.wp execOp
  simp only [ho, hx, Sem.run_bind, conv_newk w cs n c, Result.andThen_ok]
  exact h
/-- Bytes' literal. -/
theorem wp_lit8 (n : Nat) (parts : Array (Nat × Operand)) (ho : o.op = .buildSlice 26 n parts) (cs : Array Value) (h0 : n ≠ 0) (h9 : n ≤ 16777216)
    (hf : Instr.fill (fun i => some (i * 1, 1)) ((Array.range (n * 1)).map ((Value.int .u8 0).cells[· % (Value.int .u8 0).cells.size]!)) (parts.map fun (i, x) => (i, a.eval x)).toList = some cs)
    (h : K (a.put o.dst (.slice (some ⟨w.heap.size, 0, none⟩) n n)) (w.alloc (.cells cs 5))) : o.wp Tryd.prog a w K Q := by
  obtain ⟨i8x, hi8, hz8, hs8, _⟩ := info_parts u8_info
  refine wp_buildSlice 26 5 n parts ho cs i8x _ Tryd.underlying26 hi8 hz8 (by rw [hs8]; omega) (by rw [hs8]; omega) ?_ h
  rw [hs8]; exact hf
end
theorem bs_litk (w : World) (x : List (BitVec 8)) (cs : Array Value) (f : Nat × Nat) (hx : cs = (x.map u8v).toArray) (n : Nat) (hn : x.length = n) : Bs (w.alloc (.cells cs 5 f)) (.slice (some ⟨w.heap.size, 0, none⟩) n n) x :=
  ⟨some ⟨w.heap.size, 0, none⟩, n, by rw [hn], by rw [hn]; exact Nat.le_refl _, fun h => (by cases h), (made_seesk w x cs f hx).more (by simp)⟩
def t10 : List (BitVec 8) := [48#8, 49#8, 50#8, 51#8, 52#8, 53#8, 54#8, 55#8, 56#8, 57#8]
def t10v : Array Value := #[.int .u8 48, .int .u8 49, .int .u8 50, .int .u8 51, .int .u8 52, .int .u8 53, .int .u8 54, .int .u8 55, .int .u8 56, .int .u8 57]
theorem t10_eq : t10v = (t10.map u8v).toArray := by kernel_rfl
theorem t10_cut : cutP t10 = [(shaU t10, t10)] := by kernel_rfl
theorem t10_good (v : Value) : goodPc (shaU t10, v, t10) = true := by
  unfold goodPc
  rw [decide_eq_true (show shaU (shaU t10, v, t10).2.2 = (shaU t10, v, t10).1 from rfl)]
  rfl
theorem t10_list : (strB t10).toList = [48, 49, 50, 51, 52, 53, 54, 55, 56, 57] := by kernel_rfl
theorem keys_one {LP : List Pc} {s : Su} {x : List (BitVec 8)} (h : LP.map keyP = [(s, x)]) : ∃ v, LP = [(s, v, x)] := by
  match LP, h with
  | [p], h =>
    obtain ⟨a, v, b⟩ := p
    simp [keyP] at h
    obtain ⟨rfl, rfl⟩ := h
    exact ⟨v, rfl⟩
set_option maxHeartbeats 4000000 in
set_option maxRecDepth 100000 in
theorem awake11_any (w : World) (hL : Laid w) : Calls Tryd.prog 8 #[] w fun e w' => e = .returned (.bool true) ∧ Below w.heap.size w w' := by
  have HL := Lib.hid hL
  have HSZ := Lib.hid hL.size
  have HB0 : Hid (Below w.heap.size w (w.alloc (.cells t10v 5 (10, 11)))) := Lib.hid ((Below.refl _ _).alloc (Nat.le_refl _) _)
  have HC := Lib.hid (ccut_any t10 (some ⟨w.heap.size, 0, none⟩) 10 (w.alloc (.cells t10v 5 (10, 11))) (by decide) (fun h => by cases h) (by decide) ((made_seesk w t10 t10v (10, 11) t10_eq).more (by simp)) (HL.out.keep HB0.out HSZ.out))
  clear hL
  go_enter Tryd.func8, Tryd.ntmps8
  go_upto_region 1 with fail
  refine wp_region_lit ?_
  try simp only [Act.put, List.setIfInBounds_toArray, List.set_cons_zero, List.set_cons_succ]
  refine lp_step (by kernel_rfl) (fun K hK => wp_lit8 10 _ rfl t10v (by decide) (by decide) (by kernel_rfl) (hK _ _ ?_))
  try simp only [Act.put, List.setIfInBounds_toArray, List.set_cons_zero, List.set_cons_succ]
  refine lp_step (by kernel_rfl) (fun K hK => wp_convk (.tmp 2) rfl t10v 10 10 rfl (hK _ _ ?_))
  try simp only [Act.put, List.setIfInBounds_toArray, List.set_cons_zero, List.set_cons_succ]
  refine lp_step (by kernel_rfl) (fun K hK => ?_)
  go_wp2_with fail
  refine Calls.mono (HC.out) ?_
  rintro e w1 ⟨⟨v1, LP, rfl, ⟨q1, c1, rfl, hlc, hq1, hse⟩, hpb, hkey⟩, hB⟩
  rw [t10_cut] at hkey
  obtain ⟨pv, rfl⟩ := keys_one hkey
  have HB1 := Lib.hid (HB0.out.trans (hB.mono HB0.out.size))
  have HSE := Lib.hid hse
  have HPB := Lib.hid (hpb _ (List.mem_singleton.2 rfl))
  clear hkey hB hse hpb HC HB0
  refine hK _ _ ?_
  clear hK
  try simp only [Act.put, List.setIfInBounds_toArray, List.set_cons_zero, List.set_cons_succ]
  refine lp_pure (v := ?_) (by kernel_rfl) ?_ ?_
  rotate_left
  · go_simp; try with_reducible rfl
  try simp only [Act.put, List.setIfInBounds_toArray, List.set_cons_zero, List.set_cons_succ]
  refine wpList_nil ?_
  go_wp2_with fail
  obtain ⟨ad, rfl, hab, hcell⟩ := Sees.pc HSE.out (i := 0) (by simp)
  obtain ⟨qv, cv, hpv, hcv, hqv, hsv⟩ := HPB.out
  simp only [List.getElem_cons_zero] at hcell hpv hcv hsv
  subst hpv
  have e10 : t10.length = 10 := rfl
  rw [e10] at HPB hcell
  have HAB := Lib.hid hab
  have HCL := Lib.hid hcell
  clear hab hcell hcv hqv hsv e10
  refine wp_region_ors (fun w' => Below w1.drew.heap.size w1.drew w') [(0, true), (1, true), (2, true), (3, true), (4, true), (5, true), (6, true), (7, false), (8, true), (9, true), (10, true), (11, true), (12, true), (13, true), (14, true), (15, true), (16, true), (17, true), (18, true), (19, true), (20, true), (21, true), (22, false), (23, false), (24, false), (25, false), (26, true), (27, true), (28, true)] (by kernel_rfl) (by kernel_rfl) (by kernel_rfl) (Below.refl _ _) ?_
  have HB2 := Lib.hid HB1.out.drew
  have HPBD : Hid (Bs w1.drew (.slice qv 10 cv) t10) := Lib.hid HPB.out
  have HCLD : Hid (∀ w', Below w1.drew.heap.size w1.drew w' → ∀ j u, (encP (shaU t10, .slice qv 10 cv, t10))[j]? = some u → w'.cell? (ad.add j) = some u) := Lib.hid (fun w' h j u hu => by have := HCL.out w' ((Below.refl _ _).drew.trans h) j u hu; rw [add_add, Nat.zero_mul, Nat.zero_add] at this; exact this)
  have HC32 : Hid (∀ w', Below w1.drew.heap.size w1.drew w' → w'.cell? ⟨ad.block, ad.off + 32, none⟩ = some (.slice qv 10 cv)) := Lib.hid (fun w' h => HCLD.out w' h 32 _ (encP_b _))
  have HSTR : Hid (∀ w', Below w1.drew.heap.size w1.drew w' → (convert 26 9 (.slice qv 10 cv)).run Tryd.prog w' = .ok (.string (strB t10)) w') := Lib.hid (fun w' h => by obtain ⟨qx, cx, e, _, _, hsx⟩ := HPB.out; cases e; exact str_run t10 qv cv w1.heap.size w' (hsx.keep ((Below.refl _ _).drew.trans h)))
  have HLD := Lib.hid (HL.out.keep HB2.out HSZ.out)
  clear HCL HPB HB1 HL
  generalize w1.drew = wd at *
  simp only [pickOrs, List.getElem?_cons_zero, List.getElem?_cons_succ]
  refine ors_pure (v := ?_) (by kernel_rfl) ?_ ?_
  rotate_left
  · intro w' hv; clear hv; go_simp; try with_reducible rfl
  try simp only [Act.put, List.setIfInBounds_toArray, List.set_cons_zero, List.set_cons_succ]
  refine ors_pure (v := ?_) (by kernel_rfl) ?_ ?_
  rotate_left
  · intro w' hv; clear hv; go_simp; try with_reducible rfl
  try simp only [Act.put, List.setIfInBounds_toArray, List.set_cons_zero, List.set_cons_succ]
  refine ors_pure (v := ?_) (by kernel_rfl) ?_ ?_
  rotate_left
  · intro w' hv; clear hv; go_simp; try with_reducible rfl
  try simp only [Act.put, List.setIfInBounds_toArray, List.set_cons_zero, List.set_cons_succ]
  refine ors_pure (v := ?_) (by kernel_rfl) ?_ ?_
  rotate_left
  · intro w' hv; clear hv; go_simp; try with_reducible rfl
  try simp only [Act.put, List.setIfInBounds_toArray, List.set_cons_zero, List.set_cons_succ]
  refine ors_pure (v := ?_) (by kernel_rfl) ?_ ?_
  rotate_left
  · intro w' hv; clear hv; go_simp; try with_reducible rfl
  try simp only [Act.put, List.setIfInBounds_toArray, List.set_cons_zero, List.set_cons_succ]
  refine ors_pure (v := ?_) (by kernel_rfl) ?_ ?_
  rotate_left
  · intro w' hv; clear hv; go_simp; try with_reducible rfl
  try simp only [Act.put, List.setIfInBounds_toArray, List.set_cons_zero, List.set_cons_succ]
  refine ors_pure (by kernel_rfl) (fun w' hv => load_pc 33 28 elPc (.tmp 10) rfl ad rfl (shaU t10, .slice qv 10 cv, t10) (HCLD.out _ hv)) ?_
  try simp only [Act.put, List.setIfInBounds_toArray, List.set_cons_zero, List.set_cons_succ]
  refine ors_step (by kernel_rfl) (fun K hK => ?_)
  go_wp2_with fail
  refine Calls.mono (pgood_any (shaU t10, .slice qv 10 cv, t10) wd HPBD.out (show (10 : Nat) < 1000000000000 by decide) HLD.out) ?_
  rintro e w2 ⟨rfl, hb⟩
  have HB3 := Lib.hid hb
  clear hb
  rw [t10_good]
  refine hK _ _ ⟨HB3.out, ?_⟩
  clear hK
  try simp only [Act.put, List.setIfInBounds_toArray, List.set_cons_zero, List.set_cons_succ]
  refine ors_pure (v := ?_) (by kernel_rfl) ?_ ?_
  rotate_left
  · intro w' hv; clear hv; go_simp; try with_reducible rfl
  try simp only [Act.put, List.setIfInBounds_toArray, List.set_cons_zero, List.set_cons_succ]
  refine ors_pure (v := ?_) (by kernel_rfl) ?_ ?_
  rotate_left
  · intro w' hv; clear hv; go_simp; try with_reducible rfl
  try simp only [Act.put, List.setIfInBounds_toArray, List.set_cons_zero, List.set_cons_succ]
  refine ors_pure (v := ?_) (by kernel_rfl) ?_ ?_
  rotate_left
  · intro w' hv; clear hv; go_simp; try with_reducible rfl
  try simp only [Act.put, List.setIfInBounds_toArray, List.set_cons_zero, List.set_cons_succ]
  refine ors_pure (v := ?_) (by kernel_rfl) ?_ ?_
  rotate_left
  · intro w' hv; clear hv; go_simp; try with_reducible rfl
  try simp only [Act.put, List.setIfInBounds_toArray, List.set_cons_zero, List.set_cons_succ]
  refine ors_pure (v := ?_) (by kernel_rfl) ?_ ?_
  rotate_left
  · intro w' hv; clear hv; go_simp; try with_reducible rfl
  try simp only [Act.put, List.setIfInBounds_toArray, List.set_cons_zero, List.set_cons_succ]
  refine ors_pure (v := ?_) (by kernel_rfl) ?_ ?_
  rotate_left
  · intro w' hv; have c32 := HC32.out w' hv; clear hv; go_simp; try with_reducible rfl
  try simp only [Act.put, List.setIfInBounds_toArray, List.set_cons_zero, List.set_cons_succ]
  refine ors_pure (v := ?_) (by kernel_rfl) ?_ ?_
  rotate_left
  · intro w' hv; have hst := HSTR.out w' hv; clear hv; go_simp; try with_reducible rfl
  try simp only [Act.put, List.setIfInBounds_toArray, List.set_cons_zero, List.set_cons_succ]
  refine ors_pure (v := ?_) (by kernel_rfl) ?_ ?_
  rotate_left
  · intro w' hv; have ht := t10_list; clear hv; go_simp; try with_reducible rfl
  try simp only [Act.put, List.setIfInBounds_toArray, List.set_cons_zero, List.set_cons_succ]
  refine ors_pure (v := ?_) (by kernel_rfl) ?_ ?_
  rotate_left
  · intro w' hv; clear hv; go_simp; try with_reducible rfl
  try simp only [Act.put, List.setIfInBounds_toArray, List.set_cons_zero, List.set_cons_succ]
  refine ors_pure (v := ?_) (by kernel_rfl) ?_ ?_
  rotate_left
  · intro w' hv; clear hv; go_simp; try with_reducible rfl
  try simp only [Act.put, List.setIfInBounds_toArray, List.set_cons_zero, List.set_cons_succ]
  refine ors_pure (v := ?_) (by kernel_rfl) ?_ ?_
  rotate_left
  · intro w' hv; clear hv; go_simp; try with_reducible rfl
  try simp only [Act.put, List.setIfInBounds_toArray, List.set_cons_zero, List.set_cons_succ]
  refine ors_pure (v := ?_) (by kernel_rfl) ?_ ?_
  rotate_left
  · intro w' hv; clear hv; go_simp; try with_reducible rfl
  try simp only [Act.put, List.setIfInBounds_toArray, List.set_cons_zero, List.set_cons_succ]
  refine ors_pure (v := ?_) (by kernel_rfl) ?_ ?_
  rotate_left
  · intro w' hv; clear hv; go_simp; try with_reducible rfl
  try simp only [Act.put, List.setIfInBounds_toArray, List.set_cons_zero, List.set_cons_succ]
  refine ors_pure (by kernel_rfl) (fun w' hv => load_su 24 (.tmp 25) rfl ad rfl elSum.2.1 szSum (shaU t10) (fun j u hu => HCLD.out _ hv j u (encP_su hu))) ?_
  try simp only [Act.put, List.setIfInBounds_toArray, List.set_cons_zero, List.set_cons_succ]
  refine ors_step (by kernel_rfl) (fun K hK => wp_lit8 10 _ rfl t10v (by decide) (by decide) (by kernel_rfl) (hK _ _ ⟨HB3.out.alloc HB3.out.size _, ?_⟩))
  try simp only [Act.put, List.setIfInBounds_toArray, List.set_cons_zero, List.set_cons_succ]
  refine ors_step (by kernel_rfl) (fun K hK => wp_convk (.tmp 27) rfl t10v 10 10 rfl (hK _ _ ⟨HB3.out.alloc HB3.out.size _, ?_⟩))
  try simp only [Act.put, List.setIfInBounds_toArray, List.set_cons_zero, List.set_cons_succ]
  have HBK : Hid (Bs (w2.alloc (.cells t10v 5 (t10v.size, t10v.size + 1))) (.slice (some ⟨w2.heap.size, 0, none⟩) 10 10) t10) := Lib.hid (bs_litk w2 t10 t10v _ t10_eq 10 rfl)
  replace HB3 := Lib.hid (HB3.out.alloc HB3.out.size (.cells t10v 5 (t10v.size, t10v.size + 1)))
  generalize w2.alloc (.cells t10v 5 (t10v.size, t10v.size + 1)) = w3 at *
  generalize w2.heap.size = g2 at *
  refine ors_step (by kernel_rfl) (fun K hK => wp_one_bs (.tmp 28) rfl (some ⟨g2, 0, none⟩) 10 10 rfl (hK _ _ ⟨HB3.out.alloc HB3.out.size _, ?_⟩))
  try simp only [Act.put, List.setIfInBounds_toArray, List.set_cons_zero, List.set_cons_succ]
  refine ors_step (by kernel_rfl) (fun K hK => ?_)
  go_wp2_with fail
  refine Calls.mono (of_one HBK.out (by decide) (HLD.out.keep HB3.out (Nat.lt_of_lt_of_le HSZ.out HB2.out.size))) ?_
  rintro e w4 ⟨rfl, _, hb⟩
  have HB4 := Lib.hid (HB3.out.trans (hb.mono HB3.out.size))
  clear hb
  refine hK _ _ ⟨HB4.out, ?_⟩
  clear hK
  try simp only [Act.put, List.setIfInBounds_toArray, List.set_cons_zero, List.set_cons_succ]
  refine ors_pure (by kernel_rfl) (fun w' hv => eql_su 24 (.tmp 26) (.tmp 30) _ rfl (shaU t10) (shaU t10) rfl rfl elSum.2.1 gdSumP) ?_
  try simp only [Act.put, List.setIfInBounds_toArray, List.set_cons_zero, List.set_cons_succ]
  simp only [decide_true]
  refine ors_pure (v := ?_) (by kernel_rfl) ?_ ?_
  rotate_left
  · intro w' hv; clear hv; go_simp; try with_reducible rfl
  try simp only [Act.put, List.setIfInBounds_toArray, List.set_cons_zero, List.set_cons_succ]
  refine ors_pure (v := ?_) (by kernel_rfl) ?_ ?_
  rotate_left
  · intro w' hv; clear hv; go_simp; try with_reducible rfl
  try simp only [Act.put, List.setIfInBounds_toArray, List.set_cons_zero]
  refine ors_nil ?_
  go_wp2_with fail
  go_ret
  exact ⟨rfl, HB2.out.trans (HB4.out.mono HB2.out.size)⟩
end Go.Proofs.YthpledfjopbchaaDoor
/- A slice of bytes that came in. No condition. -/
namespace Go.Proofs.YthpledfjopbchaaDoor
open Go.ChangeShapes Go.WideShapes Go.ChangeAt Go.RowKit
theorem cell_lt {w : World} {a : Addr} {v : Value} (h : w.cell? a = some v) : a.block < w.heap.size := by
  rcases Nat.lt_or_ge a.block w.heap.size with hl | hl
  · exact hl
  · unfold World.cell? at h
    rw [Array.getElem?_eq_none hl] at h
    cases h
set_option maxRecDepth 100000 in
theorem open_bytes {H : Type} {enc : TypeId × Value → H} {w : World} {base b0 : Nat} {held : Bool} {r : Reach} {v : Value} {d : DataW H} {ps : List MemPlace}
    (hval : Value.okWide Tryd.prog w r b0 26 v) (h : DataW.Trod enc Tryd.prog w base (fun _ => true) held 26 v d ps) :
    ∃ (b : List (BitVec 8)) (q : Option Addr) (c : Nat), v = .slice q b.length c ∧ b.length ≤ c ∧ (q = none → c = 0) ∧ b.length ≤ maxLen ∧ Sees w w.heap.size q (b.map u8v) := by
  obtain ⟨a0, len0, cap0, rfl⟩ := okWide_slice Tryd.underlying26 hval
  obtain ⟨fuel, hf⟩ := h
  rcases open_ints Tryd.underlying26 Tryd.underlying5 (by kernel_rfl) hf with ⟨hcs, _⟩ | ⟨x, l, c, zs, hcs, _, hl, hm, hz, _, hcell, hwz⟩
  · simp [Value.cells] at hcs
    obtain ⟨rfl, rfl, rfl⟩ := hcs
    exact ⟨[], none, 0, rfl, Nat.le_refl _, fun _ => rfl, by simp, Sees.nil _ _ _⟩
  · simp [Value.cells] at hcs
    obtain ⟨rfl, rfl, rfl⟩ := hcs
    have hz' : zs.length = cap0 := by simpa using hz
    refine ⟨(zs.take len0).map fun n => byteOf (.int .u8 n), some x, cap0, by simp; omega, by simp; omega, fun h => (by cases h), by simp; omega, fun h0 => ?_⟩
    have hp : 0 < zs.length := by simp at h0; omega
    refine ⟨x, rfl, by have := cell_lt (hcell 0 hp); rwa [add_block] at this, fun j u hu => ?_⟩
    have hj : j < len0 := by have := (List.getElem?_eq_some_iff.1 hu).1; simp at this; omega
    rw [hcell j (by omega), ← hu, List.getElem?_map, List.getElem?_map, List.getElem?_take, if_pos hj, List.getElem?_eq_getElem (show j < zs.length by omega)]
    simp [List.getD_eq_getElem?_getD, List.getElem?_eq_getElem (show j < zs.length by omega), u8v_byteOf _ (hwz _ (List.getElem_mem _))]
end Go.Proofs.YthpledfjopbchaaDoor
/- The arguments of the laws on pieces, opened: texts, whole numbers, pieces. No condition. -/
namespace Go.Proofs.YthpledfjopbchaaDoor
open Go.ChangeShapes Go.WideShapes Go.ChangeAt Go.RowKit Go.Deep
theorem cell_ltQ {w : World} {a : Addr} {v : Value} (h : w.cell? a = some v) : a.block < w.heap.size := by
  rcases Nat.lt_or_ge a.block w.heap.size with hl | hl
  · exact hl
  · unfold World.cell? at h
    rw [Array.getElem?_eq_none hl] at h
    cases h
set_option maxRecDepth 100000 in
theorem open_bytesF {H : Type} {enc : TypeId × Value → H} {w : World} {base fuel : Nat} {held : Bool} {v : Value} {y : DataW H × List MemPlace}
    (hf : DataW.trod enc Tryd.prog w base (fun _ => true) held fuel 26 [v] = some y) :
    ∃ b : List (BitVec 8), Bs w v b ∧ b.length ≤ maxLen := by
  rcases open_ints Tryd.underlying26 Tryd.underlying5 (by kernel_rfl) hf with ⟨hcs, _⟩ | ⟨x, l, c, zs, hcs, _, hl, hm, hz, _, hcell, hwz⟩
  · obtain rfl : v = .slice none 0 0 := by simpa using hcs
    exact ⟨[], Bs.nil w, by simp⟩
  · obtain rfl : v = .slice (some x) l c := by simpa using hcs
    have hz' : zs.length = c := by simpa using hz
    have hlen : ((zs.take l).map fun n => byteOf (.int .u8 n)).length = l := by simp; omega
    refine ⟨(zs.take l).map fun n => byteOf (.int .u8 n), ⟨some x, c, by rw [hlen], by omega, fun h => (by cases h), fun h0 => ?_⟩, by omega⟩
    rw [List.length_map, hlen] at h0
    have h00 := hcell 0 (by omega)
    refine ⟨x, rfl, by have := cell_ltQ h00; rwa [add_block] at this, fun j u hu => ?_⟩
    have hj : j < l := by have := (List.getElem?_eq_some_iff.1 hu).1; rw [List.length_map, hlen] at this; exact this
    rw [hcell j (by omega), ← hu, List.getElem?_map, List.getElem?_map, List.getElem?_take, if_pos hj, List.getElem?_eq_getElem (show j < zs.length by omega)]
    simp [List.getD_eq_getElem?_getD, List.getElem?_eq_getElem (show j < zs.length by omega), u8v_byteOf _ (hwz _ (List.getElem_mem _))]
set_option maxRecDepth 100000 in
/-- Texts that came in. -/
theorem open_bytess {H : Type} {enc : TypeId × Value → H} {w : World} {base b0 : Nat} {held : Bool} {r : Reach} {v : Value} {d : DataW H} {ps : List MemPlace}
    (hval : Value.okWide Tryd.prog w r b0 58 v) (h : DataW.Trod enc Tryd.prog w base (fun _ => true) held 58 v d ps) :
    ∃ (L : List (List (BitVec 8))) (q : Option Addr) (c : Nat), v = .slice q L.length c ∧ L.length ≤ c ∧ (q = none → c = 0) ∧ (L.length ≤ maxLen ∧ ∀ x ∈ L, x.length ≤ maxLen) ∧ Ps w (.slice q L.length c) L := by
  obtain ⟨a0, len0, cap0, rfl⟩ := okWide_slice Tryd.underlying58 hval
  obtain ⟨fuel, hf⟩ := h
  rcases open_slice1 Tryd.underlying58 (by kernel_rfl) hf with ⟨hcs, _⟩ | ⟨a, len, cap, m, n, V, D, Pl, hcs, hbk, hl, hm, hmm, hx, hel⟩
  · simp [Value.cells] at hcs
    obtain ⟨rfl, rfl, rfl⟩ := hcs
    exact ⟨[], none, 0, rfl, Nat.le_refl _, fun _ => rfl, ⟨by simp, fun x hx => by cases hx⟩, Ps.nil w⟩
  · simp [Value.cells] at hcs
    obtain ⟨rfl, rfl, rfl⟩ := hcs
    have hmc : m = cap0 := by rw [hmm]; rfl
    have key : ∀ i, i < len0 → ∃ b : List (BitVec 8), Bs w (V i) b ∧ b.length ≤ maxLen := fun i hi => open_bytesF (hel i (by omega)).2
    have ⟨f, hfk⟩ : ∃ f : Nat → List (BitVec 8), ∀ i, i < len0 → Bs w (V i) (f i) ∧ (f i).length ≤ maxLen := by
      refine ⟨fun i => if h : i < len0 then Classical.choose (key i h) else [], fun i hi => ?_⟩
      simp only [dif_pos hi]
      exact Classical.choose_spec (key i hi)
    have hlen : ((List.range len0).map f).length = len0 := by simp
    refine ⟨(List.range len0).map f, some a, cap0, by rw [hlen], by rw [hlen]; omega, fun h => (by cases h), ⟨by rw [hlen]; omega, fun x hx => ?_⟩, some a, cap0, (List.range len0).map V, rfl, fun h0 => ?_, by simp, fun i u x hu hx => ?_⟩
    · obtain ⟨i, hi, rfl⟩ := List.mem_map.1 hx
      exact (hfk i (List.mem_range.1 hi)).2
    · have hp : 0 < len0 := by simpa using h0
      refine ⟨a, rfl, by have := cell_ltQ (hel 0 (by omega)).1; rwa [add_block] at this, fun j u hu => ?_⟩
      have hj : j < len0 := by have := (List.getElem?_eq_some_iff.1 hu).1; simpa using this
      rw [(hel j (by omega)).1, ← hu, List.getElem?_map, List.getElem?_range hj]
      rfl
    · have hi : i < len0 := by have := (List.getElem?_eq_some_iff.1 hu).1; simpa using this
      rw [List.getElem?_map, List.getElem?_range hi] at hu hx
      cases hu
      cases hx
      exact (hfk i hi).1
set_option maxRecDepth 100000 in
/-- Whole numbers that came in. -/
theorem open_nums {H : Type} {enc : TypeId × Value → H} {w : World} {base b0 : Nat} {held : Bool} {r : Reach} {v : Value} {d : DataW H} {ps : List MemPlace}
    (hval : Value.okWide Tryd.prog w r b0 39 v) (h : DataW.Trod enc Tryd.prog w base (fun _ => true) held 39 v d ps) :
    ∃ (L : List Int) (q : Option Addr) (c : Nat), v = .slice q L.length c ∧ L.length ≤ c ∧ (q = none → c = 0) ∧ (L.length ≤ maxLen ∧ ∀ x ∈ L, (Lit.int .i64 x).wf = true) ∧ Sees w w.heap.size q (L.map fun x => Value.int .i64 x) := by
  obtain ⟨a0, len0, cap0, rfl⟩ := okWide_slice Tryd.underlying39 hval
  obtain ⟨fuel, hf⟩ := h
  rcases open_ints Tryd.underlying39 Tryd.underlying3 (by kernel_rfl) hf with ⟨hcs, _⟩ | ⟨x, l, c, zs, hcs, _, hl, hm, hz, _, hcell, hwz⟩
  · simp [Value.cells] at hcs
    obtain ⟨rfl, rfl, rfl⟩ := hcs
    exact ⟨[], none, 0, rfl, Nat.le_refl _, fun _ => rfl, ⟨by simp, fun x hx => by cases hx⟩, Sees.nil _ _ _⟩
  · simp [Value.cells] at hcs
    obtain ⟨rfl, rfl, rfl⟩ := hcs
    have hz' : zs.length = cap0 := by simpa using hz
    have hlen : (zs.take len0).length = len0 := by rw [List.length_take]; omega
    refine ⟨zs.take len0, some x, cap0, by rw [hlen], by rw [hlen]; omega, fun h => (by cases h), ⟨by rw [hlen]; omega, fun y hy => hwz y (List.mem_of_mem_take hy)⟩, fun h0 => ?_⟩
    rw [List.length_map, hlen] at h0
    refine ⟨x, rfl, by have := cell_ltQ (hcell 0 (by omega)); rwa [add_block] at this, fun j u hu => ?_⟩
    have hj : j < len0 := by have := (List.getElem?_eq_some_iff.1 hu).1; rw [List.length_map, hlen] at this; exact this
    rw [hcell j (by omega), ← hu, List.getElem?_map, List.getElem?_take, if_pos hj, List.getElem?_eq_getElem (show j < zs.length by omega)]
    simp [List.getD_eq_getElem?_getD, List.getElem?_eq_getElem (show j < zs.length by omega)]
theorem open_suQ {H : Type} {enc : TypeId × Value → H} {w : World} {base fuel : Nat} {held : Bool} {cs : List Value} {y : DataW H × List MemPlace}
    (hf : DataW.trod enc Tryd.prog w base (fun _ => true) held fuel 24 cs = some y) : ∃ s : Su, cs = encU s := by
  obtain ⟨d, ps⟩ := y
  obtain ⟨xs, m, rfl, _, hlen, hxl, hel⟩ := DataW.trod_array Tryd.underlying24 hf
  have c1 : Tryd.prog.cellsOf 5 = 1 := by kernel_rfl
  have c32 : Tryd.prog.cellsOf 24 = 32 := by kernel_rfl
  have hs : cs.length = 32 := by rw [c32] at hlen; exact hlen
  refine ⟨⟨cs.map byteOf, by simpa using hs⟩, ?_⟩
  show cs = (cs.map byteOf).map u8v
  symm
  apply List.ext_getElem?
  intro i
  rcases Nat.lt_or_ge i 32 with hi | hi
  · have hxi := hel i hi
    rw [c1, List.getElem?_eq_getElem (by omega)] at hxi
    obtain ⟨n, e1, _, e3⟩ := DataW.trod_int Tryd.underlying5 hxi
    have hd : (cs.drop (i * 1)).take 1 = [cs[i]] := by
      rw [Nat.mul_one, List.drop_eq_getElem_cons (by omega)]; rfl
    have e4 : cs[i] = .int .u8 n := by
      rw [hd] at e1
      simpa using e1
    rw [List.getElem?_map, List.getElem?_map, List.getElem?_eq_getElem (by omega), e4]
    simp [u8v_byteOf n e3]
  · rw [List.getElem?_eq_none (by simp; omega), List.getElem?_eq_none (by omega)]
theorem open_pcF {H : Type} {enc : TypeId × Value → H} {w : World} {base fuel : Nat} {held : Bool} {cs : List Value} {y : DataW H × List MemPlace}
    (hf : DataW.trod enc Tryd.prog w base (fun _ => true) held fuel 28 cs = some y) : ∃ p : Pc, cs = encP p ∧ Bs w p.2.1 p.2.2 ∧ p.2.2.length ≤ maxLen := by
  obtain ⟨y0, y1, n, hy, hl, h0, h1⟩ := trod_struct2 Tryd.underlying28 hf
  have c33 : Tryd.prog.cellsOf 28 = 33 := by kernel_rfl
  have c32 : Tryd.prog.cellsOf 24 = 32 := by kernel_rfl
  have c1 : Tryd.prog.cellsOf 26 = 1 := by kernel_rfl
  have hl' : cs.length = 33 := hl.trans c33
  have g0 : DataW.trod enc Tryd.prog w base (fun _ => true) held n 24 (cs.take 32) = some y0 := by simpa [c32] using h0
  have e1 : (cs.drop 32).take 1 = [cs[32]] := by rw [List.drop_eq_getElem_cons (by omega)]; rfl
  have g1 : DataW.trod enc Tryd.prog w base (fun _ => true) held n 26 [cs[32]] = some y1 := by rw [← e1]; simpa [c1] using h1
  obtain ⟨s, hs⟩ := open_suQ g0
  obtain ⟨b, hb, hbl⟩ := open_bytesF g1
  refine ⟨(s, cs[32], b), ?_, hb, hbl⟩
  unfold encP
  rw [← hs]
  have : cs = cs.take 32 ++ cs.drop 32 := (List.take_append_drop 32 cs).symm
  have e2 : cs.drop 32 = [cs[32]] := by
    rw [List.drop_eq_getElem_cons (by omega), List.drop_eq_nil_of_le (by omega)]
  rw [e2] at this
  exact this
set_option maxRecDepth 100000 in
/-- Pieces that came in. -/
theorem open_pcs {H : Type} {enc : TypeId × Value → H} {w : World} {base b0 : Nat} {held : Bool} {r : Reach} {v : Value} {d : DataW H} {ps : List MemPlace}
    (hval : Value.okWide Tryd.prog w r b0 33 v) (h : DataW.Trod enc Tryd.prog w base (fun _ => true) held 33 v d ps) :
    ∃ (L : List Pc) (q : Option Addr) (c : Nat), v = .slice q L.length c ∧ L.length ≤ c ∧ (q = none → c = 0) ∧ (L.length ≤ maxLen ∧ ∀ p ∈ L, p.2.2.length ≤ maxLen) ∧ Sees w w.heap.size q (rowP L) ∧ Pcb w L := by
  obtain ⟨a0, len0, cap0, rfl⟩ := okWide_slice Tryd.underlying33 hval
  obtain ⟨fuel, hf⟩ := h
  have hc : Tryd.prog.cellsOf 28 = 33 := by kernel_rfl
  rcases open_slice Tryd.underlying33 hf with ⟨hcs, _⟩ | ⟨a, len, cap, m, n, D, Pl, hcs, hbk, hl, hm, hmm, hx, hel⟩
  · simp [Value.cells] at hcs
    obtain ⟨rfl, rfl, rfl⟩ := hcs
    exact ⟨[], none, 0, rfl, Nat.le_refl _, fun _ => rfl, ⟨by simp, fun x hx => by cases hx⟩, Sees.nil _ _ _, fun x hx => by cases hx⟩
  · simp [Value.cells] at hcs
    obtain ⟨rfl, rfl, rfl⟩ := hcs
    have hmc : m = cap0 := by rw [hmm]; rfl
    have key : ∀ i, i < len0 → ∃ s : Pc, (∀ j, j < 33 → w.cell? (a.add (i * 33 + j)) = (encP s)[j]?) ∧ Bs w s.2.1 s.2.2 ∧ s.2.2.length ≤ maxLen := fun i hi => by
      obtain ⟨cs', h1, h2⟩ := hel i (by omega)
      obtain ⟨s, rfl, hb⟩ := open_pcF h2
      rw [hc] at h1
      obtain ⟨_, _, h5⟩ := World.cells?_some h1
      exact ⟨s, fun j hj => by rw [← add_add]; exact h5 j hj, hb⟩
    have ⟨f, hfk⟩ : ∃ f : Nat → Pc, ∀ i, i < len0 → (∀ j, j < 33 → w.cell? (a.add (i * 33 + j)) = (encP (f i))[j]?) ∧ Bs w (f i).2.1 (f i).2.2 ∧ (f i).2.2.length ≤ maxLen := by
      refine ⟨fun i => if h : i < len0 then Classical.choose (key i h) else (default, .slice none 0 0, []), fun i hi => ?_⟩
      simp only [dif_pos hi]
      exact Classical.choose_spec (key i hi)
    have hlen : ((List.range len0).map f).length = len0 := by simp
    have hmem : ∀ e ∈ (List.range len0).map f, ∃ i, i < len0 ∧ e = f i := fun e he => by
      obtain ⟨i, hi, rfl⟩ := List.mem_map.1 he
      exact ⟨i, List.mem_range.1 hi, rfl⟩
    refine ⟨(List.range len0).map f, some a, cap0, by rw [hlen], by rw [hlen]; omega, fun h => (by cases h), ⟨by rw [hlen]; omega, fun p hp => ?_⟩, fun h0 => ?_, fun p hp => ?_⟩
    · obtain ⟨i, hi, rfl⟩ := hmem p hp
      exact (hfk i hi).2.2
    · rw [rowP_len, hlen] at h0
      have hp : 0 < len0 := by omega
      have e0 : (encP (f 0))[0]? = some ((encP (f 0))[0]'(by rw [encP_len]; decide)) := List.getElem?_eq_getElem _
      have hc0 := (hfk 0 hp).1 0 (by decide)
      rw [e0] at hc0
      refine ⟨a, rfl, by have := cell_ltQ hc0; rwa [add_block] at this, fun j u hu => ?_⟩
      have hj := (List.getElem?_eq_some_iff.1 hu).1
      rw [rowP_len, hlen] at hj
      have hi : j / 33 < len0 := by omega
      have hg : ((List.range len0).map f)[j / 33]'(by rw [hlen]; exact hi) = f (j / 33) := by simp
      have h1 := rowP_get ((List.range len0).map f) (j / 33) (by rw [hlen]; exact hi) (j % 33) (Nat.mod_lt _ (by decide))
      rw [hg, show j / 33 * 33 + j % 33 = j by omega] at h1
      have h2 := (hfk (j / 33) hi).1 (j % 33) (Nat.mod_lt _ (by decide))
      rw [show j / 33 * 33 + j % 33 = j by omega] at h2
      rw [h2, ← h1, hu]
    · obtain ⟨i, hi, rfl⟩ := hmem p hp
      exact (hfk i hi).2.1
end Go.Proofs.YthpledfjopbchaaDoor
