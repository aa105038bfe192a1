/- Operations for such walks that make or write memory: literals of bytes and of slices, conversions, boxes laid, stores; the last operations one by one. No condition. -/
import Derived.Test.YtnkcehmgagpadaaDoorFop
import Derived.Test.YtnkcehmgagpadaaDoorGp19
import Derived.Test.YtnkcehmgagpadaaDoorUn
import Derived.Test.YtnkcehmgagpadaaDoorLaid
namespace Go.Proofs.YtnkcehmgagpadaaDoor
open Go.RowKit
theorem Has.keepB {w w' : World} {g : Nat} {t : TypeId} {l : List Value} (h : Has w g t l) (hb : Below w.heap.size w w') : Has w' g t l := (hb.block g h.lt).trans h
/-- Memory has grown; what is frozen in a block of bytes may have changed. -/
def Flz (w w' : World) : Prop := w.heap.size ≤ w'.heap.size ∧ (∀ (k : Nat) (cs : Array Value) (t : TypeId), w.heap[k]? = some (Obj.cells cs t) → t ≠ 5 → w'.heap[k]? = some (Obj.cells cs t)) ∧
  ∀ (k : Nat) (cs : Array Value) (t : TypeId) (f : Nat × Nat), w.heap[k]? = some (Obj.cells cs t f) → ∃ f', w'.heap[k]? = some (Obj.cells cs t f')
theorem Flz.refl (w : World) : Flz w w := ⟨Nat.le_refl _, fun _ _ _ h _ => h, fun _ _ _ f h => ⟨f, h⟩⟩
theorem Flz.of {w w' : World} (h : Below w.heap.size w w') : Flz w w' := ⟨h.size, fun k _ _ hk _ => (h.block k (Array.getElem?_eq_some_iff.1 hk).1).trans hk, fun k _ _ f hk => ⟨f, (h.block k (Array.getElem?_eq_some_iff.1 hk).1).trans hk⟩⟩
theorem Flz.al (w : World) (o : Obj) : Flz w (w.alloc o) := Flz.of ((Below.refl w.heap.size w).alloc (Nat.le_refl _) o)
/-- Block g holds these cells. -/
def Cl (w : World) (g : Nat) (t : TypeId) (l : List Value) : Prop := ∃ f, w.heap[g]? = some (.cells l.toArray t f)
theorem Cl.flz {w w' : World} {g : Nat} {t : TypeId} {l : List Value} (h : Cl w g t l) (he : Flz w w') : Cl w' g t l := by
  obtain ⟨f, h⟩ := h
  exact he.2.2 _ _ _ _ h
theorem Has.flz {w w' : World} {g : Nat} {t : TypeId} {l : List Value} (h : Has w g t l) (he : Flz w w') (ht : t ≠ 5) : Has w' g t l := he.2.1 _ _ _ h ht
theorem Cl.lt {w : World} {g : Nat} {t : TypeId} {l : List Value} (h : Cl w g t l) : g < w.heap.size := by
  obtain ⟨f, h⟩ := h
  exact (Array.getElem?_eq_some_iff.1 h).1
theorem Cl.cell {w : World} {g : Nat} {t : TypeId} {l : List Value} (h : Cl w g t l) (i : Nat) : w.cell? ⟨g, i, none⟩ = l[i]? := by
  obtain ⟨f, h⟩ := h
  rw [cell_of_row w g i l.toArray t f h]; simp
theorem Cl.sees {w : World} {g : Nat} {t : TypeId} {l : List Value} (h : Cl w g t l) : Sees w w.heap.size (some ⟨g, 0, none⟩) l := fun _ =>
  ⟨⟨g, 0, none⟩, rfl, h.lt, fun j u hu => by rw [add_lit', Nat.zero_add]; exact (h.cell j).trans hu⟩
theorem Cl.made (w : World) (t : TypeId) (l : List Value) : Cl (w.alloc (.cells l.toArray t)) w.heap.size t l := ⟨(0, 0), heap_alloc_new _ _⟩
theorem Has.cl {w : World} {g : Nat} {t : TypeId} {l : List Value} (h : Has w g t l) : Cl w g t l := ⟨(0, 0), h⟩
theorem freeze_flz {b g n : Nat} {w : World} {l : List Value} (hc : Cl w g 5 l) (hb : b ≤ g) : Flz w (w.freeze ⟨g, n, none⟩ 1) ∧ Below b w (w.freeze ⟨g, n, none⟩ 1) := by
  unfold World.freeze
  rw [if_neg (by decide)]
  refine ⟨⟨by simp, fun k cs t hk ht => ?_, fun k cs t f hk => ?_⟩, rfl, rfl, rfl, by simp, fun k hk => ?_⟩
  · simp only [Array.getElem?_modify]
    by_cases h : g = k
    · subst h
      obtain ⟨f, hf⟩ := hc
      rw [hf] at hk
      have := Option.some.inj hk
      injection this with _ h2 _
      exact absurd h2.symm ht
    · rw [if_neg h]; exact hk
  · simp only [Array.getElem?_modify]
    by_cases h : g = k
    · rw [if_pos h, hk]; exact ⟨_, rfl⟩
    · rw [if_neg h]; exact ⟨f, hk⟩
  · simp only [Array.getElem?_modify]
    rw [if_neg (by omega)]
theorem conv_at {w : World} {g : Nat} {l : List Value} (h : Cl w g 5 l) (n c : Nat) :
    (convert 45 45 (.slice (some ⟨g, 0, none⟩) n c)).run Tryd.prog w = .ok (.slice (some ⟨g, 0, none⟩) n c) (w.freeze ⟨g, l.length, none⟩ 1) := by
  have hsh : w.shape? g = some (5, l.length) := by
    obtain ⟨f, h⟩ := h
    unfold World.shape?
    rw [h]; simp
  simp [convert, run_underlying Tryd.underlying45, run_underlying Tryd.underlying5, markStringish, hsh]
theorem u8_infoF : (Tryd.prog.info? 5).map (fun i => (i.zero, i.size, i.bytes)) = some (some (.int .u8 0), 1, 1) := by kernel_rfl
theorem slT_infoF : (Tryd.prog.info? 45).map (fun i => (i.zero, i.size, i.bytes)) = some (some (.slice none 0 0), 1, 24) := by kernel_rfl
section
variable {o : Oper} {a : Act} {w : World} {Q : Exit → Act → World → Prop} {K : Act → World → Prop}
theorem wp_conv_at (x : Operand) (ho : o.op = .convert 45 45 x) (g n c : Nat) (l : List Value) (hx : a.eval x = .slice (some ⟨g, 0, none⟩) n c) (hc : Cl w g 5 l)
    (h : K (a.put o.dst (.slice (some ⟨g, 0, none⟩) n c)) (w.freeze ⟨g, l.length, none⟩ 1)) : o.wp Tryd.prog a w K Q := by
  unfold Oper.wp execOp
  simp only [ho, hx, Sem.run_bind, conv_at hc n c, Result.andThen_ok]
  exact h
/-- Bytes' literal. -/
theorem wp_lit8 (n : Nat) (parts : Array (Nat × Operand)) (ho : o.op = .buildSlice 45 n parts) (cs : Array Value) (h0 : n ≠ 0) (h9 : n ≤ 16777216)
    (hf : Instr.fill (fun i => some (i * 1, 1)) ((Array.range (n * 1)).map ((Value.int .u8 0).cells[· % (Value.int .u8 0).cells.size]!)) (parts.map fun (i, x) => (i, a.eval x)).toList = some cs)
    (h : K (a.put o.dst (.slice (some ⟨w.heap.size, 0, none⟩) n n)) (w.alloc (.cells cs 5))) : o.wp Tryd.prog a w K Q := by
  obtain ⟨i8x, hi8, hz8, hs8, _⟩ := info_parts u8_infoF
  refine wp_buildSlice 45 5 n parts ho cs i8x _ Tryd.underlying45 hi8 hz8 (by rw [hs8]; omega) (by rw [hs8]; omega) ?_ h
  rw [hs8]; exact hf
/-- A row of one, of two slices of bytes. -/
theorem wp_one_bs (x : Operand) (ho : o.op = .buildSlice 74 1 #[(0, x)]) (q : Option Addr) (n c : Nat) (hx : a.eval x = .slice q n c)
    (h : K (a.put o.dst (.slice (some ⟨w.heap.size, 0, none⟩) 1 1)) (w.alloc (.cells #[.slice q n c] 45))) : o.wp Tryd.prog a w K Q := by
  obtain ⟨i0, hi, hz0, hz1, hz2⟩ := info_parts slT_infoF
  refine wp_buildSlice 74 45 1 _ ho #[.slice q n c] i0 _ Tryd.underlying74 hi hz0 (by rw [hz1]; omega) (by rw [hz1]; omega) ?_ h
  rw [hz1]
  simp only [List.map_toArray, List.map_cons, List.map_nil, hx]
  kernel_rfl
theorem wp_two_bs (x y : Operand) (ho : o.op = .buildSlice 74 2 #[(0, x), (1, y)]) (qu : Option Addr) (nu cu : Nat) (qv : Option Addr) (nv cv : Nat) (hx : a.eval x = .slice qu nu cu) (hy : a.eval y = .slice qv nv cv)
    (h : K (a.put o.dst (.slice (some ⟨w.heap.size, 0, none⟩) 2 2)) (w.alloc (.cells #[.slice qu nu cu, .slice qv nv cv] 45))) : o.wp Tryd.prog a w K Q := by
  obtain ⟨i0, hi, hz0, hz1, hz2⟩ := info_parts slT_infoF
  refine wp_buildSlice 74 45 2 _ ho #[.slice qu nu cu, .slice qv nv cv] i0 _ Tryd.underlying74 hi hz0 (by rw [hz1]; omega) (by rw [hz1]; omega) ?_ h
  rw [hz1]
  simp only [List.map_toArray, List.map_cons, List.map_nil, hx, hy]
  kernel_rfl
/-- All of a box of thirty-two bytes, as a slice. -/
theorem ex_sliceU {ev : Operand → Value} (x : Operand) (ho : o.op = .slice 42 x none none none) (g : Nat) (hx : ev x = .pointer (some ⟨g, 0, none⟩)) : (execOp ev o).run Tryd.prog w = .ok (.value (.slice (some ⟨g, 0, none⟩) 32 32)) w := by
  unfold execOp; simp only [ho, hx]; kernel_rfl
/-- A box is laid. -/
theorem wp_alloc_row (T : TypeId) (ho : o.op = .alloc T) (v : Value) (hz : ∀ w, (zeroValue T).run Tryd.prog w = .ok v w) (h : K (a.put o.dst (.pointer (some ⟨w.heap.size, 0, none⟩))) (w.alloc (.cells v.cells T))) : o.wp Tryd.prog a w K Q := by
  unfold Oper.wp execOp
  simp [ho, Instr.alloc, hz w, newVar, newRow, Result.andThen]
  exact h
theorem wp_box_row (T : TypeId) (x : Operand) (ho : o.op = .box T x) (v : Value) (hx : a.eval x = v) (h : K (a.put o.dst (.pointer (some ⟨w.heap.size, 0, none⟩))) (w.alloc (.cells v.cells T))) : o.wp Tryd.prog a w K Q := by
  unfold Oper.wp execOp
  simp [ho, hx, Result.andThen]
  exact h
end
section
variable {P : Program} {lo : List Oper} {Q : Exit → Act → World → Prop} {a : Act} {w : World} {m j : Nat} {o : Oper}
theorem tl_step (ho : lo[j]? = some o) (hw : Region.wanted o (yielded lo.toArray a.tmps) = true) (h : ∀ K : Act → World → Prop, (∀ a w, wpTail P lo.toArray Q m (j + 1) a w → K a w) → o.wp P a w K Q) : wpTail P lo.toArray Q (m + 1) j a w :=
  wpOp_step ho hw h
theorem tl_pure (ho : lo[j]? = some o) (hw : Region.wanted o (yielded lo.toArray a.tmps) = true) (v : Value) (hr : (execOp a.eval o).run P w = .ok (.value v) w) (h : wpTail P lo.toArray Q m (j + 1) (a.put o.dst v) w) : wpTail P lo.toArray Q (m + 1) j a w :=
  wpOp_step ho hw fun K hK => by
    unfold Oper.wp
    rw [hr]
    exact hK _ _ h
theorem tl_nil (h : Q .normal a w) : wpTail P lo.toArray Q 0 j a w := h
theorem tl_nilN (h : Q .normal a w) : wpTail P lo.toArray (NoPanic Q) 0 j a w := h
end
theorem tl_store {lo : List Oper} {Q : Exit → Act → World → Prop} {a : Act} {w : World} {m j : Nat} {o : Oper} (ho : lo[j]? = some o) (hw : Region.wanted o (yielded lo.toArray a.tmps) = true) (T : TypeId) (x y : Operand) (hop : o.op = .store T x y) (g : Nat) (l old : List Value) (hx : a.eval x = .pointer (some ⟨g, 0, none⟩)) (hy : a.eval y = .agg l.toArray)
    (T' : TypeId) (hh : Has w g T' old) (hi : (Tryd.prog.info? T).map (·.size) = some l.length) (hs : old.length = l.length) (h1 : l.toArray.all (·.oneCell') = true)
    (h : ∀ w', Has w' g T' l → (∀ b, b ≤ g → Below b w w') → (∀ k, k ≠ g → w'.heap[k]? = w.heap[k]?) → wpTail Tryd.prog lo.toArray Q m (j + 1) (a.put o.dst undef) w') : wpTail Tryd.prog lo.toArray Q (m + 1) j a w :=
  tl_step ho hw fun K hK => wp_store_row T x y hop g l.toArray hx hy T' old.toArray hh (by rw [hi, List.size_toArray]) (by rw [List.size_toArray, List.size_toArray]; exact hs) h1
    (hK _ _ (h _ (hh.rowl _) (fun _ hb => below_row (Below.refl _ _) hb _) (fun k hk => setRow_other w g k _ hk)))
/-- Memory has grown; blocks of one type may have come to hold one row, and hold it then for good. -/
def Flf (T : TypeId) (l : List Value) (w w' : World) : Prop := w.heap.size ≤ w'.heap.size ∧ ∀ (k : Nat) (m : List Value) (t : TypeId), Has w k t m → (t = T → m.length = l.length → ∃ m', Has w' k t m' ∧ m'.length = l.length ∧ (m = l → m' = l)) ∧ ((t ≠ T ∨ m.length ≠ l.length) → Has w' k t m)
theorem Flf.of {T : TypeId} {l : List Value} {w w' : World} (h : Below w.heap.size w w') : Flf T l w w' := ⟨h.size, fun _ m _ hm => ⟨fun _ hl => ⟨m, hm.keepB h, hl, fun e => e⟩, fun _ => hm.keepB h⟩⟩
theorem Flf.refl {T : TypeId} {l : List Value} (w : World) : Flf T l w w := Flf.of (Below.refl _ _)
theorem Flf.al {T : TypeId} {l : List Value} (w : World) (o : Obj) : Flf T l w (w.alloc o) := Flf.of ((Below.refl w.heap.size w).alloc (Nat.le_refl _) o)
theorem Flf.store {T : TypeId} {l : List Value} {w : World} {g : Nat} {old : List Value} (h : Has w g T old) (ho : old.length = l.length) : Flf T l w (w.setRow g l.toArray) := by
  refine ⟨(below_row (Below.refl 0 w) (Nat.zero_le _) _).size, fun k m t hm => ?_⟩
  by_cases hk : k = g
  · subst hk
    have he := Option.some.inj (h.symm.trans hm)
    injection he with h1 h2 _
    subst h2
    have hml : old = m := by simpa using congrArg Array.toList h1
    subst hml
    exact ⟨fun _ _ => ⟨l, hm.rowl _, rfl, fun _ => rfl⟩, fun hn => by rcases hn with hn | hn <;> exact absurd (by first | rfl | exact ho) hn⟩
  · have h1 : Has (w.setRow g l.toArray) k t m := (setRow_other w g k _ hk).trans hm
    exact ⟨fun _ hl => ⟨m, h1, hl, fun e => e⟩, fun _ => h1⟩
def Fct.held (T : TypeId) (l : List Value) (j b : Nat) : Fct (Flf T l) := ⟨([j], fun f w => ∃ g, f j = .pointer (some ⟨g, 0, none⟩) ∧ b ≤ g ∧ Has w g T l), fun _ f' _ w' ⟨g, h1, h2, h3⟩ he hd => by
  obtain ⟨m', h5, _, h7⟩ := (he.2 g l T h3).1 rfl rfl
  rw [h7 rfl] at h5
  exact (⟨g, (hd j List.mem_cons_self).trans h1, h2, h5⟩ : ∃ g, f' j = .pointer (some ⟨g, 0, none⟩) ∧ b ≤ g ∧ Has w' g T l)⟩
theorem updF_ne (f : Nat → Value) {j i : Nat} (v : Value) (h : i ≠ j) : updF f j v i = f i := by unfold updF; rw [if_neg h]
/-- The sum of a text. -/
def shaU (x : List (BitVec 8)) : Su := ⟨sha x, sha_length _⟩
theorem of_at {w : World} {g : Nat} {v : Value} {x : List (BitVec 8)} (hc : Cl w g 45 [v]) (q : Option Addr) (c : Nat) (hv : v = .slice q x.length c) (hxc : x.length ≤ c) (hs : Sees w w.heap.size q (x.map u8v)) (hx : x.length ≤ 1000000) (hL : Laid w) :
    Calls Tryd.prog 15 #[.slice (some ⟨g, 0, none⟩) 1 1] w fun e w' => (∃ v, e = .returned v ∧ v = .agg (encU (shaU x)).toArray) ∧ Below w.heap.size w w' := by
  subst hv
  have hP : Parts w w.heap.size (some ⟨g, 0, none⟩) [x] := fun i hi => by
    obtain rfl : i = 0 := by simpa using hi
    exact ⟨⟨g, 0, none⟩, q, c, rfl, hc.lt, by rw [add_lit', Nat.zero_add]; exact hc.cell 0, hxc, hs⟩
  have h := of_any [x] _ 1 _ hP (by simp) (by simp; omega) hL
  refine Calls.mono h ?_
  rintro e w' ⟨rfl, h2⟩
  have e : ([x] : List (List (BitVec 8))).flatten = x := by simp
  rw [e]
  exact ⟨⟨_, rfl, rfl⟩, h2⟩
theorem of_at2 {w : World} {g : Nat} {u v : Value} {x y : List (BitVec 8)} (hc : Cl w g 45 [u, v]) (q : Option Addr) (c : Nat) (hu : u = .slice q x.length c) (hxc : x.length ≤ c) (hs : Sees w w.heap.size q (x.map u8v))
    (p : Option Addr) (d : Nat) (hv : v = .slice p y.length d) (hyd : y.length ≤ d) (ht : Sees w w.heap.size p (y.map u8v)) (hx : x.length + y.length ≤ 1000000) (hL : Laid w) :
    Calls Tryd.prog 15 #[.slice (some ⟨g, 0, none⟩) 2 2] w fun e w' => (∃ v, e = .returned v ∧ v = .agg (encU (shaU (x ++ y))).toArray) ∧ Below w.heap.size w w' := by
  subst hu hv
  have hP : Parts w w.heap.size (some ⟨g, 0, none⟩) [x, y] := fun i hi => by
    match i, hi with
    | 0, _ => exact ⟨⟨g, 0, none⟩, q, c, rfl, hc.lt, by rw [add_lit', Nat.zero_add]; exact hc.cell 0, hxc, hs⟩
    | 1, _ => exact ⟨⟨g, 0, none⟩, p, d, rfl, hc.lt, by rw [add_lit', Nat.zero_add]; exact hc.cell 1, hyd, ht⟩
    | n + 2, h => exact absurd h (by simp)
  have h := of_any [x, y] _ 2 _ hP (by simp) (by simp; omega) hL
  refine Calls.mono h ?_
  rintro e w' ⟨rfl, h2⟩
  have e : ([x, y] : List (List (BitVec 8))).flatten = x ++ y := by simp
  rw [e]
  exact ⟨⟨_, rfl, rfl⟩, h2⟩
theorem Has.apartT {w : World} {g k : Nat} {t s : TypeId} {l m : List Value} (h : Has w g t l) (h' : Has w k s m) (hne : t ≠ s) : g ≠ k := fun e => by
  subst e
  have h1 := Option.some.inj (h.symm.trans h')
  injection h1 with _ h2 _
  exact hne h2
end Go.Proofs.YtnkcehmgagpadaaDoor
