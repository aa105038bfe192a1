/- Cells: a count, a key, a check: their sixty-five values in memory, equality, parts. No condition. -/
import Derived.Test.YtnkcehmgagpadaaDoorFop
import Derived.Test.YtnkcehmgagpadaaDoorGp23
import Derived.Test.YtnkcehmgagpadaaDoorUp
import Derived.Test.YtnkcehmgagpadaaDoorSq
import Derived.Test.YtnkcehmgagpadaaDoorFob
namespace Go.Proofs.YtnkcehmgagpadaaDoor
open Go.RowKit
/-- A cell: its count, its key, its check. -/
abbrev Ce := Int × Su × Su
def encC (c : Ce) : List Value := .int .i64 c.1 :: (encU c.2.1 ++ encU c.2.2)
theorem encC_len (c : Ce) : (encC c).length = 65 := by unfold encC; rw [List.length_cons, List.length_append, encU_len, encU_len]
theorem encC_ones (c : Ce) : (encC c).toArray.all (·.oneCell') = true := one32 _ fun v hv => by
  rcases List.mem_cons.1 hv with rfl | h
  · rfl
  · rcases List.mem_append.1 h with h | h
    · exact encU_one _ v h
    · exact encU_one _ v h
def aggC (c : Ce) : Value := .agg (encC c).toArray
theorem encC_0 (c : Ce) : (encC c)[0]? = some (.int .i64 c.1) := rfl
theorem encC_key (c : Ce) : ∀ (j : Nat) (u : Value), (encU c.2.1)[j]? = some u → (encC c)[1 + j]? = some u := fun j u hu => by
  have hj := (List.getElem?_eq_some_iff.1 hu).1
  unfold encC
  rw [Nat.add_comm, List.getElem?_cons_succ, List.getElem?_append_left hj]
  exact hu
theorem encC_chk (c : Ce) : ∀ (j : Nat) (u : Value), (encU c.2.2)[j]? = some u → (encC c)[33 + j]? = some u := fun j u hu => by
  unfold encC
  rw [show 33 + j = (32 + j) + 1 by omega, List.getElem?_cons_succ, List.getElem?_append_right (by rw [encU_len]; omega), encU_len, show 32 + j - 32 = j by omega]
  exact hu
theorem encC_all (c : Ce) : ∀ (j : Nat) (u : Value), (encC c)[j]? = some u → (encC c)[0 + j]? = some u := fun j u hu => by rw [Nat.zero_add]; exact hu
theorem encU_all' (s : Su) : ∀ (j : Nat) (u : Value), (encU s)[j]? = some u → (encU s)[0 + j]? = some u := fun j u hu => by rw [Nat.zero_add]; exact hu
/-- The sum of nothing but noughts. -/
def zS : Su := ⟨zero32, rfl⟩
def zC : Ce := (0, zS, zS)
set_option maxRecDepth 100000 in
theorem builtC3 (n : Int) (k c : Su) : Tryd.prog.built 47 [(0, .int .i64 n), (1, .agg (encU k).toArray), (2, .agg (encU c).toArray)] = some (encC (n, k, c)).toArray := by
  obtain ⟨k, hk⟩ := k
  obtain ⟨c, hc⟩ := c
  unfold encC encU
  match k, hk with
  | [a0, a1, a2, a3, a4, a5, a6, a7, a8, a9, b0, b1, b2, b3, b4, b5, b6, b7, b8, b9, c0, c1, c2, c3, c4, c5, c6, c7, c8, c9, d0, d1], _ =>
    match c, hc with
    | [e0, e1, e2, e3, e4, e5, e6, e7, e8, e9, f0, f1, f2, f3, f4, f5, f6, f7, f8, f9, g0, g1, g2, g3, g4, g5, g6, g7, g8, g9, h0, h1], _ => show _ = _; kernel_rfl
theorem builtC1 (n : Int) : Tryd.prog.built 47 [(0, .int .i64 n)] = some (encC (n, zS, zS)).toArray := by kernel_rfl
theorem builtC0 : Tryd.prog.built 47 [] = some (encC zC).toArray := by kernel_rfl
theorem eqIn9_su (E : TypeId) (hu : Tryd.prog.underlying E = some (.array 32 5)) (s t : Su) (w : World) : (Op.equalIn 9999 E (.agg (encU s).toArray) (.agg (encU t).toArray)).run Tryd.prog w = .ok (decide (s = t)) w := by
  have e : decide (s.1 = t.1) = decide (s = t) := by
    by_cases hst : s = t
    · subst hst; simp
    · rw [decide_eq_false hst, decide_eq_false (fun h => hst (Subtype.ext h))]
  have hs : s.1.length = 32 := s.2
  have ht : t.1.length = 32 := t.2
  unfold encU
  rw [u8v_cellU, u8v_cellU, run_equalIn_bytes w 9997 E 5 32 hu Tryd.underlying5 u8_sizeU _ _ (by simpa using hs) (by simpa using ht), beq_bytesU, e]

theorem fieldsC : Tryd.prog.underlying 47 = some (.struct (Tryd.prog.fieldsOf 47)) := by kernel_rfl
theorem flistC : ((Tryd.prog.fieldsOf 47).toList.map fun f => (f.name != "_", f.type, f.offset)) = [(true, 2, 0), (true, 42, 1), (true, 42, 33)] := by kernel_rfl
theorem heldC : Tryd.prog.stoodInHeld 47 = false := by kernel_rfl
theorem gdC : Tryd.prog.eqGuardType Tryd.prog.depth 47 = false := by kernel_rfl
set_option maxRecDepth 100000 in
theorem partkC (n : Int) (k c : Su) (w : World) : (part 42 (encC (n, k, c)).toArray 1).run Tryd.prog w = .ok (.agg (encU k).toArray) w := by
  obtain ⟨k, hk⟩ := k
  obtain ⟨c, hc⟩ := c
  unfold encC encU
  match k, hk with
  | [a0, a1, a2, a3, a4, a5, a6, a7, a8, a9, b0, b1, b2, b3, b4, b5, b6, b7, b8, b9, c0, c1, c2, c3, c4, c5, c6, c7, c8, c9, d0, d1], _ =>
    match c, hc with
    | [e0, e1, e2, e3, e4, e5, e6, e7, e8, e9, f0, f1, f2, f3, f4, f5, f6, f7, f8, f9, g0, g1, g2, g3, g4, g5, g6, g7, g8, g9, h0, h1], _ => show _ = _; kernel_rfl
set_option maxRecDepth 100000 in
theorem partcC (n : Int) (k c : Su) (w : World) : (part 42 (encC (n, k, c)).toArray 33).run Tryd.prog w = .ok (.agg (encU c).toArray) w := by
  obtain ⟨k, hk⟩ := k
  obtain ⟨c, hc⟩ := c
  unfold encC encU
  match k, hk with
  | [a0, a1, a2, a3, a4, a5, a6, a7, a8, a9, b0, b1, b2, b3, b4, b5, b6, b7, b8, b9, c0, c1, c2, c3, c4, c5, c6, c7, c8, c9, d0, d1], _ =>
    match c, hc with
    | [e0, e1, e2, e3, e4, e5, e6, e7, e8, e9, f0, f1, f2, f3, f4, f5, f6, f7, f8, f9, g0, g1, g2, g3, g4, g5, g6, g7, g8, g9, h0, h1], _ => show _ = _; kernel_rfl
theorem eqInC (c d : Ce) (w : World) : (Op.equalIn 10000 47 (aggC c) (aggC d)).run Tryd.prog w = .ok (decide (c = d)) w := by
  obtain ⟨n, k, c⟩ := c
  obtain ⟨m, l, d⟩ := d
  unfold aggC
  rw [run_equalIn_struct w 9999 47 _ _ fieldsC heldC]
  have hl := flistC
  revert hl
  generalize (Tryd.prog.fieldsOf 47).toList = fs
  intro hl
  obtain ⟨f0, f1, f2, rfl⟩ : ∃ a b c, fs = [a, b, c] := by
    have hlen : fs.length = 3 := by simpa using congrArg List.length hl
    match fs, hlen with
    | [a, b, c], _ => exact ⟨a, b, c, rfl⟩
  simp only [List.map_cons, List.map_nil, List.cons.injEq, Prod.mk.injEq, bne_iff_ne, and_true] at hl
  obtain ⟨⟨a1, a2, a3⟩, ⟨b1, b2, b3⟩, c1, c2, c3⟩ := hl
  have p0 : ∀ (x : Ce) (w : World), (part 2 (encC x).toArray 0).run Tryd.prog w = .ok (.int .i64 x.1) w := fun x w => by
    unfold part
    simp [Sem.run_bind, encC]
  have pk : ∀ (x : Ce) (w : World), (part 42 (encC x).toArray 1).run Tryd.prog w = .ok (.agg (encU x.2.1).toArray) w := fun x w => partkC x.1 x.2.1 x.2.2 w
  have pc : ∀ (x : Ce) (w : World), (part 42 (encC x).toArray 33).run Tryd.prog w = .ok (.agg (encU x.2.2).toArray) w := fun x w => partcC x.1 x.2.1 x.2.2 w
  have i0 : ∀ (a b : Int) (w : World), (Op.equalIn 9999 2 (.int .i64 a) (.int .i64 b)).run Tryd.prog w = .ok (a == b) w := fun a b w => run_equalIn_int w 9998 2 .i64 .i64 a b Tryd.underlying2
  have is : ∀ (x y : Su) (w : World), (Op.equalIn 9999 42 (.agg (encU x).toArray) (.agg (encU y).toArray)).run Tryd.prog w = .ok (decide (x = y)) w := fun x y w => eqIn9_su 42 Tryd.underlying42 x y w
  simp only [Op.eqFields, ne_eq, a1, b1, c1, a2, a3, b2, b3, c2, c3, not_false_eq_true, if_true, Sem.run_bind, p0, i0, Result.andThen_ok]
  by_cases h1 : n = m
  · subst h1
    by_cases h2 : k = l
    · subst h2
      by_cases h3 : c = d
      · subst h3; simp [pk, pc, is]
      · simp [pk, pc, is, h3]
    · simp [pk, is, h2]
  · simp [h1]
theorem eqlC {o : Oper} {ev : Operand → Value} {w : World} (x y : Operand) (T2 : TypeId) (ho : o.op = .binOp .eql 47 x y T2) (c d : Ce) (hx : ev x = aggC c) (hy : ev y = aggC d) : (execOp ev o).run Tryd.prog w = .ok (.value (.bool (decide (c = d)))) w := by
  have h1 := run_eqGuard_agg w .eql 47 x y (encC c).toArray (encC d).toArray gdC
  have h2 := eqInC c d w
  unfold aggC at h2 hx hy
  unfold execOp
  simp [ho, hx, hy, h1, h2, run_eql_struct]
theorem fld0C {o : Oper} {ev : Operand → Value} {w : World} (x : Operand) (ho : o.op = .fieldAddr 47 x 0) (g : Nat) (hx : ev x = .pointer (some ⟨g, 0, none⟩)) : (execOp ev o).run Tryd.prog w = .ok (.value (.pointer (some ⟨g, 0, none⟩))) w := by
  unfold execOp; simp only [ho, hx]; kernel_rfl
theorem fld1C {o : Oper} {ev : Operand → Value} {w : World} (x : Operand) (ho : o.op = .fieldAddr 47 x 1) (g : Nat) (hx : ev x = .pointer (some ⟨g, 0, none⟩)) : (execOp ev o).run Tryd.prog w = .ok (.value (.pointer (some ⟨g, 1, none⟩))) w := by
  unfold execOp; simp only [ho, hx]; kernel_rfl
theorem fld2C {o : Oper} {ev : Operand → Value} {w : World} (x : Operand) (ho : o.op = .fieldAddr 47 x 2) (g : Nat) (hx : ev x = .pointer (some ⟨g, 0, none⟩)) : (execOp ev o).run Tryd.prog w = .ok (.value (.pointer (some ⟨g, 33, none⟩))) w := by
  unfold execOp; simp only [ho, hx]; kernel_rfl
end Go.Proofs.YtnkcehmgagpadaaDoor
/- The document's own cells in memory: equality, parts. No condition. -/
namespace Go.Proofs.YtnkcehmgagpadaaDoor
open Go.RowKit
set_option maxRecDepth 100000 in
theorem builtR3 (n : Int) (k c : Su) : Tryd.prog.built 87 [(0, .int .i64 n), (1, .agg (encU k).toArray), (2, .agg (encU c).toArray)] = some (encC (n, k, c)).toArray := by
  obtain ⟨k, hk⟩ := k
  obtain ⟨c, hc⟩ := c
  unfold encC encU
  match k, hk with
  | [a0, a1, a2, a3, a4, a5, a6, a7, a8, a9, b0, b1, b2, b3, b4, b5, b6, b7, b8, b9, c0, c1, c2, c3, c4, c5, c6, c7, c8, c9, d0, d1], _ =>
    match c, hc with
    | [e0, e1, e2, e3, e4, e5, e6, e7, e8, e9, f0, f1, f2, f3, f4, f5, f6, f7, f8, f9, g0, g1, g2, g3, g4, g5, g6, g7, g8, g9, h0, h1], _ => show _ = _; kernel_rfl
theorem fieldsR : Tryd.prog.underlying 87 = some (.struct (Tryd.prog.fieldsOf 87)) := by kernel_rfl
theorem flistR : ((Tryd.prog.fieldsOf 87).toList.map fun f => (f.name != "_", f.type, f.offset)) = [(true, 2, 0), (true, 85, 1), (true, 85, 33)] := by kernel_rfl
theorem heldR : Tryd.prog.stoodInHeld 87 = false := by kernel_rfl
theorem gdR : Tryd.prog.eqGuardType Tryd.prog.depth 87 = false := by kernel_rfl
set_option maxRecDepth 100000 in
theorem partkR (n : Int) (k c : Su) (w : World) : (part 85 (encC (n, k, c)).toArray 1).run Tryd.prog w = .ok (.agg (encU k).toArray) w := by
  obtain ⟨k, hk⟩ := k
  obtain ⟨c, hc⟩ := c
  unfold encC encU
  match k, hk with
  | [a0, a1, a2, a3, a4, a5, a6, a7, a8, a9, b0, b1, b2, b3, b4, b5, b6, b7, b8, b9, c0, c1, c2, c3, c4, c5, c6, c7, c8, c9, d0, d1], _ =>
    match c, hc with
    | [e0, e1, e2, e3, e4, e5, e6, e7, e8, e9, f0, f1, f2, f3, f4, f5, f6, f7, f8, f9, g0, g1, g2, g3, g4, g5, g6, g7, g8, g9, h0, h1], _ => show _ = _; kernel_rfl
set_option maxRecDepth 100000 in
theorem partcR (n : Int) (k c : Su) (w : World) : (part 85 (encC (n, k, c)).toArray 33).run Tryd.prog w = .ok (.agg (encU c).toArray) w := by
  obtain ⟨k, hk⟩ := k
  obtain ⟨c, hc⟩ := c
  unfold encC encU
  match k, hk with
  | [a0, a1, a2, a3, a4, a5, a6, a7, a8, a9, b0, b1, b2, b3, b4, b5, b6, b7, b8, b9, c0, c1, c2, c3, c4, c5, c6, c7, c8, c9, d0, d1], _ =>
    match c, hc with
    | [e0, e1, e2, e3, e4, e5, e6, e7, e8, e9, f0, f1, f2, f3, f4, f5, f6, f7, f8, f9, g0, g1, g2, g3, g4, g5, g6, g7, g8, g9, h0, h1], _ => show _ = _; kernel_rfl
theorem eqInR (c d : Ce) (w : World) : (Op.equalIn 10000 87 (aggC c) (aggC d)).run Tryd.prog w = .ok (decide (c = d)) w := by
  obtain ⟨n, k, c⟩ := c
  obtain ⟨m, l, d⟩ := d
  unfold aggC
  rw [run_equalIn_struct w 9999 87 _ _ fieldsR heldR]
  have hl := flistR
  revert hl
  generalize (Tryd.prog.fieldsOf 87).toList = fs
  intro hl
  obtain ⟨f0, f1, f2, rfl⟩ : ∃ a b c, fs = [a, b, c] := by
    have hlen : fs.length = 3 := by simpa using congrArg List.length hl
    match fs, hlen with
    | [a, b, c], _ => exact ⟨a, b, c, rfl⟩
  simp only [List.map_cons, List.map_nil, List.cons.injEq, Prod.mk.injEq, bne_iff_ne, and_true] at hl
  obtain ⟨⟨a1, a2, a3⟩, ⟨b1, b2, b3⟩, c1, c2, c3⟩ := hl
  have p0 : ∀ (x : Ce) (w : World), (part 2 (encC x).toArray 0).run Tryd.prog w = .ok (.int .i64 x.1) w := fun x w => by
    unfold part
    simp [Sem.run_bind, encC]
  have pk : ∀ (x : Ce) (w : World), (part 85 (encC x).toArray 1).run Tryd.prog w = .ok (.agg (encU x.2.1).toArray) w := fun x w => partkR x.1 x.2.1 x.2.2 w
  have pc : ∀ (x : Ce) (w : World), (part 85 (encC x).toArray 33).run Tryd.prog w = .ok (.agg (encU x.2.2).toArray) w := fun x w => partcR x.1 x.2.1 x.2.2 w
  have i0 : ∀ (a b : Int) (w : World), (Op.equalIn 9999 2 (.int .i64 a) (.int .i64 b)).run Tryd.prog w = .ok (a == b) w := fun a b w => run_equalIn_int w 9998 2 .i64 .i64 a b Tryd.underlying2
  have is : ∀ (x y : Su) (w : World), (Op.equalIn 9999 85 (.agg (encU x).toArray) (.agg (encU y).toArray)).run Tryd.prog w = .ok (decide (x = y)) w := fun x y w => eqIn9_su 85 Tryd.underlying85 x y w
  simp only [Op.eqFields, ne_eq, a1, b1, c1, a2, a3, b2, b3, c2, c3, not_false_eq_true, if_true, Sem.run_bind, p0, i0, Result.andThen_ok]
  by_cases h1 : n = m
  · subst h1
    by_cases h2 : k = l
    · subst h2
      by_cases h3 : c = d
      · subst h3; simp [pk, pc, is]
      · simp [pk, pc, is, h3]
    · simp [pk, is, h2]
  · simp [h1]
theorem neqR {o : Oper} {ev : Operand → Value} {w : World} (x y : Operand) (T2 : TypeId) (ho : o.op = .binOp .neq 87 x y T2) (c d : Ce) (hx : ev x = aggC c) (hy : ev y = aggC d) : (execOp ev o).run Tryd.prog w = .ok (.value (.bool (!decide (c = d)))) w := by
  have h1 := run_eqGuard_agg w .neq 87 x y (encC c).toArray (encC d).toArray gdR
  have h2 := eqInR c d w
  unfold aggC at h2 hx hy
  unfold execOp
  simp [ho, hx, hy, h1, h2, run_neq_struct]
end Go.Proofs.YtnkcehmgagpadaaDoor
/- Contracts: package cell's with, Put, Take, Minus. Condition: the sums' tables are laid (Put, Take). -/
namespace Go.Proofs.YtnkcehmgagpadaaDoor
open Go.RowKit
def xorS (x y : Su) : Su := ⟨xorL x.1 y.1, xorL_length _ _ x.2 y.2⟩
theorem xorS_any (x y : Su) (w : World) : Calls Tryd.prog 76 #[.agg (encU x).toArray, .agg (encU y).toArray] w fun e w' => (∃ v, e = .returned v ∧ v = .agg (encU (xorS x y)).toArray) ∧ Below w.heap.size w w' :=
 Calls.mono (xor_any x.1 y.1 x.2 y.2 w) fun _ _ h => ⟨⟨_, h.1, rfl⟩, h.2⟩
/-- More laid on a cell. -/
def withC (c : Ce) (n : Int) (k d : Su) : Ce := (IntKind.i64.wrap (c.1 + n), xorS c.2.1 k, xorS c.2.2 d)
def waitWi1 (i : Nat) : List Nat := ([[], [0], [], [1, 2], [], [4], [], [5, 6], [], [8], [], [9, 10], [3, 7, 11], [0, 1, 2, 3, 4, 5, 6, 7, 8, 9, 10, 11, 12]] : List (List Nat)).getD i []
def slotsWi1 : List (Nat × Nat) := [(9, 0), (10, 1), (11, 2), (12, 3), (13, 4), (14, 5), (15, 6), (16, 7), (17, 8), (18, 9), (19, 10), (20, 11), (21, 12)]
theorem sbWi1 : slotsB slotsWi1 = true := by kernel_rfl
theorem chkWi1 : flwB slotsWi1 waitWi1 13 (regOf Tryd.f61.body 1) = true := by kernel_rfl
set_option maxHeartbeats 4000000 in
set_option maxRecDepth 100000 in
theorem with_b (c : Ce) (n : Int) (k : Su) (d : Su) (w w0 : World) (hB : Below w.heap.size w w0) : Calls Tryd.prog 61 #[aggC c, .int .i64 n, .agg (encU k).toArray, .agg (encU d).toArray] w0 fun e w' => (∃ v, e = .returned v ∧ v = aggC (withC c n k d)) ∧ Below w.heap.size w w' := by
 go_enter Tryd.func61, Tryd.ntmps61
 have HB := Lib.hid hB
 clear hB
 go_upto_region 0 with fail
 refine wp_region_lit ?_
 try simp only [Act.put, List.setIfInBounds_toArray, List.set_cons_zero, List.set_cons_succ]
 refine lp_step rfl (fun K hK => wp_box_row 47 (.tmp 0) rfl (aggC c) rfl (hK _ _ ?_))
 try simp only [Act.put, List.setIfInBounds_toArray, List.set_cons_zero, List.set_cons_succ]
 show wpList _ _ _ _ _ (w0.alloc (.cells (encC c).toArray 47))
 have HST : Hid (Below w0.heap.size w0 (w0.alloc (.cells (encC c).toArray 47))) := Lib.hid ((Below.refl _ _).alloc (Nat.le_refl _) _)
 have HX1 : Hid (Has (w0.alloc (.cells (encC c).toArray 47)) w0.heap.size 47 (encC c)) := Lib.hid (Has.made' _ _ _ _ rfl)
 have HGg1 : Hid (w.heap.size ≤ w0.heap.size) := Lib.hid HB.out.size
 replace HB := Lib.hid (HB.out.trans (HST.out.mono HB.out.size))
 clear HST
 generalize w0.alloc (.cells (encC c).toArray 47) = w1 at *
 generalize w0.heap.size = g1 at *
 refine lp_step rfl (fun K hK => wp_box_row 42 (.tmp 2) rfl (.agg (encU k).toArray) rfl (hK _ _ ?_))
 try simp only [Act.put, List.setIfInBounds_toArray, List.set_cons_zero, List.set_cons_succ]
 show wpList _ _ _ _ _ (w1.alloc (.cells (encU k).toArray 42))
 have HST : Hid (Below w1.heap.size w1 (w1.alloc (.cells (encU k).toArray 42))) := Lib.hid ((Below.refl _ _).alloc (Nat.le_refl _) _)
 have HX2 : Hid (Has (w1.alloc (.cells (encU k).toArray 42)) w1.heap.size 42 (encU k)) := Lib.hid (Has.made' _ _ _ _ rfl)
 replace HX1 := Lib.hid (HX1.out.keepB HST.out)
 have HGg2 : Hid (w.heap.size ≤ w1.heap.size) := Lib.hid HB.out.size
 replace HB := Lib.hid (HB.out.trans (HST.out.mono HB.out.size))
 clear HST
 generalize w1.alloc (.cells (encU k).toArray 42) = w2 at *
 generalize w1.heap.size = g2 at *
 refine lp_step rfl (fun K hK => wp_box_row 42 (.tmp 3) rfl (.agg (encU d).toArray) rfl (hK _ _ ?_))
 try simp only [Act.put, List.setIfInBounds_toArray, List.set_cons_zero, List.set_cons_succ]
 show wpList _ _ _ _ _ (w2.alloc (.cells (encU d).toArray 42))
 have HST : Hid (Below w2.heap.size w2 (w2.alloc (.cells (encU d).toArray 42))) := Lib.hid ((Below.refl _ _).alloc (Nat.le_refl _) _)
 have HX3 : Hid (Has (w2.alloc (.cells (encU d).toArray 42)) w2.heap.size 42 (encU d)) := Lib.hid (Has.made' _ _ _ _ rfl)
 replace HX1 := Lib.hid (HX1.out.keepB HST.out)
 replace HX2 := Lib.hid (HX2.out.keepB HST.out)
 have HGg3 : Hid (w.heap.size ≤ w2.heap.size) := Lib.hid HB.out.size
 replace HB := Lib.hid (HB.out.trans (HST.out.mono HB.out.size))
 clear HST
 generalize w2.alloc (.cells (encU d).toArray 42) = w3 at *
 generalize w2.heap.size = g3 at *
 refine lp_step rfl (fun K hK => wp_alloc_row 47 rfl (aggC zC) (fun w => by kernel_rfl) (hK _ _ ?_))
 try simp only [Act.put, List.setIfInBounds_toArray, List.set_cons_zero, List.set_cons_succ]
 show wpList _ _ _ _ _ (w3.alloc (.cells (encC zC).toArray 47))
 have HST : Hid (Below w3.heap.size w3 (w3.alloc (.cells (encC zC).toArray 47))) := Lib.hid ((Below.refl _ _).alloc (Nat.le_refl _) _)
 have HX4 : Hid (Has (w3.alloc (.cells (encC zC).toArray 47)) w3.heap.size 47 (encC zC)) := Lib.hid (Has.made' _ _ _ _ rfl)
 replace HX1 := Lib.hid (HX1.out.keepB HST.out)
 replace HX2 := Lib.hid (HX2.out.keepB HST.out)
 replace HX3 := Lib.hid (HX3.out.keepB HST.out)
 have HGg4 : Hid (w.heap.size ≤ w3.heap.size) := Lib.hid HB.out.size
 replace HB := Lib.hid (HB.out.trans (HST.out.mono HB.out.size))
 clear HST
 generalize w3.alloc (.cells (encC zC).toArray 47) = w4 at *
 generalize w3.heap.size = g4 at *
 refine wpList_nil ?_
 go_upto_region 1 with fail
 have HST : Hid (Below w4.heap.size w4 w4.drew) := Lib.hid (Below.refl _ _).drew
 replace HX1 := Lib.hid (HX1.out.keepB HST.out)
 replace HX2 := Lib.hid (HX2.out.keepB HST.out)
 replace HX3 := Lib.hid (HX3.out.keepB HST.out)
 replace HX4 := Lib.hid (HX4.out.keepB HST.out)
 replace HB := Lib.hid (HB.out.trans (HST.out.mono HB.out.size))
 clear HST
 refine wp_act (fun a0 ha0 => ?_)
 have zsz : a0.tmps.size = 22 := by rw [ha0]; rfl
 have z4 : a0.eval (.tmp 4) = .pointer (some ⟨g1, 0, none⟩) := by rw [ha0]; rfl
 have z1 : a0.eval (.tmp 1) = .int .i64 n := by rw [ha0]; rfl
 have z6 : a0.eval (.tmp 6) = .pointer (some ⟨g2, 0, none⟩) := by rw [ha0]; rfl
 have z7 : a0.eval (.tmp 7) = .pointer (some ⟨g3, 0, none⟩) := by rw [ha0]; rfl
 refine wrD [] slotsWi1 waitWi1 [Fct.val Flz 0 (.pointer (some ⟨g1, 0, none⟩)), Fct.val Flz 1 (.int .i64 (c.1)), Fct.val Flz 2 (.int .i64 n), Fct.val Flz 3 (.int .i64 (IntKind.i64.wrap ((c.1) + n))), Fct.val Flz 4 (.pointer (some ⟨g1, 1, none⟩)), Fct.val Flz 5 (.agg (encU c.2.1).toArray), Fct.val Flz 6 (.agg (encU k).toArray), Fct.val Flz 7 (.agg (encU (xorS c.2.1 k)).toArray), Fct.val Flz 8 (.pointer (some ⟨g1, 33, none⟩)), Fct.val Flz 9 (.agg (encU c.2.2).toArray), Fct.val Flz 10 (.agg (encU d).toArray), Fct.val Flz 11 (.agg (encU (xorS c.2.2 d)).toArray), Fct.val Flz 12 (aggC ((IntKind.i64.wrap ((c.1) + n), xorS c.2.1 k, xorS c.2.2 d)))] (fun w' => Below w4.drew.heap.size w4.drew w') _ 13 1 chkWi1 (by kernel_rfl) (by kernel_rfl) (by kernel_rfl) (by kernel_rfl) (by decide) (Below.refl _ _) ?_ ?_
 ·refine lt_s (lt_s (lt_s (lt_s (lt_s (lt_s (lt_s (lt_s (lt_s (lt_s (lt_s (lt_s (lt_s (lt_0) ?_) ?_) ?_) ?_) ?_) ?_) ?_) ?_) ?_) ?_) ?_) ?_) ?_
  ·intro f w1 hS hf aA hA
   have r4 := qO 4 hA z4
   exact fV rfl rfl _ (fld0C (.tmp 4) rfl g1 r4) hS uS
  ·intro f w1 hS hf aA hA
   have r9 := qA 9 0 hA sbWi1 zsz (hf 0 (by decide))
   exact fV rfl rfl _ (ex_load1 2 (.tmp 9) rfl ⟨g1, 0, none⟩ r9 (fun _ => by kernel_rfl) ((HX1.out.keepB hS).cellv (encC_0 c))) hS uS
  ·intro f w1 hS hf aA hA
   have r1 := qO 1 hA z1
   exact fV rfl rfl _ (ex_move (.tmp 1) rfl r1) hS uS
  ·intro f w1 hS hf aA hA
   have r10 := qA 10 1 hA sbWi1 zsz (hf 1 (by decide))
   have r11 := qA 11 2 hA sbWi1 zsz (hf 2 (by decide))
   exact fV rfl rfl _ (ex_int .add _ _ (.tmp 10) (.tmp 11) rfl .i64 c.1 n r10 r11 (.int .i64 (IntKind.i64.wrap ((c.1) + n))) (fun _ => rfl)) hS uS
  ·intro f w1 hS hf aA hA
   have r4 := qO 4 hA z4
   exact fV rfl rfl _ (fld1C (.tmp 4) rfl g1 r4) hS uS
  ·intro f w1 hS hf aA hA
   have r13 := qA 13 4 hA sbWi1 zsz (hf 4 (by decide))
   exact fV rfl rfl _ (ex_loadR 42 (.tmp 13) rfl ⟨g1, 1, none⟩ r13 (fun _ => by kernel_rfl) (encU c.2.1) (by rw [encU_len]; kernel_rfl) ((HX1.out.keepB hS).part (encU c.2.1) 1 (encC_key c))) hS uS
  ·intro f w1 hS hf aA hA
   have r6 := qO 6 hA z6
   exact fV rfl rfl _ (ex_loadR 42 (.tmp 6) rfl ⟨g2, 0, none⟩ r6 (fun _ => by kernel_rfl) (encU k) (by rw [encU_len]; kernel_rfl) ((HX2.out.keepB hS).part (encU k) 0 (encU_all' k))) hS uS
  ·intro f w1 hS hf aA hA
   have r14 := qA 14 5 hA sbWi1 zsz (hf 5 (by decide))
   have r15 := qA 15 6 hA sbWi1 zsz (hf 6 (by decide))
   exact fC rfl rfl 76 #[(.tmp 14), (.tmp 15)] _ rfl #[.agg (encU c.2.1).toArray, .agg (encU k).toArray] (mp2 r14 r15) (fun w => by kernel_rfl) _ (xorS_any c.2.1 k w1) hS (fun _ _ h => uS.trans h)
  ·intro f w1 hS hf aA hA
   have r4 := qO 4 hA z4
   exact fV rfl rfl _ (fld2C (.tmp 4) rfl g1 r4) hS uS
  ·intro f w1 hS hf aA hA
   have r17 := qA 17 8 hA sbWi1 zsz (hf 8 (by decide))
   exact fV rfl rfl _ (ex_loadR 42 (.tmp 17) rfl ⟨g1, 33, none⟩ r17 (fun _ => by kernel_rfl) (encU c.2.2) (by rw [encU_len]; kernel_rfl) ((HX1.out.keepB hS).part (encU c.2.2) 33 (encC_chk c))) hS uS
  ·intro f w1 hS hf aA hA
   have r7 := qO 7 hA z7
   exact fV rfl rfl _ (ex_loadR 42 (.tmp 7) rfl ⟨g3, 0, none⟩ r7 (fun _ => by kernel_rfl) (encU d) (by rw [encU_len]; kernel_rfl) ((HX3.out.keepB hS).part (encU d) 0 (encU_all' d))) hS uS
  ·intro f w1 hS hf aA hA
   have r18 := qA 18 9 hA sbWi1 zsz (hf 9 (by decide))
   have r19 := qA 19 10 hA sbWi1 zsz (hf 10 (by decide))
   exact fC rfl rfl 76 #[(.tmp 18), (.tmp 19)] _ rfl #[.agg (encU c.2.2).toArray, .agg (encU d).toArray] (mp2 r18 r19) (fun w => by kernel_rfl) _ (xorS_any c.2.2 d w1) hS (fun _ _ h => uS.trans h)
  ·intro f w1 hS hf aA hA
   have r12 := qA 12 3 hA sbWi1 zsz (hf 3 (by decide))
   have r16 := qA 16 7 hA sbWi1 zsz (hf 7 (by decide))
   have r20 := qA 20 11 hA sbWi1 zsz (hf 11 (by decide))
   exact fV rfl rfl _ (ex_build 47 _ rfl (encC ((IntKind.i64.wrap ((c.1) + n), xorS c.2.1 k, xorS c.2.2 d))).toArray [(0, .int .i64 (IntKind.i64.wrap ((c.1) + n))), (1, .agg (encU (xorS c.2.1 k)).toArray), (2, .agg (encU (xorS c.2.2 d)).toArray)] (by simp only [List.map_toArray, List.map_cons, List.map_nil, r12, r16, r20]) (builtC3 (IntKind.i64.wrap ((c.1) + n)) (xorS c.2.1 k) (xorS c.2.2 d))) hS uS
 intro f w1 hS hf hap
 have h0 := eqL (hf 0 (by decide)) rfl
 have h1 := eqL (hf 1 (by decide)) rfl
 have h2 := eqL (hf 2 (by decide)) rfl
 have h3 := eqL (hf 3 (by decide)) rfl
 have h4 := eqL (hf 4 (by decide)) rfl
 have h5 := eqL (hf 5 (by decide)) rfl
 have h6 := eqL (hf 6 (by decide)) rfl
 have h7 := eqL (hf 7 (by decide)) rfl
 have h8 := eqL (hf 8 (by decide)) rfl
 have h9 := eqL (hf 9 (by decide)) rfl
 have h10 := eqL (hf 10 (by decide)) rfl
 have h11 := eqL (hf 11 (by decide)) rfl
 have h12 := eqL (hf 12 (by decide)) rfl
 clear hf hap
 clear zsz z4 z1 z6 z7
 subst ha0
 simp only [slotsWi1, putAll, h0, h1, h2, h3, h4, h5, h6, h7, h8, h9, h10, h11, h12, Act.put, List.setIfInBounds_toArray, List.set_cons_zero, List.set_cons_succ]
 clear h0 h1 h2 h3 h4 h5 h6 h7 h8 h9 h10 h11 h12
 refine tl_store rfl (by kernel_rfl) 47 (.tmp 8) (.tmp 21) rfl g4 (encC (withC c n k d)) _ rfl rfl _ (HX4.out.keepB hS) (by rw [encC_len]; kernel_rfl) (by rw [encC_len, encC_len]) (encC_ones _) ?_
 intro w9 hp hbl hot
 refine tl_nilN ?_
 have HP := Lib.hid hp
 have HF := Lib.hid ((HB.out.trans (hS.mono HB.out.size)).trans (hbl _ HGg4.out))
 clear hp hbl hot hS
 go_wp2_with fail
 (try simp only [Exit.inBlock, Exit.then])
 refine bodyPost_ret (v := .agg (encC (withC c n k d)).toArray) ?_ rfl ⟨⟨_, rfl, rfl⟩, HF.out⟩
 exact results_cell_row rfl _ _ g4 47 _ (0, 0) _ rfl HP.out Tryd.underlying47 rfl (by rw [List.size_toArray, encC_len]; kernel_rfl)
theorem with_any (c : Ce) (n : Int) (k : Su) (d : Su) (w : World) : Calls Tryd.prog 61 #[aggC c, .int .i64 n, .agg (encU k).toArray, .agg (encU d).toArray] w fun e w' => (∃ v, e = .returned v ∧ v = aggC (withC c n k d)) ∧ Below w.heap.size w w' := with_b c n k d w w (Below.refl _ _)
def t67 : List (BitVec 8) := [67#8]
/-- A sum's check. -/
def chkS (x : Su) : Su := shaU (t67 ++ x.1)
def putC (c : Ce) (x : Su) : Ce := withC c 1 x (chkS x)
def takeC (c : Ce) (x : Su) : Ce := withC c (-1) x (chkS x)
def minusC (a b : Ce) : Ce := withC a (IntKind.i64.wrap (0 - b.1)) b.2.1 b.2.2
def waitOf1 (i : Nat) : List Nat := ([[], [], [0, 1], [2], [0, 1, 2, 3]] : List (List Nat)).getD i []
def slotsOf1 : List (Nat × Nat) := [(3, 0), (4, 1), (5, 2), (6, 3)]
theorem sbOf1 : slotsB slotsOf1 = true := by kernel_rfl
theorem chkOf1 : flwO slotsOf1 waitOf1 4 (regOf Tryd.f62.body 1) = true := by kernel_rfl
set_option maxHeartbeats 4000000 in
set_option maxRecDepth 100000 in
theorem chk_b (x : Su) (w w0 : World) (hB : Below w.heap.size w w0) (hL : Laid w) : Calls Tryd.prog 62 #[.agg (encU x).toArray] w0 fun e w' => (∃ v, e = .returned v ∧ v = .agg (encU (chkS x)).toArray) ∧ Below w.heap.size w w' := by
 go_enter Tryd.func62, Tryd.ntmps62
 have HB := Lib.hid hB
 clear hB
 have HL := Lib.hid hL
 have HSZ := Lib.hid hL.size
 clear hL
 go_upto_region 0 with fail
 refine wp_region_lit ?_
 try simp only [Act.put, List.setIfInBounds_toArray, List.set_cons_zero, List.set_cons_succ]
 refine lp_step rfl (fun K hK => wp_box_row 42 (.tmp 0) rfl (.agg (encU x).toArray) rfl (hK _ _ ?_))
 try simp only [Act.put, List.setIfInBounds_toArray, List.set_cons_zero, List.set_cons_succ]
 show wpList _ _ _ _ _ (w0.alloc (.cells (encU x).toArray 42))
 have HST : Hid (Below w0.heap.size w0 (w0.alloc (.cells (encU x).toArray 42))) := Lib.hid ((Below.refl _ _).alloc (Nat.le_refl _) _)
 have HX1 : Hid (Has (w0.alloc (.cells (encU x).toArray 42)) w0.heap.size 42 (encU x)) := Lib.hid (Has.made' _ _ _ _ rfl)
 have HGg1 : Hid (w.heap.size ≤ w0.heap.size) := Lib.hid HB.out.size
 replace HB := Lib.hid (HB.out.trans (HST.out.mono HB.out.size))
 clear HST
 generalize w0.alloc (.cells (encU x).toArray 42) = w1 at *
 generalize w0.heap.size = g1 at *
 refine lp_step rfl (fun K hK => wp_alloc_row 42 rfl (.agg (encU zS).toArray) (fun w => by kernel_rfl) (hK _ _ ?_))
 try simp only [Act.put, List.setIfInBounds_toArray, List.set_cons_zero, List.set_cons_succ]
 show wpList _ _ _ _ _ (w1.alloc (.cells (encU zS).toArray 42))
 have HST : Hid (Below w1.heap.size w1 (w1.alloc (.cells (encU zS).toArray 42))) := Lib.hid ((Below.refl _ _).alloc (Nat.le_refl _) _)
 have HX2 : Hid (Has (w1.alloc (.cells (encU zS).toArray 42)) w1.heap.size 42 (encU zS)) := Lib.hid (Has.made' _ _ _ _ rfl)
 replace HX1 := Lib.hid (HX1.out.keepB HST.out)
 have HGg2 : Hid (w.heap.size ≤ w1.heap.size) := Lib.hid HB.out.size
 replace HB := Lib.hid (HB.out.trans (HST.out.mono HB.out.size))
 clear HST
 generalize w1.alloc (.cells (encU zS).toArray 42) = w2 at *
 generalize w1.heap.size = g2 at *
 refine wpList_nil ?_
 go_upto_region 1 with fail
 refine wp_act (fun a0 ha0 => ?_)
 have zsz : a0.tmps.size = 7 := by rw [ha0]; rfl
 have z1 : a0.eval (.tmp 1) = .pointer (some ⟨g1, 0, none⟩) := by rw [ha0]; rfl
 refine wrO [] slotsOf1 waitOf1 [Fct.obj 0 (fun v w => ∃ g, v = .slice (some ⟨g, 0, none⟩) 1 1 ∧ w2.heap.size ≤ g ∧ Cl w g 5 (t67.map u8v)) (fun _ _ _ ⟨g, a, b, c⟩ he => ⟨g, a, b, c.flz he⟩), Fct.val Flz 1 (.slice (some ⟨g1, 0, none⟩) 32 32), Fct.obj 2 (fun v w => ∃ g k, v = .slice (some ⟨k, 0, none⟩) 2 2 ∧ Cl w k 45 [.slice (some ⟨g, 0, none⟩) 1 1, .slice (some ⟨g1, 0, none⟩) 32 32] ∧ Cl w g 5 (t67.map u8v)) (fun _ _ _ ⟨g, k, a, b, c⟩ he => ⟨g, k, a, b.flz he, c.flz he⟩), Fct.val Flz 3 (.agg (encU (chkS x)).toArray)] (fun w' => Below w2.heap.size w2 w') _ 4 1 chkOf1 (by kernel_rfl) (by kernel_rfl) (by kernel_rfl) (by decide) (Below.refl _ _) ?_ ?_
 ·refine lt_s (lt_s (lt_s (lt_s (lt_0) ?_) ?_) ?_) ?_
  ·intro f w1 hS hf aA hA
   exact flw_wp rfl rfl (fun K hK => wp_lit8 1 _ rfl ((t67.map u8v).toArray) (by decide) (by decide) (by kernel_rfl) (hK _ _ (hS.alloc hS.size _) (Flz.al _ _) ⟨_, uS, hS.size, Cl.made _ _ _⟩))
  ·intro f w1 hS hf aA hA
   have r1 := qO 1 hA z1
   exact fV rfl rfl _ (ex_sliceU (.tmp 1) rfl g1 r1) hS uS
  ·intro f w1 hS hf aA hA
   have e3 := pA 3 0 hA sbOf1 (by kernel_rfl) zsz rfl rfl
   have r4 := qA 4 1 hA sbOf1 zsz (hf 1 (by decide))
   obtain ⟨g, hv, hg, hc⟩ := hf 0 (by decide)
   exact flw_wp rfl rfl (fun K hK => wp_two_bs (.tmp 3) (.tmp 4) rfl (some ⟨g, 0, none⟩) 1 1 (some ⟨g1, 0, none⟩) 32 32 (e3.trans hv) r4 (hK _ _ (hS.alloc hS.size _) (Flz.al _ _) ⟨g, _, uS, Cl.made _ _ [_, _], hc.flz (Flz.al _ _)⟩))
  ·intro f w1 hS hf aA hA
   have e5 := pA 5 2 hA sbOf1 (by kernel_rfl) zsz rfl rfl
   obtain ⟨g, k, hv, hk, hc⟩ := hf 2 (by decide)
   have hlen : (x).1.length = 32 := (x).2
   have HOF := of_at2 (x := t67) (y := (x).1) hk (some ⟨g, 0, none⟩) 1 rfl (by decide) hc.sees (some ⟨g1, 0, none⟩) 32 (by rw [hlen]) (Nat.le_of_eq hlen) (Cl.sees (HX1.out.keepB hS).cl) (by rw [hlen]; decide) (HL.out.keep (HB.out.trans (hS.mono HB.out.size)) HSZ.out)
   exact fC rfl rfl 15 #[(.tmp 5)] _ rfl #[.slice (some ⟨k, 0, none⟩) 2 2] (by simp only [List.map_toArray, List.map_cons, List.map_nil, e5, hv]) (fun w => by kernel_rfl) _ HOF hS (fun _ _ h => uS.trans h)
 intro f w1 hS hf hap
 obtain ⟨gl0, h0, -⟩ := hf 0 (by decide)
 have h1 := eqL (hf 1 (by decide)) rfl
 obtain ⟨_, gl2, h2, -⟩ := hf 2 (by decide)
 have h3 := eqL (hf 3 (by decide)) rfl
 clear hf hap
 clear zsz z1
 subst ha0
 simp only [slotsOf1, putAll, h0, h1, h2, h3, Act.put, List.setIfInBounds_toArray, List.set_cons_zero, List.set_cons_succ]
 clear h0 h1 h2 h3
 refine tl_store rfl (by kernel_rfl) 42 (.tmp 2) (.tmp 6) rfl g2 (encU (chkS x)) _ rfl rfl _ (HX2.out.keepB hS) (by rw [encU_len]; kernel_rfl) (by rw [encU_len, encU_len]) (encU_all _) ?_
 intro w9 hp hbl hot
 refine tl_nil ?_
 have HP := Lib.hid hp
 have HF := Lib.hid ((HB.out.trans (hS.mono HB.out.size)).trans (hbl _ HGg2.out))
 clear hp hbl hot hS
 go_wp2_with fail
 (try simp only [Exit.inBlock, Exit.then])
 refine bodyPost_ret (v := .agg (encU (chkS x)).toArray) ?_ rfl ⟨⟨_, rfl, rfl⟩, HF.out⟩
 exact results_cell_row rfl _ _ g2 42 _ (0, 0) _ rfl HP.out Tryd.underlying42 rfl (by rw [List.size_toArray, encU_len]; kernel_rfl)
theorem chk_any (x : Su) (w : World) (hL : Laid w) : Calls Tryd.prog 62 #[.agg (encU x).toArray] w fun e w' => (∃ v, e = .returned v ∧ v = .agg (encU (chkS x)).toArray) ∧ Below w.heap.size w w' := chk_b x w w (Below.refl _ _) hL
def waitPu1 (i : Nat) : List Nat := ([[], [], [], [2], [0, 1, 3], [0, 1, 2, 3, 4]] : List (List Nat)).getD i []
def slotsPu1 : List (Nat × Nat) := [(5, 0), (6, 1), (7, 2), (8, 3), (9, 4)]
theorem sbPu1 : slotsB slotsPu1 = true := by kernel_rfl
theorem chkPu1 : flwB slotsPu1 waitPu1 5 (regOf Tryd.f33.body 1) = true := by kernel_rfl
set_option maxHeartbeats 4000000 in
set_option maxRecDepth 100000 in
theorem put_b (c : Ce) (x : Su) (w w0 : World) (hB : Below w.heap.size w w0) (hL : Laid w) : Calls Tryd.prog 33 #[aggC c, .agg (encU x).toArray] w0 fun e w' => (∃ v, e = .returned v ∧ v = aggC (putC c x)) ∧ Below w.heap.size w w' := by
 go_enter Tryd.func33, Tryd.ntmps33
 have HB := Lib.hid hB
 clear hB
 have HL := Lib.hid hL
 have HSZ := Lib.hid hL.size
 clear hL
 go_upto_region 0 with fail
 refine wp_region_lit ?_
 try simp only [Act.put, List.setIfInBounds_toArray, List.set_cons_zero, List.set_cons_succ]
 refine lp_step rfl (fun K hK => wp_box_row 47 (.tmp 0) rfl (aggC c) rfl (hK _ _ ?_))
 try simp only [Act.put, List.setIfInBounds_toArray, List.set_cons_zero, List.set_cons_succ]
 show wpList _ _ _ _ _ (w0.alloc (.cells (encC c).toArray 47))
 have HST : Hid (Below w0.heap.size w0 (w0.alloc (.cells (encC c).toArray 47))) := Lib.hid ((Below.refl _ _).alloc (Nat.le_refl _) _)
 have HX1 : Hid (Has (w0.alloc (.cells (encC c).toArray 47)) w0.heap.size 47 (encC c)) := Lib.hid (Has.made' _ _ _ _ rfl)
 have HGg1 : Hid (w.heap.size ≤ w0.heap.size) := Lib.hid HB.out.size
 replace HB := Lib.hid (HB.out.trans (HST.out.mono HB.out.size))
 clear HST
 generalize w0.alloc (.cells (encC c).toArray 47) = w1 at *
 generalize w0.heap.size = g1 at *
 refine lp_step rfl (fun K hK => wp_box_row 42 (.tmp 1) rfl (.agg (encU x).toArray) rfl (hK _ _ ?_))
 try simp only [Act.put, List.setIfInBounds_toArray, List.set_cons_zero, List.set_cons_succ]
 show wpList _ _ _ _ _ (w1.alloc (.cells (encU x).toArray 42))
 have HST : Hid (Below w1.heap.size w1 (w1.alloc (.cells (encU x).toArray 42))) := Lib.hid ((Below.refl _ _).alloc (Nat.le_refl _) _)
 have HX2 : Hid (Has (w1.alloc (.cells (encU x).toArray 42)) w1.heap.size 42 (encU x)) := Lib.hid (Has.made' _ _ _ _ rfl)
 replace HX1 := Lib.hid (HX1.out.keepB HST.out)
 have HGg2 : Hid (w.heap.size ≤ w1.heap.size) := Lib.hid HB.out.size
 replace HB := Lib.hid (HB.out.trans (HST.out.mono HB.out.size))
 clear HST
 generalize w1.alloc (.cells (encU x).toArray 42) = w2 at *
 generalize w1.heap.size = g2 at *
 refine lp_step rfl (fun K hK => wp_alloc_row 47 rfl (aggC zC) (fun w => by kernel_rfl) (hK _ _ ?_))
 try simp only [Act.put, List.setIfInBounds_toArray, List.set_cons_zero, List.set_cons_succ]
 show wpList _ _ _ _ _ (w2.alloc (.cells (encC zC).toArray 47))
 have HST : Hid (Below w2.heap.size w2 (w2.alloc (.cells (encC zC).toArray 47))) := Lib.hid ((Below.refl _ _).alloc (Nat.le_refl _) _)
 have HX3 : Hid (Has (w2.alloc (.cells (encC zC).toArray 47)) w2.heap.size 47 (encC zC)) := Lib.hid (Has.made' _ _ _ _ rfl)
 replace HX1 := Lib.hid (HX1.out.keepB HST.out)
 replace HX2 := Lib.hid (HX2.out.keepB HST.out)
 have HGg3 : Hid (w.heap.size ≤ w2.heap.size) := Lib.hid HB.out.size
 replace HB := Lib.hid (HB.out.trans (HST.out.mono HB.out.size))
 clear HST
 generalize w2.alloc (.cells (encC zC).toArray 47) = w3 at *
 generalize w2.heap.size = g3 at *
 refine wpList_nil ?_
 go_upto_region 1 with fail
 have HST : Hid (Below w3.heap.size w3 w3.drew) := Lib.hid (Below.refl _ _).drew
 replace HX1 := Lib.hid (HX1.out.keepB HST.out)
 replace HX2 := Lib.hid (HX2.out.keepB HST.out)
 replace HX3 := Lib.hid (HX3.out.keepB HST.out)
 replace HB := Lib.hid (HB.out.trans (HST.out.mono HB.out.size))
 clear HST
 refine wp_act (fun a0 ha0 => ?_)
 have zsz : a0.tmps.size = 10 := by rw [ha0]; rfl
 have z2 : a0.eval (.tmp 2) = .pointer (some ⟨g1, 0, none⟩) := by rw [ha0]; rfl
 have z3 : a0.eval (.tmp 3) = .pointer (some ⟨g2, 0, none⟩) := by rw [ha0]; rfl
 refine wrD [] slotsPu1 waitPu1 [Fct.val Flz 0 (aggC c), Fct.val Flz 1 (.agg (encU x).toArray), Fct.val Flz 2 (.agg (encU x).toArray), Fct.val Flz 3 (.agg (encU (chkS x)).toArray), Fct.val Flz 4 (aggC (withC c 1 x (chkS x)))] (fun w' => Below w3.drew.heap.size w3.drew w') _ 5 1 chkPu1 (by kernel_rfl) (by kernel_rfl) (by kernel_rfl) (by kernel_rfl) (by decide) (Below.refl _ _) ?_ ?_
 ·refine lt_s (lt_s (lt_s (lt_s (lt_s (lt_0) ?_) ?_) ?_) ?_) ?_
  ·intro f w1 hS hf aA hA
   have r2 := qO 2 hA z2
   exact fV rfl rfl _ (ex_loadR 47 (.tmp 2) rfl ⟨g1, 0, none⟩ r2 (fun _ => by kernel_rfl) (encC c) (by rw [encC_len]; kernel_rfl) ((HX1.out.keepB hS).part (encC c) 0 (encC_all c))) hS uS
  ·intro f w1 hS hf aA hA
   have r3 := qO 3 hA z3
   exact fV rfl rfl _ (ex_loadR 42 (.tmp 3) rfl ⟨g2, 0, none⟩ r3 (fun _ => by kernel_rfl) (encU x) (by rw [encU_len]; kernel_rfl) ((HX2.out.keepB hS).part (encU x) 0 (encU_all' x))) hS uS
  ·intro f w1 hS hf aA hA
   have r3 := qO 3 hA z3
   exact fV rfl rfl _ (ex_loadR 42 (.tmp 3) rfl ⟨g2, 0, none⟩ r3 (fun _ => by kernel_rfl) (encU x) (by rw [encU_len]; kernel_rfl) ((HX2.out.keepB hS).part (encU x) 0 (encU_all' x))) hS uS
  ·intro f w1 hS hf aA hA
   have r7 := qA 7 2 hA sbPu1 zsz (hf 2 (by decide))
   exact fC rfl rfl 62 #[(.tmp 7)] _ rfl #[.agg (encU x).toArray] (mp1 r7) (fun w => by kernel_rfl) _ (chk_any x w1 (HL.out.keep (HB.out.trans (hS.mono HB.out.size)) HSZ.out)) hS (fun _ _ h => uS.trans h)
  ·intro f w1 hS hf aA hA
   have r5 := qA 5 0 hA sbPu1 zsz (hf 0 (by decide))
   have r6 := qA 6 1 hA sbPu1 zsz (hf 1 (by decide))
   have r8 := qA 8 3 hA sbPu1 zsz (hf 3 (by decide))
   exact fC rfl rfl 61 #[(.tmp 5), _, (.tmp 6), (.tmp 8)] _ rfl #[aggC c, .int .i64 1, .agg (encU x).toArray, .agg (encU (chkS x)).toArray] (by simp only [List.map_toArray, List.map_cons, List.map_nil, r5, r6, r8]; rfl) (fun w => by kernel_rfl) _ (with_any c 1 x (chkS x) w1) hS (fun _ _ h => uS.trans h)
 intro f w1 hS hf hap
 have h0 := eqL (hf 0 (by decide)) rfl
 have h1 := eqL (hf 1 (by decide)) rfl
 have h2 := eqL (hf 2 (by decide)) rfl
 have h3 := eqL (hf 3 (by decide)) rfl
 have h4 := eqL (hf 4 (by decide)) rfl
 clear hf hap
 clear zsz z2 z3
 subst ha0
 simp only [slotsPu1, putAll, h0, h1, h2, h3, h4, Act.put, List.setIfInBounds_toArray, List.set_cons_zero, List.set_cons_succ]
 clear h0 h1 h2 h3 h4
 refine tl_store rfl (by kernel_rfl) 47 (.tmp 4) (.tmp 9) rfl g3 (encC (putC c x)) _ rfl rfl _ (HX3.out.keepB hS) (by rw [encC_len]; kernel_rfl) (by rw [encC_len, encC_len]) (encC_ones _) ?_
 intro w9 hp hbl hot
 refine tl_nilN ?_
 have HP := Lib.hid hp
 have HF := Lib.hid ((HB.out.trans (hS.mono HB.out.size)).trans (hbl _ HGg3.out))
 clear hp hbl hot hS
 go_wp2_with fail
 (try simp only [Exit.inBlock, Exit.then])
 refine bodyPost_ret (v := .agg (encC (putC c x)).toArray) ?_ rfl ⟨⟨_, rfl, rfl⟩, HF.out⟩
 exact results_cell_row rfl _ _ g3 47 _ (0, 0) _ rfl HP.out Tryd.underlying47 rfl (by rw [List.size_toArray, encC_len]; kernel_rfl)
theorem put_any (c : Ce) (x : Su) (w : World) (hL : Laid w) : Calls Tryd.prog 33 #[aggC c, .agg (encU x).toArray] w fun e w' => (∃ v, e = .returned v ∧ v = aggC (putC c x)) ∧ Below w.heap.size w w' := put_b c x w w (Below.refl _ _) hL
def waitTa1 (i : Nat) : List Nat := ([[], [], [], [2], [0, 1, 3], [0, 1, 2, 3, 4]] : List (List Nat)).getD i []
def slotsTa1 : List (Nat × Nat) := [(5, 0), (6, 1), (7, 2), (8, 3), (9, 4)]
theorem sbTa1 : slotsB slotsTa1 = true := by kernel_rfl
theorem chkTa1 : flwB slotsTa1 waitTa1 5 (regOf Tryd.f36.body 1) = true := by kernel_rfl
set_option maxHeartbeats 4000000 in
set_option maxRecDepth 100000 in
theorem take_b (c : Ce) (x : Su) (w w0 : World) (hB : Below w.heap.size w w0) (hL : Laid w) : Calls Tryd.prog 36 #[aggC c, .agg (encU x).toArray] w0 fun e w' => (∃ v, e = .returned v ∧ v = aggC (takeC c x)) ∧ Below w.heap.size w w' := by
 go_enter Tryd.func36, Tryd.ntmps36
 have HB := Lib.hid hB
 clear hB
 have HL := Lib.hid hL
 have HSZ := Lib.hid hL.size
 clear hL
 go_upto_region 0 with fail
 refine wp_region_lit ?_
 try simp only [Act.put, List.setIfInBounds_toArray, List.set_cons_zero, List.set_cons_succ]
 refine lp_step rfl (fun K hK => wp_box_row 47 (.tmp 0) rfl (aggC c) rfl (hK _ _ ?_))
 try simp only [Act.put, List.setIfInBounds_toArray, List.set_cons_zero, List.set_cons_succ]
 show wpList _ _ _ _ _ (w0.alloc (.cells (encC c).toArray 47))
 have HST : Hid (Below w0.heap.size w0 (w0.alloc (.cells (encC c).toArray 47))) := Lib.hid ((Below.refl _ _).alloc (Nat.le_refl _) _)
 have HX1 : Hid (Has (w0.alloc (.cells (encC c).toArray 47)) w0.heap.size 47 (encC c)) := Lib.hid (Has.made' _ _ _ _ rfl)
 have HGg1 : Hid (w.heap.size ≤ w0.heap.size) := Lib.hid HB.out.size
 replace HB := Lib.hid (HB.out.trans (HST.out.mono HB.out.size))
 clear HST
 generalize w0.alloc (.cells (encC c).toArray 47) = w1 at *
 generalize w0.heap.size = g1 at *
 refine lp_step rfl (fun K hK => wp_box_row 42 (.tmp 1) rfl (.agg (encU x).toArray) rfl (hK _ _ ?_))
 try simp only [Act.put, List.setIfInBounds_toArray, List.set_cons_zero, List.set_cons_succ]
 show wpList _ _ _ _ _ (w1.alloc (.cells (encU x).toArray 42))
 have HST : Hid (Below w1.heap.size w1 (w1.alloc (.cells (encU x).toArray 42))) := Lib.hid ((Below.refl _ _).alloc (Nat.le_refl _) _)
 have HX2 : Hid (Has (w1.alloc (.cells (encU x).toArray 42)) w1.heap.size 42 (encU x)) := Lib.hid (Has.made' _ _ _ _ rfl)
 replace HX1 := Lib.hid (HX1.out.keepB HST.out)
 have HGg2 : Hid (w.heap.size ≤ w1.heap.size) := Lib.hid HB.out.size
 replace HB := Lib.hid (HB.out.trans (HST.out.mono HB.out.size))
 clear HST
 generalize w1.alloc (.cells (encU x).toArray 42) = w2 at *
 generalize w1.heap.size = g2 at *
 refine lp_step rfl (fun K hK => wp_alloc_row 47 rfl (aggC zC) (fun w => by kernel_rfl) (hK _ _ ?_))
 try simp only [Act.put, List.setIfInBounds_toArray, List.set_cons_zero, List.set_cons_succ]
 show wpList _ _ _ _ _ (w2.alloc (.cells (encC zC).toArray 47))
 have HST : Hid (Below w2.heap.size w2 (w2.alloc (.cells (encC zC).toArray 47))) := Lib.hid ((Below.refl _ _).alloc (Nat.le_refl _) _)
 have HX3 : Hid (Has (w2.alloc (.cells (encC zC).toArray 47)) w2.heap.size 47 (encC zC)) := Lib.hid (Has.made' _ _ _ _ rfl)
 replace HX1 := Lib.hid (HX1.out.keepB HST.out)
 replace HX2 := Lib.hid (HX2.out.keepB HST.out)
 have HGg3 : Hid (w.heap.size ≤ w2.heap.size) := Lib.hid HB.out.size
 replace HB := Lib.hid (HB.out.trans (HST.out.mono HB.out.size))
 clear HST
 generalize w2.alloc (.cells (encC zC).toArray 47) = w3 at *
 generalize w2.heap.size = g3 at *
 refine wpList_nil ?_
 go_upto_region 1 with fail
 have HST : Hid (Below w3.heap.size w3 w3.drew) := Lib.hid (Below.refl _ _).drew
 replace HX1 := Lib.hid (HX1.out.keepB HST.out)
 replace HX2 := Lib.hid (HX2.out.keepB HST.out)
 replace HX3 := Lib.hid (HX3.out.keepB HST.out)
 replace HB := Lib.hid (HB.out.trans (HST.out.mono HB.out.size))
 clear HST
 refine wp_act (fun a0 ha0 => ?_)
 have zsz : a0.tmps.size = 10 := by rw [ha0]; rfl
 have z2 : a0.eval (.tmp 2) = .pointer (some ⟨g1, 0, none⟩) := by rw [ha0]; rfl
 have z3 : a0.eval (.tmp 3) = .pointer (some ⟨g2, 0, none⟩) := by rw [ha0]; rfl
 refine wrD [] slotsTa1 waitTa1 [Fct.val Flz 0 (aggC c), Fct.val Flz 1 (.agg (encU x).toArray), Fct.val Flz 2 (.agg (encU x).toArray), Fct.val Flz 3 (.agg (encU (chkS x)).toArray), Fct.val Flz 4 (aggC (withC c ((-1)) x (chkS x)))] (fun w' => Below w3.drew.heap.size w3.drew w') _ 5 1 chkTa1 (by kernel_rfl) (by kernel_rfl) (by kernel_rfl) (by kernel_rfl) (by decide) (Below.refl _ _) ?_ ?_
 ·refine lt_s (lt_s (lt_s (lt_s (lt_s (lt_0) ?_) ?_) ?_) ?_) ?_
  ·intro f w1 hS hf aA hA
   have r2 := qO 2 hA z2
   exact fV rfl rfl _ (ex_loadR 47 (.tmp 2) rfl ⟨g1, 0, none⟩ r2 (fun _ => by kernel_rfl) (encC c) (by rw [encC_len]; kernel_rfl) ((HX1.out.keepB hS).part (encC c) 0 (encC_all c))) hS uS
  ·intro f w1 hS hf aA hA
   have r3 := qO 3 hA z3
   exact fV rfl rfl _ (ex_loadR 42 (.tmp 3) rfl ⟨g2, 0, none⟩ r3 (fun _ => by kernel_rfl) (encU x) (by rw [encU_len]; kernel_rfl) ((HX2.out.keepB hS).part (encU x) 0 (encU_all' x))) hS uS
  ·intro f w1 hS hf aA hA
   have r3 := qO 3 hA z3
   exact fV rfl rfl _ (ex_loadR 42 (.tmp 3) rfl ⟨g2, 0, none⟩ r3 (fun _ => by kernel_rfl) (encU x) (by rw [encU_len]; kernel_rfl) ((HX2.out.keepB hS).part (encU x) 0 (encU_all' x))) hS uS
  ·intro f w1 hS hf aA hA
   have r7 := qA 7 2 hA sbTa1 zsz (hf 2 (by decide))
   exact fC rfl rfl 62 #[(.tmp 7)] _ rfl #[.agg (encU x).toArray] (mp1 r7) (fun w => by kernel_rfl) _ (chk_any x w1 (HL.out.keep (HB.out.trans (hS.mono HB.out.size)) HSZ.out)) hS (fun _ _ h => uS.trans h)
  ·intro f w1 hS hf aA hA
   have r5 := qA 5 0 hA sbTa1 zsz (hf 0 (by decide))
   have r6 := qA 6 1 hA sbTa1 zsz (hf 1 (by decide))
   have r8 := qA 8 3 hA sbTa1 zsz (hf 3 (by decide))
   exact fC rfl rfl 61 #[(.tmp 5), _, (.tmp 6), (.tmp 8)] _ rfl #[aggC c, .int .i64 ((-1)), .agg (encU x).toArray, .agg (encU (chkS x)).toArray] (by simp only [List.map_toArray, List.map_cons, List.map_nil, r5, r6, r8]; rfl) (fun w => by kernel_rfl) _ (with_any c ((-1)) x (chkS x) w1) hS (fun _ _ h => uS.trans h)
 intro f w1 hS hf hap
 have h0 := eqL (hf 0 (by decide)) rfl
 have h1 := eqL (hf 1 (by decide)) rfl
 have h2 := eqL (hf 2 (by decide)) rfl
 have h3 := eqL (hf 3 (by decide)) rfl
 have h4 := eqL (hf 4 (by decide)) rfl
 clear hf hap
 clear zsz z2 z3
 subst ha0
 simp only [slotsTa1, putAll, h0, h1, h2, h3, h4, Act.put, List.setIfInBounds_toArray, List.set_cons_zero, List.set_cons_succ]
 clear h0 h1 h2 h3 h4
 refine tl_store rfl (by kernel_rfl) 47 (.tmp 4) (.tmp 9) rfl g3 (encC (takeC c x)) _ rfl rfl _ (HX3.out.keepB hS) (by rw [encC_len]; kernel_rfl) (by rw [encC_len, encC_len]) (encC_ones _) ?_
 intro w9 hp hbl hot
 refine tl_nilN ?_
 have HP := Lib.hid hp
 have HF := Lib.hid ((HB.out.trans (hS.mono HB.out.size)).trans (hbl _ HGg3.out))
 clear hp hbl hot hS
 go_wp2_with fail
 (try simp only [Exit.inBlock, Exit.then])
 refine bodyPost_ret (v := .agg (encC (takeC c x)).toArray) ?_ rfl ⟨⟨_, rfl, rfl⟩, HF.out⟩
 exact results_cell_row rfl _ _ g3 47 _ (0, 0) _ rfl HP.out Tryd.underlying47 rfl (by rw [List.size_toArray, encC_len]; kernel_rfl)
theorem take_any (c : Ce) (x : Su) (w : World) (hL : Laid w) : Calls Tryd.prog 36 #[aggC c, .agg (encU x).toArray] w fun e w' => (∃ v, e = .returned v ∧ v = aggC (takeC c x)) ∧ Below w.heap.size w w' := take_b c x w w (Below.refl _ _) hL
def waitMi1 (i : Nat) : List Nat := ([[], [], [1], [2], [], [4], [], [6], [0, 3, 5, 7], [0, 1, 2, 3, 4, 5, 6, 7, 8]] : List (List Nat)).getD i []
def slotsMi1 : List (Nat × Nat) := [(5, 0), (6, 1), (7, 2), (8, 3), (9, 4), (10, 5), (11, 6), (12, 7), (13, 8)]
theorem sbMi1 : slotsB slotsMi1 = true := by kernel_rfl
theorem chkMi1 : flwO slotsMi1 waitMi1 9 (regOf Tryd.f49.body 1) = true := by kernel_rfl
set_option maxHeartbeats 4000000 in
set_option maxRecDepth 100000 in
theorem minus_b (a : Ce) (b : Ce) (w w0 : World) (hB : Below w.heap.size w w0) : Calls Tryd.prog 49 #[aggC a, aggC b] w0 fun e w' => (∃ v, e = .returned v ∧ v = aggC (minusC a b)) ∧ Below w.heap.size w w' := by
 go_enter Tryd.func49, Tryd.ntmps49
 have HB := Lib.hid hB
 clear hB
 go_upto_region 0 with fail
 refine wp_region_lit ?_
 try simp only [Act.put, List.setIfInBounds_toArray, List.set_cons_zero, List.set_cons_succ]
 refine lp_step rfl (fun K hK => wp_box_row 47 (.tmp 0) rfl (aggC a) rfl (hK _ _ ?_))
 try simp only [Act.put, List.setIfInBounds_toArray, List.set_cons_zero, List.set_cons_succ]
 show wpList _ _ _ _ _ (w0.alloc (.cells (encC a).toArray 47))
 have HST : Hid (Below w0.heap.size w0 (w0.alloc (.cells (encC a).toArray 47))) := Lib.hid ((Below.refl _ _).alloc (Nat.le_refl _) _)
 have HX1 : Hid (Has (w0.alloc (.cells (encC a).toArray 47)) w0.heap.size 47 (encC a)) := Lib.hid (Has.made' _ _ _ _ rfl)
 have HGg1 : Hid (w.heap.size ≤ w0.heap.size) := Lib.hid HB.out.size
 replace HB := Lib.hid (HB.out.trans (HST.out.mono HB.out.size))
 clear HST
 generalize w0.alloc (.cells (encC a).toArray 47) = w1 at *
 generalize w0.heap.size = g1 at *
 refine lp_step rfl (fun K hK => wp_box_row 47 (.tmp 1) rfl (aggC b) rfl (hK _ _ ?_))
 try simp only [Act.put, List.setIfInBounds_toArray, List.set_cons_zero, List.set_cons_succ]
 show wpList _ _ _ _ _ (w1.alloc (.cells (encC b).toArray 47))
 have HST : Hid (Below w1.heap.size w1 (w1.alloc (.cells (encC b).toArray 47))) := Lib.hid ((Below.refl _ _).alloc (Nat.le_refl _) _)
 have HX2 : Hid (Has (w1.alloc (.cells (encC b).toArray 47)) w1.heap.size 47 (encC b)) := Lib.hid (Has.made' _ _ _ _ rfl)
 replace HX1 := Lib.hid (HX1.out.keepB HST.out)
 have HGg2 : Hid (w.heap.size ≤ w1.heap.size) := Lib.hid HB.out.size
 replace HB := Lib.hid (HB.out.trans (HST.out.mono HB.out.size))
 clear HST
 generalize w1.alloc (.cells (encC b).toArray 47) = w2 at *
 generalize w1.heap.size = g2 at *
 refine lp_step rfl (fun K hK => wp_alloc_row 47 rfl (aggC zC) (fun w => by kernel_rfl) (hK _ _ ?_))
 try simp only [Act.put, List.setIfInBounds_toArray, List.set_cons_zero, List.set_cons_succ]
 show wpList _ _ _ _ _ (w2.alloc (.cells (encC zC).toArray 47))
 have HST : Hid (Below w2.heap.size w2 (w2.alloc (.cells (encC zC).toArray 47))) := Lib.hid ((Below.refl _ _).alloc (Nat.le_refl _) _)
 have HX3 : Hid (Has (w2.alloc (.cells (encC zC).toArray 47)) w2.heap.size 47 (encC zC)) := Lib.hid (Has.made' _ _ _ _ rfl)
 replace HX1 := Lib.hid (HX1.out.keepB HST.out)
 replace HX2 := Lib.hid (HX2.out.keepB HST.out)
 have HGg3 : Hid (w.heap.size ≤ w2.heap.size) := Lib.hid HB.out.size
 replace HB := Lib.hid (HB.out.trans (HST.out.mono HB.out.size))
 clear HST
 generalize w2.alloc (.cells (encC zC).toArray 47) = w3 at *
 generalize w2.heap.size = g3 at *
 refine wpList_nil ?_
 go_upto_region 1 with fail
 refine wp_act (fun a0 ha0 => ?_)
 have zsz : a0.tmps.size = 14 := by rw [ha0]; rfl
 have z2 : a0.eval (.tmp 2) = .pointer (some ⟨g1, 0, none⟩) := by rw [ha0]; rfl
 have z3 : a0.eval (.tmp 3) = .pointer (some ⟨g2, 0, none⟩) := by rw [ha0]; rfl
 refine wrO [] slotsMi1 waitMi1 [Fct.val Flz 0 (aggC a), Fct.val Flz 1 (.pointer (some ⟨g2, 0, none⟩)), Fct.val Flz 2 (.int .i64 (b.1)), Fct.val Flz 3 (.int .i64 (IntKind.i64.wrap (0 - b.1))), Fct.val Flz 4 (.pointer (some ⟨g2, 1, none⟩)), Fct.val Flz 5 (.agg (encU b.2.1).toArray), Fct.val Flz 6 (.pointer (some ⟨g2, 33, none⟩)), Fct.val Flz 7 (.agg (encU b.2.2).toArray), Fct.val Flz 8 (aggC (withC a (IntKind.i64.wrap (0 - b.1)) b.2.1 b.2.2))] (fun w' => Below w3.heap.size w3 w') _ 9 1 chkMi1 (by kernel_rfl) (by kernel_rfl) (by kernel_rfl) (by decide) (Below.refl _ _) ?_ ?_
 ·refine lt_s (lt_s (lt_s (lt_s (lt_s (lt_s (lt_s (lt_s (lt_s (lt_0) ?_) ?_) ?_) ?_) ?_) ?_) ?_) ?_) ?_
  ·intro f w1 hS hf aA hA
   have r2 := qO 2 hA z2
   exact fV rfl rfl _ (ex_loadR 47 (.tmp 2) rfl ⟨g1, 0, none⟩ r2 (fun _ => by kernel_rfl) (encC a) (by rw [encC_len]; kernel_rfl) ((HX1.out.keepB hS).part (encC a) 0 (encC_all a))) hS uS
  ·intro f w1 hS hf aA hA
   have r3 := qO 3 hA z3
   exact fV rfl rfl _ (fld0C (.tmp 3) rfl g2 r3) hS uS
  ·intro f w1 hS hf aA hA
   have r6 := qA 6 1 hA sbMi1 zsz (hf 1 (by decide))
   exact fV rfl rfl _ (ex_load1 2 (.tmp 6) rfl ⟨g2, 0, none⟩ r6 (fun _ => by kernel_rfl) ((HX2.out.keepB hS).cellv (encC_0 b))) hS uS
  ·intro f w1 hS hf aA hA
   have r7 := qA 7 2 hA sbMi1 zsz (hf 2 (by decide))
   exact fV rfl rfl _ (ex_neg _ (.tmp 7) rfl _ _ r7) hS uS
  ·intro f w1 hS hf aA hA
   have r3 := qO 3 hA z3
   exact fV rfl rfl _ (fld1C (.tmp 3) rfl g2 r3) hS uS
  ·intro f w1 hS hf aA hA
   have r9 := qA 9 4 hA sbMi1 zsz (hf 4 (by decide))
   exact fV rfl rfl _ (ex_loadR 42 (.tmp 9) rfl ⟨g2, 1, none⟩ r9 (fun _ => by kernel_rfl) (encU b.2.1) (by rw [encU_len]; kernel_rfl) ((HX2.out.keepB hS).part (encU b.2.1) 1 (encC_key b))) hS uS
  ·intro f w1 hS hf aA hA
   have r3 := qO 3 hA z3
   exact fV rfl rfl _ (fld2C (.tmp 3) rfl g2 r3) hS uS
  ·intro f w1 hS hf aA hA
   have r11 := qA 11 6 hA sbMi1 zsz (hf 6 (by decide))
   exact fV rfl rfl _ (ex_loadR 42 (.tmp 11) rfl ⟨g2, 33, none⟩ r11 (fun _ => by kernel_rfl) (encU b.2.2) (by rw [encU_len]; kernel_rfl) ((HX2.out.keepB hS).part (encU b.2.2) 33 (encC_chk b))) hS uS
  ·intro f w1 hS hf aA hA
   have r5 := qA 5 0 hA sbMi1 zsz (hf 0 (by decide))
   have r8 := qA 8 3 hA sbMi1 zsz (hf 3 (by decide))
   have r10 := qA 10 5 hA sbMi1 zsz (hf 5 (by decide))
   have r12 := qA 12 7 hA sbMi1 zsz (hf 7 (by decide))
   exact fC rfl rfl 61 #[(.tmp 5), (.tmp 8), (.tmp 10), (.tmp 12)] _ rfl #[aggC a, .int .i64 (IntKind.i64.wrap (0 - b.1)), .agg (encU b.2.1).toArray, .agg (encU b.2.2).toArray] (by simp only [List.map_toArray, List.map_cons, List.map_nil, r5, r8, r10, r12]) (fun w => by kernel_rfl) _ (with_any a (IntKind.i64.wrap (0 - b.1)) b.2.1 b.2.2 w1) hS (fun _ _ h => uS.trans h)
 intro f w1 hS hf hap
 have h0 := eqL (hf 0 (by decide)) rfl
 have h1 := eqL (hf 1 (by decide)) rfl
 have h2 := eqL (hf 2 (by decide)) rfl
 have h3 := eqL (hf 3 (by decide)) rfl
 have h4 := eqL (hf 4 (by decide)) rfl
 have h5 := eqL (hf 5 (by decide)) rfl
 have h6 := eqL (hf 6 (by decide)) rfl
 have h7 := eqL (hf 7 (by decide)) rfl
 have h8 := eqL (hf 8 (by decide)) rfl
 clear hf hap
 clear zsz z2 z3
 subst ha0
 simp only [slotsMi1, putAll, h0, h1, h2, h3, h4, h5, h6, h7, h8, Act.put, List.setIfInBounds_toArray, List.set_cons_zero, List.set_cons_succ]
 clear h0 h1 h2 h3 h4 h5 h6 h7 h8
 refine tl_store rfl (by kernel_rfl) 47 (.tmp 4) (.tmp 13) rfl g3 (encC (minusC a b)) _ rfl rfl _ (HX3.out.keepB hS) (by rw [encC_len]; kernel_rfl) (by rw [encC_len, encC_len]) (encC_ones _) ?_
 intro w9 hp hbl hot
 refine tl_nil ?_
 have HP := Lib.hid hp
 have HF := Lib.hid ((HB.out.trans (hS.mono HB.out.size)).trans (hbl _ HGg3.out))
 clear hp hbl hot hS
 go_wp2_with fail
 (try simp only [Exit.inBlock, Exit.then])
 refine bodyPost_ret (v := .agg (encC (minusC a b)).toArray) ?_ rfl ⟨⟨_, rfl, rfl⟩, HF.out⟩
 exact results_cell_row rfl _ _ g3 47 _ (0, 0) _ rfl HP.out Tryd.underlying47 rfl (by rw [List.size_toArray, encC_len]; kernel_rfl)
theorem minus_any (a : Ce) (b : Ce) (w : World) : Calls Tryd.prog 49 #[aggC a, aggC b] w fun e w' => (∃ v, e = .returned v ∧ v = aggC (minusC a b)) ∧ Below w.heap.size w w' := minus_b a b w w (Below.refl _ _)
end Go.Proofs.YtnkcehmgagpadaaDoor
/- Contracts: package cell's Zero, Pure; sum.Sum.Zero. Condition: the sums' tables are laid (Pure). -/
namespace Go.Proofs.YtnkcehmgagpadaaDoor
open Go.RowKit
def waitzeroC1 (i : Nat) : List Nat := ([[], [], [0, 1], [2]] : List (List Nat)).getD i []
def slotszeroC1 : List (Nat × Nat) := [(3, 0), (4, 1), (5, 2), (2, 3)]
theorem sbzeroC1 : slotsB slotszeroC1 = true := by kernel_rfl
theorem chkzeroC1 : flwO slotszeroC1 waitzeroC1 4 (regOf Tryd.f42.body 1) = true := by kernel_rfl
set_option maxHeartbeats 4000000 in
set_option maxRecDepth 100000 in
theorem zeroC_b (c : Ce) (w w0 : World) (hB : Below w.heap.size w w0) : Calls Tryd.prog 42 #[aggC c] w0 fun e w' => (∃ v, e = .returned v ∧ v = .bool (decide (c = zC))) ∧ Below w.heap.size w w' := by
 go_enter Tryd.func42, Tryd.ntmps42
 have HB := Lib.hid hB
 clear hB
 go_upto_region 0 with fail
 refine wp_region_lit ?_
 try simp only [Act.put, List.setIfInBounds_toArray, List.set_cons_zero, List.set_cons_succ]
 refine lp_step rfl (fun K hK => wp_box_row 47 (.tmp 0) rfl (aggC c) rfl (hK _ _ ?_))
 try simp only [Act.put, List.setIfInBounds_toArray, List.set_cons_zero, List.set_cons_succ]
 show wpList _ _ _ _ _ (w0.alloc (.cells (encC c).toArray 47))
 have HST : Hid (Below w0.heap.size w0 (w0.alloc (.cells (encC c).toArray 47))) := Lib.hid ((Below.refl _ _).alloc (Nat.le_refl _) _)
 have HX1 : Hid (Has (w0.alloc (.cells (encC c).toArray 47)) w0.heap.size 47 (encC c)) := Lib.hid (Has.made' _ _ _ _ rfl)
 have HGg1 : Hid (w.heap.size ≤ w0.heap.size) := Lib.hid HB.out.size
 replace HB := Lib.hid (HB.out.trans (HST.out.mono HB.out.size))
 clear HST
 generalize w0.alloc (.cells (encC c).toArray 47) = w1 at *
 generalize w0.heap.size = g1 at *
 refine lp_pure rfl (ex_assign _ rfl rfl) ?_
 try simp only [Act.put, List.setIfInBounds_toArray, List.set_cons_zero, List.set_cons_succ]
 refine wpList_nil ?_
 go_upto_region 1 with fail
 refine wp_act (fun a0 ha0 => ?_)
 have zsz : a0.tmps.size = 6 := by rw [ha0]; rfl
 have z1 : a0.eval (.tmp 1) = .pointer (some ⟨g1, 0, none⟩) := by rw [ha0]; rfl
 refine wrO [] slotszeroC1 waitzeroC1 [Fct.val Flz 0 (aggC c), Fct.val Flz 1 (aggC zC), Fct.val Flz 2 (.bool (decide (c = zC))), Fct.val Flz 3 (.bool (decide (c = zC)))] (fun w' => Below w1.heap.size w1 w') _ 4 0 chkzeroC1 (by kernel_rfl) (by kernel_rfl) (by kernel_rfl) (by decide) (Below.refl _ _) ?_ ?_
 ·refine lt_s (lt_s (lt_s (lt_s (lt_0) ?_) ?_) ?_) ?_
  ·intro f w1 hS hf aA hA
   have r1 := qO 1 hA z1
   exact fV rfl rfl _ (ex_loadR 47 (.tmp 1) rfl ⟨g1, 0, none⟩ r1 (fun _ => by kernel_rfl) (encC c) (by rw [encC_len]; kernel_rfl) ((HX1.out.keepB hS).part (encC c) 0 (encC_all c))) hS uS
  ·intro f w1 hS hf aA hA
   exact fV rfl rfl _ (ex_build 47 _ rfl (encC zC).toArray [] (by kernel_rfl) (builtC0)) hS uS
  ·intro f w1 hS hf aA hA
   have r3 := qA 3 0 hA sbzeroC1 zsz (hf 0 (by decide))
   have r4 := qA 4 1 hA sbzeroC1 zsz (hf 1 (by decide))
   exact fV rfl rfl _ (eqlC (.tmp 3) (.tmp 4) _ rfl c zC r3 r4) hS uS
  ·intro f w1 hS hf aA hA
   have r5 := qA 5 2 hA sbzeroC1 zsz (hf 2 (by decide))
   exact fV rfl rfl _ (ex_assign (.tmp 5) rfl r5) hS uS
 intro f w1 hS hf hap
 have h0 := eqL (hf 0 (by decide)) rfl
 have h1 := eqL (hf 1 (by decide)) rfl
 have h2 := eqL (hf 2 (by decide)) rfl
 have h3 := eqL (hf 3 (by decide)) rfl
 clear hf hap
 clear zsz z1
 subst ha0
 simp only [slotszeroC1, putAll, h0, h1, h2, h3, Act.put, List.setIfInBounds_toArray, List.set_cons_zero, List.set_cons_succ]
 clear h0 h1 h2 h3
 refine tl_nil ?_
 have HF := Lib.hid (HB.out.trans (hS.mono HB.out.size))
 clear hS
 go_wp2_with fail
 go_ret
 exact ⟨⟨_, rfl, rfl⟩, HF.out⟩
theorem zeroC_any (c : Ce) (w : World) : Calls Tryd.prog 42 #[aggC c] w fun e w' => (∃ v, e = .returned v ∧ v = .bool (decide (c = zC))) ∧ Below w.heap.size w w' := zeroC_b c w w (Below.refl _ _)
/-- Whether one is alone in it. -/
def isPure (c : Ce) : Bool := (decide (c.1 = 1) || decide (c.1 = -1)) && decide (c.2.2 = chkS c.2.1)
def pureV (c : Ce) : Value := if isPure c = true then .tuple #[.agg (encU c.2.1).toArray, .bool (c.1 == 1), .bool true] else .tuple #[.agg (encU zS).toArray, .bool false, .bool false]
theorem pureV_on {c : Ce} (h : isPure c = true) : pureV c = .tuple #[.agg (encU c.2.1).toArray, .bool (c.1 == 1), .bool true] := if_pos h
theorem pureV_off {c : Ce} (h : isPure c = false) : pureV c = .tuple #[.agg (encU zS).toArray, .bool false, .bool false] := if_neg (by rw [h]; simp)
theorem results_cell3A {fn : Func} {p u z : Tmp} {ty : TypeId} (h : fn.results = #[.cell p ty, .tmp u, .tmp z]) (tmps : Array Value) (w : World) (g : Nat) (t : TypeId) (cs : Array Value) (fr : Nat × Nat) (n : Nat) (E : TypeId)
  (hp : tmps.getD p undef = .pointer (some ⟨g, 0, none⟩)) (hg : w.heap[g]? = some (.cells cs t fr)) (x y : Value) (hx : tmps.getD u undef = x) (hy : tmps.getD z undef = y)
  (hu : Tryd.prog.underlying ty = some (.array n E)) (hi : (Tryd.prog.info? ty).map (·.size) = some cs.size) :
  (results fn tmps).run Tryd.prog w = .ok (.tuple #[.agg cs, x, y]) w := by
 have hp' : tmps[p]?.getD undef = .pointer (some ⟨g, 0, none⟩) := by simpa using hp
 have hx' : tmps[u]?.getD undef = x := by simpa using hx
 have hy' : tmps[z]?.getD undef = y := by simpa using hy
 simp [results, h, hp', hx', hy', asAddr, run_loadVar_row w g t ty cs fr _ hg hu rfl hi]
def waitPz1 (i : Nat) : List Nat := ([[], [0], [1], [2], [3], [3], [3], [3, 6], [7], [8], [8, 9], [8], [8, 11], [8, 12], [8, 10, 13], [8, 14]] : List (List Nat)).getD i []
def slotsPz1 : List (Nat × Nat) := [(5, 0), (6, 1), (7, 2), (8, 3), (9, 4), (10, 5), (11, 6), (12, 7), (13, 8), (14, 9), (15, 10), (16, 11), (17, 12), (18, 13), (19, 14), (20, 15)]
theorem sbPz1 : slotsB slotsPz1 = true := by kernel_rfl
theorem chkPz1 : flwB slotsPz1 waitPz1 16 (regOf Tryd.f53.body 1) = true := by kernel_rfl
def waitPn2 (i : Nat) : List Nat := ([[], [0], [0, 1], [0, 1, 2]] : List (List Nat)).getD i []
def slotsPn2 : List (Nat × Nat) := [(21, 0), (3, 2), (4, 3)]
theorem chkPn2 : flwO slotsPn2 waitPn2 1 (regOf Tryd.f53.body 2) = true := by kernel_rfl
def waitPz3 (i : Nat) : List Nat := ([[], [0], [1], [2], [3], [3, 4], [3, 5], [3, 6], [7], [8], [8, 9], [8], [8, 11], [8, 12], [8, 10, 13], [8, 14]] : List (List Nat)).getD i []
def slotsPz3 : List (Nat × Nat) := [(5, 0), (6, 1), (7, 2), (8, 3), (9, 4), (10, 5), (11, 6), (12, 7), (13, 8), (14, 9), (15, 10), (16, 11), (17, 12), (18, 13), (19, 14), (20, 15)]
theorem sbPz3 : slotsB slotsPz3 = true := by kernel_rfl
theorem chkPz3 : flwB slotsPz3 waitPz3 16 (regOf Tryd.f53.body 1) = true := by kernel_rfl
def waitPz5 (i : Nat) : List Nat := ([[], [0], [1], [2], [3], [3, 4], [3, 5], [3, 6], [7], [8], [8], [8], [8], [8], [8], [8, 14]] : List (List Nat)).getD i []
def slotsPz5 : List (Nat × Nat) := [(5, 0), (6, 1), (7, 2), (8, 3), (9, 4), (10, 5), (11, 6), (12, 7), (13, 8), (14, 9), (15, 10), (16, 11), (17, 12), (18, 13), (19, 14), (20, 15)]
theorem sbPz5 : slotsB slotsPz5 = true := by kernel_rfl
theorem chkPz5 : flwB slotsPz5 waitPz5 16 (regOf Tryd.f53.body 1) = true := by kernel_rfl
set_option maxHeartbeats 4000000 in
set_option maxRecDepth 100000 in
theorem pure_b (c : Ce) (w w0 : World) (hB : Below w.heap.size w w0) (hL : Laid w) : Calls Tryd.prog 53 #[aggC c] w0 fun e w' => (∃ v, e = .returned v ∧ v = pureV c) ∧ Below w.heap.size w w' := by
 go_enter Tryd.func53, Tryd.ntmps53
 have HB := Lib.hid hB
 clear hB
 have HL := Lib.hid hL
 have HSZ := Lib.hid hL.size
 clear hL
 go_upto_region 0 with fail
 refine wp_region_lit ?_
 try simp only [Act.put, List.setIfInBounds_toArray, List.set_cons_zero, List.set_cons_succ]
 refine lp_step rfl (fun K hK => wp_box_row 47 (.tmp 0) rfl (aggC c) rfl (hK _ _ ?_))
 try simp only [Act.put, List.setIfInBounds_toArray, List.set_cons_zero, List.set_cons_succ]
 show wpList _ _ _ _ _ (w0.alloc (.cells (encC c).toArray 47))
 have HST : Hid (Below w0.heap.size w0 (w0.alloc (.cells (encC c).toArray 47))) := Lib.hid ((Below.refl _ _).alloc (Nat.le_refl _) _)
 have HX1 : Hid (Has (w0.alloc (.cells (encC c).toArray 47)) w0.heap.size 47 (encC c)) := Lib.hid (Has.made' _ _ _ _ rfl)
 have HGg1 : Hid (w.heap.size ≤ w0.heap.size) := Lib.hid HB.out.size
 replace HB := Lib.hid (HB.out.trans (HST.out.mono HB.out.size))
 clear HST
 generalize w0.alloc (.cells (encC c).toArray 47) = w1 at *
 generalize w0.heap.size = g1 at *
 refine lp_step rfl (fun K hK => wp_alloc_row 42 rfl (.agg (encU zS).toArray) (fun w => by kernel_rfl) (hK _ _ ?_))
 try simp only [Act.put, List.setIfInBounds_toArray, List.set_cons_zero, List.set_cons_succ]
 show wpList _ _ _ _ _ (w1.alloc (.cells (encU zS).toArray 42))
 have HST : Hid (Below w1.heap.size w1 (w1.alloc (.cells (encU zS).toArray 42))) := Lib.hid ((Below.refl _ _).alloc (Nat.le_refl _) _)
 have HX2 : Hid (Has (w1.alloc (.cells (encU zS).toArray 42)) w1.heap.size 42 (encU zS)) := Lib.hid (Has.made' _ _ _ _ rfl)
 replace HX1 := Lib.hid (HX1.out.keepB HST.out)
 have HGg2 : Hid (w.heap.size ≤ w1.heap.size) := Lib.hid HB.out.size
 replace HB := Lib.hid (HB.out.trans (HST.out.mono HB.out.size))
 clear HST
 generalize w1.alloc (.cells (encU zS).toArray 42) = w2 at *
 generalize w1.heap.size = g2 at *
 refine lp_pure rfl (ex_assign _ rfl rfl) ?_
 try simp only [Act.put, List.setIfInBounds_toArray, List.set_cons_zero, List.set_cons_succ]
 refine lp_pure rfl (ex_assign _ rfl rfl) ?_
 try simp only [Act.put, List.setIfInBounds_toArray, List.set_cons_zero, List.set_cons_succ]
 refine wpList_nil ?_
 go_upto_region 1 with fail
 have HST : Hid (Below w2.heap.size w2 w2.drew) := Lib.hid (Below.refl _ _).drew
 replace HX1 := Lib.hid (HX1.out.keepB HST.out)
 replace HX2 := Lib.hid (HX2.out.keepB HST.out)
 replace HB := Lib.hid (HB.out.trans (HST.out.mono HB.out.size))
 clear HST
 by_cases k1 : c.1 = 1
 ·have e1 : (c.1 != (1 : Int)) = false := by simp [k1]
  by_cases k3 : c.2.2 = chkS c.2.1
  ·have e3 : (!decide (c.2.2 = chkS c.2.1)) = false := by simp [k3]
   have hp : isPure c = true := by simp [isPure, k1, k3]
   refine wp_act (fun a0 ha0 => ?_)
   have zsz : a0.tmps.size = 27 := by rw [ha0]; rfl
   have z1 : a0.eval (.tmp 1) = .pointer (some ⟨g1, 0, none⟩) := by rw [ha0]; rfl
   refine wrD [] slotsPz1 waitPz1 [Fct.val Flz 0 (.pointer (some ⟨g1, 0, none⟩)), Fct.val Flz 1 (.int .i64 (c.1)), Fct.val Flz 2 (.bool false), Fct.val Flz 3 (.bool false), Fct.val Flz 4 (undef), Fct.val Flz 5 (undef), Fct.val Flz 6 (undef), Fct.val Flz 7 (.bool false), Fct.val Flz 8 (.bool false), Fct.val Flz 9 (.pointer (some ⟨g1, 33, none⟩)), Fct.val Flz 10 (.agg (encU c.2.2).toArray), Fct.val Flz 11 (.pointer (some ⟨g1, 1, none⟩)), Fct.val Flz 12 (.agg (encU c.2.1).toArray), Fct.val Flz 13 (.agg (encU (chkS c.2.1)).toArray), Fct.val Flz 14 (.bool false), Fct.val Flz 15 (.bool false)] (fun w' => Below w2.drew.heap.size w2.drew w') _ 16 0 chkPz1 (by kernel_rfl) (by kernel_rfl) (by kernel_rfl) (by kernel_rfl) (by decide) (Below.refl _ _) ?_ ?_
   ·refine lt_s (lt_s (lt_s (lt_s (lt_s (lt_s (lt_s (lt_s (lt_s (lt_s (lt_s (lt_s (lt_s (lt_s (lt_s (lt_s (lt_0) ?_) ?_) ?_) ?_) ?_) ?_) ?_) ?_) ?_) ?_) ?_) ?_) ?_) ?_) ?_) ?_
    ·intro f w1 hS hf aA hA
     have r1 := qO 1 hA z1
     exact fV rfl rfl _ (fld0C (.tmp 1) rfl g1 r1) hS uS
    ·intro f w1 hS hf aA hA
     have r5 := qA 5 0 hA sbPz1 zsz (hf 0 (by decide))
     exact fV rfl rfl _ (ex_load1 2 (.tmp 5) rfl ⟨g1, 0, none⟩ r5 (fun _ => by kernel_rfl) ((HX1.out.keepB hS).cellv (encC_0 c))) hS uS
    ·intro f w1 hS hf aA hA
     have r6 := qA 6 1 hA sbPz1 zsz (hf 1 (by decide))
     exact fV rfl rfl _ (Eq.trans (ex_int .neq _ _ (.tmp 6) _ rfl .i64 c.1 1 r6 rfl (.bool (c.1 != (1 : Int))) (fun _ => rfl)) (by rw [e1])) hS uS
    ·intro f w1 hS hf aA hA
     have r7 := qA 7 2 hA sbPz1 zsz (hf 2 (by decide))
     exact fV rfl rfl _ (ex_move (.tmp 7) rfl r7) hS uS
    ·intro f w1 hS hf aA hA
     have t8 := qG 8 3 hA sbPz1 zsz (hf 3 (by decide))
     exact flw_skip rfl ((wanted_of rfl 8 rfl t8).trans rfl) hS (Flz.refl _) uS
    ·intro f w1 hS hf aA hA
     have t8 := qG 8 3 hA sbPz1 zsz (hf 3 (by decide))
     exact flw_skip rfl ((wanted_of rfl 8 rfl t8).trans rfl) hS (Flz.refl _) uS
    ·intro f w1 hS hf aA hA
     have t8 := qG 8 3 hA sbPz1 zsz (hf 3 (by decide))
     exact flw_skip rfl ((wanted_of rfl 8 rfl t8).trans rfl) hS (Flz.refl _) uS
    ·intro f w1 hS hf aA hA
     have r8 := qA 8 3 hA sbPz1 zsz (hf 3 (by decide))
     exact fV rfl rfl (.bool false) (ex_pick (.tmp 8) (.tmp 11) _ rfl false r8 ((if_neg (by decide)).trans rfl)) hS uS
    ·intro f w1 hS hf aA hA
     have r12 := qA 12 7 hA sbPz1 zsz (hf 7 (by decide))
     exact fV rfl rfl _ (ex_move (.tmp 12) rfl r12) hS uS
    ·intro f w1 hS hf aA hA
     have t13 := qG 13 8 hA sbPz1 zsz (hf 8 (by decide))
     have r1 := qO 1 hA z1
     exact fV rfl ((wanted_of rfl 13 rfl t13).trans rfl) _ (fld2C (.tmp 1) rfl g1 r1) hS uS
    ·intro f w1 hS hf aA hA
     have t13 := qG 13 8 hA sbPz1 zsz (hf 8 (by decide))
     have r14 := qA 14 9 hA sbPz1 zsz (hf 9 (by decide))
     exact fV rfl ((wanted_of rfl 13 rfl t13).trans rfl) _ (ex_loadR 42 (.tmp 14) rfl ⟨g1, 33, none⟩ r14 (fun _ => by kernel_rfl) (encU c.2.2) (by rw [encU_len]; kernel_rfl) ((HX1.out.keepB hS).part (encU c.2.2) 33 (encC_chk c))) hS uS
    ·intro f w1 hS hf aA hA
     have t13 := qG 13 8 hA sbPz1 zsz (hf 8 (by decide))
     have r1 := qO 1 hA z1
     exact fV rfl ((wanted_of rfl 13 rfl t13).trans rfl) _ (fld1C (.tmp 1) rfl g1 r1) hS uS
    ·intro f w1 hS hf aA hA
     have t13 := qG 13 8 hA sbPz1 zsz (hf 8 (by decide))
     have r16 := qA 16 11 hA sbPz1 zsz (hf 11 (by decide))
     exact fV rfl ((wanted_of rfl 13 rfl t13).trans rfl) _ (ex_loadR 42 (.tmp 16) rfl ⟨g1, 1, none⟩ r16 (fun _ => by kernel_rfl) (encU c.2.1) (by rw [encU_len]; kernel_rfl) ((HX1.out.keepB hS).part (encU c.2.1) 1 (encC_key c))) hS uS
    ·intro f w1 hS hf aA hA
     have t13 := qG 13 8 hA sbPz1 zsz (hf 8 (by decide))
     have r17 := qA 17 12 hA sbPz1 zsz (hf 12 (by decide))
     exact fC rfl ((wanted_of rfl 13 rfl t13).trans rfl) 62 #[(.tmp 17)] _ rfl #[.agg (encU c.2.1).toArray] (mp1 r17) (fun w => by kernel_rfl) _ (chk_any c.2.1 w1 (HL.out.keep (HB.out.trans (hS.mono HB.out.size)) HSZ.out)) hS (fun _ _ h => uS.trans h)
    ·intro f w1 hS hf aA hA
     have t13 := qG 13 8 hA sbPz1 zsz (hf 8 (by decide))
     have r15 := qA 15 10 hA sbPz1 zsz (hf 10 (by decide))
     have r18 := qA 18 13 hA sbPz1 zsz (hf 13 (by decide))
     exact fV rfl ((wanted_of rfl 13 rfl t13).trans rfl) _ (Eq.trans (neq_su 42 (.tmp 15) (.tmp 18) _ rfl c.2.2 (chkS c.2.1) r15 r18 (by kernel_rfl) (by kernel_rfl)) (by rw [e3])) hS uS
    ·intro f w1 hS hf aA hA
     have r13 := qA 13 8 hA sbPz1 zsz (hf 8 (by decide))
     have r19 := qA 19 14 hA sbPz1 zsz (hf 14 (by decide))
     exact fV rfl rfl (.bool false) (ex_pick (.tmp 13) _ (.tmp 19) rfl false r13 ((if_neg (by decide)).trans r19)) hS uS
   intro f w3 hS hf hap
   have h0 := eqL (hf 0 (by decide)) rfl
   have h1 := eqL (hf 1 (by decide)) rfl
   have h2 := eqL (hf 2 (by decide)) rfl
   have h3 := eqL (hf 3 (by decide)) rfl
   have h4 := eqL (hf 4 (by decide)) rfl
   have h5 := eqL (hf 5 (by decide)) rfl
   have h6 := eqL (hf 6 (by decide)) rfl
   have h7 := eqL (hf 7 (by decide)) rfl
   have h8 := eqL (hf 8 (by decide)) rfl
   have h9 := eqL (hf 9 (by decide)) rfl
   have h10 := eqL (hf 10 (by decide)) rfl
   have h11 := eqL (hf 11 (by decide)) rfl
   have h12 := eqL (hf 12 (by decide)) rfl
   have h13 := eqL (hf 13 (by decide)) rfl
   have h14 := eqL (hf 14 (by decide)) rfl
   have h15 := eqL (hf 15 (by decide)) rfl
   clear hf hap
   clear zsz z1
   subst ha0
   simp only [slotsPz1, putAll, h0, h1, h2, h3, h4, h5, h6, h7, h8, h9, h10, h11, h12, h13, h14, h15, Act.put, List.setIfInBounds_toArray, List.set_cons_zero, List.set_cons_succ]
   clear h0 h1 h2 h3 h4 h5 h6 h7 h8 h9 h10 h11 h12 h13 h14 h15
   refine tl_nilN ?_
   replace HX1 := Lib.hid (HX1.out.keepB hS)
   replace HX2 := Lib.hid (HX2.out.keepB hS)
   replace HB := Lib.hid (HB.out.trans (hS.mono HB.out.size))
   clear hS
   go_upto_region 3 with fail
   refine wp_region_ors (fun w' => Has w' g1 47 (encC c) ∧ Below w.heap.size w w') [(0, true), (1, true), (2, true), (3, true), (4, true), (5, false), (6, true), (7, true)] (by kernel_rfl) (by kernel_rfl) (by kernel_rfl) ⟨HX1.out, HB.out.drew⟩ ?_
   have HX2D : Hid (Has w3.drew g2 42 (encU zS)) := Lib.hid HX2.out
   have HBD := Lib.hid HB.out.drew
   have HNE : Hid (g1 ≠ g2) := Lib.hid (HX1.out.apartT HX2.out (by decide))
   refine ors_pure (by kernel_rfl) (fun w' hw' => fld1C (.tmp 1) rfl g1 rfl) ?_
   try simp only [Act.put, List.setIfInBounds_toArray, List.set_cons_zero, List.set_cons_succ]
   refine ors_pure (by kernel_rfl) (fun w' hw' => ex_loadR 42 (.tmp 22) rfl ⟨g1, 1, none⟩ rfl (fun _ => by kernel_rfl) (encU c.2.1) (by rw [encU_len]; kernel_rfl) (hw'.1.part (encU c.2.1) 1 (encC_key c))) ?_
   try simp only [Act.put, List.setIfInBounds_toArray, List.set_cons_zero, List.set_cons_succ]
   refine ors_pure (by kernel_rfl) (fun w' hw' => fld0C (.tmp 1) rfl g1 rfl) ?_
   try simp only [Act.put, List.setIfInBounds_toArray, List.set_cons_zero, List.set_cons_succ]
   refine ors_pure (by kernel_rfl) (fun w' hw' => ex_load1 2 (.tmp 24) rfl ⟨g1, 0, none⟩ rfl (fun _ => by kernel_rfl) (hw'.1.cellv (encC_0 c))) ?_
   try simp only [Act.put, List.setIfInBounds_toArray, List.set_cons_zero, List.set_cons_succ]
   refine ors_pure (by kernel_rfl) (fun w' hw' => ex_int .eql _ _ (.tmp 25) _ rfl .i64 c.1 1 rfl rfl (.bool (c.1 == 1)) (fun _ => rfl)) ?_
   try simp only [Act.put, List.setIfInBounds_toArray, List.set_cons_zero, List.set_cons_succ]
   refine ors_step (by kernel_rfl) (fun K hK => wp_store_row 42 (.tmp 2) (.tmp 23) rfl g2 (encU c.2.1).toArray rfl rfl 42 (encU zS).toArray HX2D.out (by rw [List.size_toArray, encU_len]; kernel_rfl) (by rw [List.size_toArray, List.size_toArray, encU_len, encU_len]) (encU_all _) (hK _ _ ⟨⟨?_, ?_⟩, ?_⟩))
   ·exact (setRow_other _ g2 g1 _ HNE.out).trans HX1.out
   ·exact below_row HBD.out HGg2.out _
   have HP : Hid (Has (w3.drew.setRow g2 (encU c.2.1).toArray) g2 42 (encU c.2.1)) := Lib.hid (HX2D.out.rowl _)
   have HF := Lib.hid (below_row HBD.out HGg2.out (encU c.2.1).toArray)
   simp only [Act.put]
   refine ors_pure (by kernel_rfl) (fun w' hw' => ex_assign (.tmp 26) rfl rfl) ?_
   try simp only [Act.put, List.setIfInBounds_toArray, List.set_cons_zero, List.set_cons_succ]
   refine ors_pure (by kernel_rfl) (fun w' hw' => ex_assign _ rfl rfl) ?_
   try simp only [Act.put, List.setIfInBounds_toArray, List.set_cons_zero, List.set_cons_succ]
   refine ors_nil ?_
   go_wp2_with fail
   (try simp only [Exit.inBlock, Exit.then])
   refine bodyPost_ret (v := .tuple #[.agg (encU c.2.1).toArray, .bool (c.1 == 1), .bool true]) ?_ rfl ⟨⟨_, rfl, (pureV_on hp).symm⟩, HF.out⟩
   exact results_cell3A rfl _ _ g2 42 _ (0, 0) 32 5 rfl HP.out _ _ rfl rfl Tryd.underlying42 (by rw [List.size_toArray, encU_len]; kernel_rfl)
  ·have e3 : (!decide (c.2.2 = chkS c.2.1)) = true := by simp [k3]
   have hp : isPure c = false := by simp [isPure, k3]
   refine wp_act (fun a0 ha0 => ?_)
   have zsz : a0.tmps.size = 27 := by rw [ha0]; rfl
   have z1 : a0.eval (.tmp 1) = .pointer (some ⟨g1, 0, none⟩) := by rw [ha0]; rfl
   refine wrD [] slotsPz1 waitPz1 [Fct.val Flz 0 (.pointer (some ⟨g1, 0, none⟩)), Fct.val Flz 1 (.int .i64 (c.1)), Fct.val Flz 2 (.bool false), Fct.val Flz 3 (.bool false), Fct.val Flz 4 (undef), Fct.val Flz 5 (undef), Fct.val Flz 6 (undef), Fct.val Flz 7 (.bool false), Fct.val Flz 8 (.bool false), Fct.val Flz 9 (.pointer (some ⟨g1, 33, none⟩)), Fct.val Flz 10 (.agg (encU c.2.2).toArray), Fct.val Flz 11 (.pointer (some ⟨g1, 1, none⟩)), Fct.val Flz 12 (.agg (encU c.2.1).toArray), Fct.val Flz 13 (.agg (encU (chkS c.2.1)).toArray), Fct.val Flz 14 (.bool true), Fct.val Flz 15 (.bool true)] (fun w' => Below w2.drew.heap.size w2.drew w') _ 16 0 chkPz1 (by kernel_rfl) (by kernel_rfl) (by kernel_rfl) (by kernel_rfl) (by decide) (Below.refl _ _) ?_ ?_
   ·refine lt_s (lt_s (lt_s (lt_s (lt_s (lt_s (lt_s (lt_s (lt_s (lt_s (lt_s (lt_s (lt_s (lt_s (lt_s (lt_s (lt_0) ?_) ?_) ?_) ?_) ?_) ?_) ?_) ?_) ?_) ?_) ?_) ?_) ?_) ?_) ?_) ?_
    ·intro f w1 hS hf aA hA
     have r1 := qO 1 hA z1
     exact fV rfl rfl _ (fld0C (.tmp 1) rfl g1 r1) hS uS
    ·intro f w1 hS hf aA hA
     have r5 := qA 5 0 hA sbPz1 zsz (hf 0 (by decide))
     exact fV rfl rfl _ (ex_load1 2 (.tmp 5) rfl ⟨g1, 0, none⟩ r5 (fun _ => by kernel_rfl) ((HX1.out.keepB hS).cellv (encC_0 c))) hS uS
    ·intro f w1 hS hf aA hA
     have r6 := qA 6 1 hA sbPz1 zsz (hf 1 (by decide))
     exact fV rfl rfl _ (Eq.trans (ex_int .neq _ _ (.tmp 6) _ rfl .i64 c.1 1 r6 rfl (.bool (c.1 != (1 : Int))) (fun _ => rfl)) (by rw [e1])) hS uS
    ·intro f w1 hS hf aA hA
     have r7 := qA 7 2 hA sbPz1 zsz (hf 2 (by decide))
     exact fV rfl rfl _ (ex_move (.tmp 7) rfl r7) hS uS
    ·intro f w1 hS hf aA hA
     have t8 := qG 8 3 hA sbPz1 zsz (hf 3 (by decide))
     exact flw_skip rfl ((wanted_of rfl 8 rfl t8).trans rfl) hS (Flz.refl _) uS
    ·intro f w1 hS hf aA hA
     have t8 := qG 8 3 hA sbPz1 zsz (hf 3 (by decide))
     exact flw_skip rfl ((wanted_of rfl 8 rfl t8).trans rfl) hS (Flz.refl _) uS
    ·intro f w1 hS hf aA hA
     have t8 := qG 8 3 hA sbPz1 zsz (hf 3 (by decide))
     exact flw_skip rfl ((wanted_of rfl 8 rfl t8).trans rfl) hS (Flz.refl _) uS
    ·intro f w1 hS hf aA hA
     have r8 := qA 8 3 hA sbPz1 zsz (hf 3 (by decide))
     exact fV rfl rfl (.bool false) (ex_pick (.tmp 8) (.tmp 11) _ rfl false r8 ((if_neg (by decide)).trans rfl)) hS uS
    ·intro f w1 hS hf aA hA
     have r12 := qA 12 7 hA sbPz1 zsz (hf 7 (by decide))
     exact fV rfl rfl _ (ex_move (.tmp 12) rfl r12) hS uS
    ·intro f w1 hS hf aA hA
     have t13 := qG 13 8 hA sbPz1 zsz (hf 8 (by decide))
     have r1 := qO 1 hA z1
     exact fV rfl ((wanted_of rfl 13 rfl t13).trans rfl) _ (fld2C (.tmp 1) rfl g1 r1) hS uS
    ·intro f w1 hS hf aA hA
     have t13 := qG 13 8 hA sbPz1 zsz (hf 8 (by decide))
     have r14 := qA 14 9 hA sbPz1 zsz (hf 9 (by decide))
     exact fV rfl ((wanted_of rfl 13 rfl t13).trans rfl) _ (ex_loadR 42 (.tmp 14) rfl ⟨g1, 33, none⟩ r14 (fun _ => by kernel_rfl) (encU c.2.2) (by rw [encU_len]; kernel_rfl) ((HX1.out.keepB hS).part (encU c.2.2) 33 (encC_chk c))) hS uS
    ·intro f w1 hS hf aA hA
     have t13 := qG 13 8 hA sbPz1 zsz (hf 8 (by decide))
     have r1 := qO 1 hA z1
     exact fV rfl ((wanted_of rfl 13 rfl t13).trans rfl) _ (fld1C (.tmp 1) rfl g1 r1) hS uS
    ·intro f w1 hS hf aA hA
     have t13 := qG 13 8 hA sbPz1 zsz (hf 8 (by decide))
     have r16 := qA 16 11 hA sbPz1 zsz (hf 11 (by decide))
     exact fV rfl ((wanted_of rfl 13 rfl t13).trans rfl) _ (ex_loadR 42 (.tmp 16) rfl ⟨g1, 1, none⟩ r16 (fun _ => by kernel_rfl) (encU c.2.1) (by rw [encU_len]; kernel_rfl) ((HX1.out.keepB hS).part (encU c.2.1) 1 (encC_key c))) hS uS
    ·intro f w1 hS hf aA hA
     have t13 := qG 13 8 hA sbPz1 zsz (hf 8 (by decide))
     have r17 := qA 17 12 hA sbPz1 zsz (hf 12 (by decide))
     exact fC rfl ((wanted_of rfl 13 rfl t13).trans rfl) 62 #[(.tmp 17)] _ rfl #[.agg (encU c.2.1).toArray] (mp1 r17) (fun w => by kernel_rfl) _ (chk_any c.2.1 w1 (HL.out.keep (HB.out.trans (hS.mono HB.out.size)) HSZ.out)) hS (fun _ _ h => uS.trans h)
    ·intro f w1 hS hf aA hA
     have t13 := qG 13 8 hA sbPz1 zsz (hf 8 (by decide))
     have r15 := qA 15 10 hA sbPz1 zsz (hf 10 (by decide))
     have r18 := qA 18 13 hA sbPz1 zsz (hf 13 (by decide))
     exact fV rfl ((wanted_of rfl 13 rfl t13).trans rfl) _ (Eq.trans (neq_su 42 (.tmp 15) (.tmp 18) _ rfl c.2.2 (chkS c.2.1) r15 r18 (by kernel_rfl) (by kernel_rfl)) (by rw [e3])) hS uS
    ·intro f w1 hS hf aA hA
     have r13 := qA 13 8 hA sbPz1 zsz (hf 8 (by decide))
     have r19 := qA 19 14 hA sbPz1 zsz (hf 14 (by decide))
     exact fV rfl rfl (.bool true) (ex_pick (.tmp 13) _ (.tmp 19) rfl false r13 ((if_neg (by decide)).trans r19)) hS uS
   intro f w3 hS hf hap
   have h0 := eqL (hf 0 (by decide)) rfl
   have h1 := eqL (hf 1 (by decide)) rfl
   have h2 := eqL (hf 2 (by decide)) rfl
   have h3 := eqL (hf 3 (by decide)) rfl
   have h4 := eqL (hf 4 (by decide)) rfl
   have h5 := eqL (hf 5 (by decide)) rfl
   have h6 := eqL (hf 6 (by decide)) rfl
   have h7 := eqL (hf 7 (by decide)) rfl
   have h8 := eqL (hf 8 (by decide)) rfl
   have h9 := eqL (hf 9 (by decide)) rfl
   have h10 := eqL (hf 10 (by decide)) rfl
   have h11 := eqL (hf 11 (by decide)) rfl
   have h12 := eqL (hf 12 (by decide)) rfl
   have h13 := eqL (hf 13 (by decide)) rfl
   have h14 := eqL (hf 14 (by decide)) rfl
   have h15 := eqL (hf 15 (by decide)) rfl
   clear hf hap
   clear zsz z1
   subst ha0
   simp only [slotsPz1, putAll, h0, h1, h2, h3, h4, h5, h6, h7, h8, h9, h10, h11, h12, h13, h14, h15, Act.put, List.setIfInBounds_toArray, List.set_cons_zero, List.set_cons_succ]
   clear h0 h1 h2 h3 h4 h5 h6 h7 h8 h9 h10 h11 h12 h13 h14 h15
   refine tl_nilN ?_
   replace HX1 := Lib.hid (HX1.out.keepB hS)
   replace HX2 := Lib.hid (HX2.out.keepB hS)
   replace HB := Lib.hid (HB.out.trans (hS.mono HB.out.size))
   clear hS
   go_upto_region 2 with fail
   refine wp_act (fun a0 ha0 => ?_)
   have zsz : a0.tmps.size = 27 := by rw [ha0]; rfl
   refine wrO [] slotsPn2 waitPn2 [Fct.val Flz 0 (.agg (encU zS).toArray)] (fun w' => Below w3.heap.size w3 w') _ 1 3 chkPn2 (by kernel_rfl) (by kernel_rfl) (by kernel_rfl) (by decide) (Below.refl _ _) ?_ ?_
   ·refine lt_s (lt_0) ?_
    ·intro f w1 hS hf aA hA
     exact fV rfl rfl _ (ex_build 42 _ rfl (encU zS).toArray [] (by kernel_rfl) (by kernel_rfl)) hS uS
   intro f w4 hS hf hap
   have h0 := eqL (hf 0 (by decide)) rfl
   clear hf hap
   clear zsz
   subst ha0
   simp only [slotsPn2, putAll, h0, Act.put, List.setIfInBounds_toArray, List.set_cons_zero, List.set_cons_succ]
   clear h0
   refine tl_store rfl (by kernel_rfl) 42 (.tmp 2) (.tmp 21) rfl g2 (encU zS) _ rfl rfl _ (HX2.out.keepB hS) (by rw [encU_len]; kernel_rfl) (by simp only [encU_len]) (encU_all _) ?_
   intro w5 hp hbl hot
   have HP := Lib.hid hp
   have HF := Lib.hid ((HB.out.trans (hS.mono HB.out.size)).trans (hbl _ HGg2.out))
   clear hp hbl hot hS
   simp only [Act.put]
   refine tl_pure rfl (by kernel_rfl) (.bool false) (ex_assign _ rfl rfl) ?_
   try simp only [Act.put, List.setIfInBounds_toArray, List.set_cons_zero, List.set_cons_succ]
   refine tl_pure rfl (by kernel_rfl) (.bool false) (ex_assign _ rfl rfl) ?_
   try simp only [Act.put, List.setIfInBounds_toArray, List.set_cons_zero, List.set_cons_succ]
   refine tl_nil ?_
   go_wp2_with fail
   (try simp only [Exit.inBlock, Exit.then])
   refine bodyPost_ret (v := .tuple #[.agg (encU zS).toArray, .bool false, .bool false]) ?_ rfl ⟨⟨_, rfl, (pureV_off hp).symm⟩, HF.out⟩
   exact results_cell3A rfl _ _ g2 42 _ (0, 0) 32 5 rfl HP.out _ _ rfl rfl Tryd.underlying42 (by rw [List.size_toArray, encU_len]; kernel_rfl)
 ·have e1 : (c.1 != (1 : Int)) = true := by simp [k1]
  by_cases k2 : c.1 = -1
  ·have e2 : (c.1 != (-1 : Int)) = false := by simp [k2]
   by_cases k3 : c.2.2 = chkS c.2.1
   ·have e3 : (!decide (c.2.2 = chkS c.2.1)) = false := by simp [k3]
    have hp : isPure c = true := by simp [isPure, k2, k3]
    refine wp_act (fun a0 ha0 => ?_)
    have zsz : a0.tmps.size = 27 := by rw [ha0]; rfl
    have z1 : a0.eval (.tmp 1) = .pointer (some ⟨g1, 0, none⟩) := by rw [ha0]; rfl
    refine wrD [] slotsPz3 waitPz3 [Fct.val Flz 0 (.pointer (some ⟨g1, 0, none⟩)), Fct.val Flz 1 (.int .i64 (c.1)), Fct.val Flz 2 (.bool true), Fct.val Flz 3 (.bool true), Fct.val Flz 4 (.pointer (some ⟨g1, 0, none⟩)), Fct.val Flz 5 (.int .i64 (c.1)), Fct.val Flz 6 (.bool false), Fct.val Flz 7 (.bool false), Fct.val Flz 8 (.bool false), Fct.val Flz 9 (.pointer (some ⟨g1, 33, none⟩)), Fct.val Flz 10 (.agg (encU c.2.2).toArray), Fct.val Flz 11 (.pointer (some ⟨g1, 1, none⟩)), Fct.val Flz 12 (.agg (encU c.2.1).toArray), Fct.val Flz 13 (.agg (encU (chkS c.2.1)).toArray), Fct.val Flz 14 (.bool false), Fct.val Flz 15 (.bool false)] (fun w' => Below w2.drew.heap.size w2.drew w') _ 16 0 chkPz3 (by kernel_rfl) (by kernel_rfl) (by kernel_rfl) (by kernel_rfl) (by decide) (Below.refl _ _) ?_ ?_
    ·refine lt_s (lt_s (lt_s (lt_s (lt_s (lt_s (lt_s (lt_s (lt_s (lt_s (lt_s (lt_s (lt_s (lt_s (lt_s (lt_s (lt_0) ?_) ?_) ?_) ?_) ?_) ?_) ?_) ?_) ?_) ?_) ?_) ?_) ?_) ?_) ?_) ?_
     ·intro f w1 hS hf aA hA
      have r1 := qO 1 hA z1
      exact fV rfl rfl _ (fld0C (.tmp 1) rfl g1 r1) hS uS
     ·intro f w1 hS hf aA hA
      have r5 := qA 5 0 hA sbPz3 zsz (hf 0 (by decide))
      exact fV rfl rfl _ (ex_load1 2 (.tmp 5) rfl ⟨g1, 0, none⟩ r5 (fun _ => by kernel_rfl) ((HX1.out.keepB hS).cellv (encC_0 c))) hS uS
     ·intro f w1 hS hf aA hA
      have r6 := qA 6 1 hA sbPz3 zsz (hf 1 (by decide))
      exact fV rfl rfl _ (Eq.trans (ex_int .neq _ _ (.tmp 6) _ rfl .i64 c.1 1 r6 rfl (.bool (c.1 != (1 : Int))) (fun _ => rfl)) (by rw [e1])) hS uS
     ·intro f w1 hS hf aA hA
      have r7 := qA 7 2 hA sbPz3 zsz (hf 2 (by decide))
      exact fV rfl rfl _ (ex_move (.tmp 7) rfl r7) hS uS
     ·intro f w1 hS hf aA hA
      have t8 := qG 8 3 hA sbPz3 zsz (hf 3 (by decide))
      have r1 := qO 1 hA z1
      exact fV rfl ((wanted_of rfl 8 rfl t8).trans rfl) _ (fld0C (.tmp 1) rfl g1 r1) hS uS
     ·intro f w1 hS hf aA hA
      have t8 := qG 8 3 hA sbPz3 zsz (hf 3 (by decide))
      have r9 := qA 9 4 hA sbPz3 zsz (hf 4 (by decide))
      exact fV rfl ((wanted_of rfl 8 rfl t8).trans rfl) _ (ex_load1 2 (.tmp 9) rfl ⟨g1, 0, none⟩ r9 (fun _ => by kernel_rfl) ((HX1.out.keepB hS).cellv (encC_0 c))) hS uS
     ·intro f w1 hS hf aA hA
      have t8 := qG 8 3 hA sbPz3 zsz (hf 3 (by decide))
      have r10 := qA 10 5 hA sbPz3 zsz (hf 5 (by decide))
      exact fV rfl ((wanted_of rfl 8 rfl t8).trans rfl) _ (Eq.trans (ex_int .neq _ _ (.tmp 10) _ rfl .i64 c.1 ((-1)) r10 rfl (.bool (c.1 != ((-1) : Int))) (fun _ => rfl)) (by rw [e2])) hS uS
     ·intro f w1 hS hf aA hA
      have r8 := qA 8 3 hA sbPz3 zsz (hf 3 (by decide))
      have r11 := qA 11 6 hA sbPz3 zsz (hf 6 (by decide))
      exact fV rfl rfl (.bool false) (ex_pick (.tmp 8) (.tmp 11) _ rfl true r8 ((if_pos rfl).trans r11)) hS uS
     ·intro f w1 hS hf aA hA
      have r12 := qA 12 7 hA sbPz3 zsz (hf 7 (by decide))
      exact fV rfl rfl _ (ex_move (.tmp 12) rfl r12) hS uS
     ·intro f w1 hS hf aA hA
      have t13 := qG 13 8 hA sbPz3 zsz (hf 8 (by decide))
      have r1 := qO 1 hA z1
      exact fV rfl ((wanted_of rfl 13 rfl t13).trans rfl) _ (fld2C (.tmp 1) rfl g1 r1) hS uS
     ·intro f w1 hS hf aA hA
      have t13 := qG 13 8 hA sbPz3 zsz (hf 8 (by decide))
      have r14 := qA 14 9 hA sbPz3 zsz (hf 9 (by decide))
      exact fV rfl ((wanted_of rfl 13 rfl t13).trans rfl) _ (ex_loadR 42 (.tmp 14) rfl ⟨g1, 33, none⟩ r14 (fun _ => by kernel_rfl) (encU c.2.2) (by rw [encU_len]; kernel_rfl) ((HX1.out.keepB hS).part (encU c.2.2) 33 (encC_chk c))) hS uS
     ·intro f w1 hS hf aA hA
      have t13 := qG 13 8 hA sbPz3 zsz (hf 8 (by decide))
      have r1 := qO 1 hA z1
      exact fV rfl ((wanted_of rfl 13 rfl t13).trans rfl) _ (fld1C (.tmp 1) rfl g1 r1) hS uS
     ·intro f w1 hS hf aA hA
      have t13 := qG 13 8 hA sbPz3 zsz (hf 8 (by decide))
      have r16 := qA 16 11 hA sbPz3 zsz (hf 11 (by decide))
      exact fV rfl ((wanted_of rfl 13 rfl t13).trans rfl) _ (ex_loadR 42 (.tmp 16) rfl ⟨g1, 1, none⟩ r16 (fun _ => by kernel_rfl) (encU c.2.1) (by rw [encU_len]; kernel_rfl) ((HX1.out.keepB hS).part (encU c.2.1) 1 (encC_key c))) hS uS
     ·intro f w1 hS hf aA hA
      have t13 := qG 13 8 hA sbPz3 zsz (hf 8 (by decide))
      have r17 := qA 17 12 hA sbPz3 zsz (hf 12 (by decide))
      exact fC rfl ((wanted_of rfl 13 rfl t13).trans rfl) 62 #[(.tmp 17)] _ rfl #[.agg (encU c.2.1).toArray] (mp1 r17) (fun w => by kernel_rfl) _ (chk_any c.2.1 w1 (HL.out.keep (HB.out.trans (hS.mono HB.out.size)) HSZ.out)) hS (fun _ _ h => uS.trans h)
     ·intro f w1 hS hf aA hA
      have t13 := qG 13 8 hA sbPz3 zsz (hf 8 (by decide))
      have r15 := qA 15 10 hA sbPz3 zsz (hf 10 (by decide))
      have r18 := qA 18 13 hA sbPz3 zsz (hf 13 (by decide))
      exact fV rfl ((wanted_of rfl 13 rfl t13).trans rfl) _ (Eq.trans (neq_su 42 (.tmp 15) (.tmp 18) _ rfl c.2.2 (chkS c.2.1) r15 r18 (by kernel_rfl) (by kernel_rfl)) (by rw [e3])) hS uS
     ·intro f w1 hS hf aA hA
      have r13 := qA 13 8 hA sbPz3 zsz (hf 8 (by decide))
      have r19 := qA 19 14 hA sbPz3 zsz (hf 14 (by decide))
      exact fV rfl rfl (.bool false) (ex_pick (.tmp 13) _ (.tmp 19) rfl false r13 ((if_neg (by decide)).trans r19)) hS uS
    intro f w3 hS hf hap
    have h0 := eqL (hf 0 (by decide)) rfl
    have h1 := eqL (hf 1 (by decide)) rfl
    have h2 := eqL (hf 2 (by decide)) rfl
    have h3 := eqL (hf 3 (by decide)) rfl
    have h4 := eqL (hf 4 (by decide)) rfl
    have h5 := eqL (hf 5 (by decide)) rfl
    have h6 := eqL (hf 6 (by decide)) rfl
    have h7 := eqL (hf 7 (by decide)) rfl
    have h8 := eqL (hf 8 (by decide)) rfl
    have h9 := eqL (hf 9 (by decide)) rfl
    have h10 := eqL (hf 10 (by decide)) rfl
    have h11 := eqL (hf 11 (by decide)) rfl
    have h12 := eqL (hf 12 (by decide)) rfl
    have h13 := eqL (hf 13 (by decide)) rfl
    have h14 := eqL (hf 14 (by decide)) rfl
    have h15 := eqL (hf 15 (by decide)) rfl
    clear hf hap
    clear zsz z1
    subst ha0
    simp only [slotsPz3, putAll, h0, h1, h2, h3, h4, h5, h6, h7, h8, h9, h10, h11, h12, h13, h14, h15, Act.put, List.setIfInBounds_toArray, List.set_cons_zero, List.set_cons_succ]
    clear h0 h1 h2 h3 h4 h5 h6 h7 h8 h9 h10 h11 h12 h13 h14 h15
    refine tl_nilN ?_
    replace HX1 := Lib.hid (HX1.out.keepB hS)
    replace HX2 := Lib.hid (HX2.out.keepB hS)
    replace HB := Lib.hid (HB.out.trans (hS.mono HB.out.size))
    clear hS
    go_upto_region 3 with fail
    refine wp_region_ors (fun w' => Has w' g1 47 (encC c) ∧ Below w.heap.size w w') [(0, true), (1, true), (2, true), (3, true), (4, true), (5, false), (6, true), (7, true)] (by kernel_rfl) (by kernel_rfl) (by kernel_rfl) ⟨HX1.out, HB.out.drew⟩ ?_
    have HX2D : Hid (Has w3.drew g2 42 (encU zS)) := Lib.hid HX2.out
    have HBD := Lib.hid HB.out.drew
    have HNE : Hid (g1 ≠ g2) := Lib.hid (HX1.out.apartT HX2.out (by decide))
    refine ors_pure (by kernel_rfl) (fun w' hw' => fld1C (.tmp 1) rfl g1 rfl) ?_
    try simp only [Act.put, List.setIfInBounds_toArray, List.set_cons_zero, List.set_cons_succ]
    refine ors_pure (by kernel_rfl) (fun w' hw' => ex_loadR 42 (.tmp 22) rfl ⟨g1, 1, none⟩ rfl (fun _ => by kernel_rfl) (encU c.2.1) (by rw [encU_len]; kernel_rfl) (hw'.1.part (encU c.2.1) 1 (encC_key c))) ?_
    try simp only [Act.put, List.setIfInBounds_toArray, List.set_cons_zero, List.set_cons_succ]
    refine ors_pure (by kernel_rfl) (fun w' hw' => fld0C (.tmp 1) rfl g1 rfl) ?_
    try simp only [Act.put, List.setIfInBounds_toArray, List.set_cons_zero, List.set_cons_succ]
    refine ors_pure (by kernel_rfl) (fun w' hw' => ex_load1 2 (.tmp 24) rfl ⟨g1, 0, none⟩ rfl (fun _ => by kernel_rfl) (hw'.1.cellv (encC_0 c))) ?_
    try simp only [Act.put, List.setIfInBounds_toArray, List.set_cons_zero, List.set_cons_succ]
    refine ors_pure (by kernel_rfl) (fun w' hw' => ex_int .eql _ _ (.tmp 25) _ rfl .i64 c.1 1 rfl rfl (.bool (c.1 == 1)) (fun _ => rfl)) ?_
    try simp only [Act.put, List.setIfInBounds_toArray, List.set_cons_zero, List.set_cons_succ]
    refine ors_step (by kernel_rfl) (fun K hK => wp_store_row 42 (.tmp 2) (.tmp 23) rfl g2 (encU c.2.1).toArray rfl rfl 42 (encU zS).toArray HX2D.out (by rw [List.size_toArray, encU_len]; kernel_rfl) (by rw [List.size_toArray, List.size_toArray, encU_len, encU_len]) (encU_all _) (hK _ _ ⟨⟨?_, ?_⟩, ?_⟩))
    ·exact (setRow_other _ g2 g1 _ HNE.out).trans HX1.out
    ·exact below_row HBD.out HGg2.out _
    have HP : Hid (Has (w3.drew.setRow g2 (encU c.2.1).toArray) g2 42 (encU c.2.1)) := Lib.hid (HX2D.out.rowl _)
    have HF := Lib.hid (below_row HBD.out HGg2.out (encU c.2.1).toArray)
    simp only [Act.put]
    refine ors_pure (by kernel_rfl) (fun w' hw' => ex_assign (.tmp 26) rfl rfl) ?_
    try simp only [Act.put, List.setIfInBounds_toArray, List.set_cons_zero, List.set_cons_succ]
    refine ors_pure (by kernel_rfl) (fun w' hw' => ex_assign _ rfl rfl) ?_
    try simp only [Act.put, List.setIfInBounds_toArray, List.set_cons_zero, List.set_cons_succ]
    refine ors_nil ?_
    go_wp2_with fail
    (try simp only [Exit.inBlock, Exit.then])
    refine bodyPost_ret (v := .tuple #[.agg (encU c.2.1).toArray, .bool (c.1 == 1), .bool true]) ?_ rfl ⟨⟨_, rfl, (pureV_on hp).symm⟩, HF.out⟩
    exact results_cell3A rfl _ _ g2 42 _ (0, 0) 32 5 rfl HP.out _ _ rfl rfl Tryd.underlying42 (by rw [List.size_toArray, encU_len]; kernel_rfl)
   ·have e3 : (!decide (c.2.2 = chkS c.2.1)) = true := by simp [k3]
    have hp : isPure c = false := by simp [isPure, k3]
    refine wp_act (fun a0 ha0 => ?_)
    have zsz : a0.tmps.size = 27 := by rw [ha0]; rfl
    have z1 : a0.eval (.tmp 1) = .pointer (some ⟨g1, 0, none⟩) := by rw [ha0]; rfl
    refine wrD [] slotsPz3 waitPz3 [Fct.val Flz 0 (.pointer (some ⟨g1, 0, none⟩)), Fct.val Flz 1 (.int .i64 (c.1)), Fct.val Flz 2 (.bool true), Fct.val Flz 3 (.bool true), Fct.val Flz 4 (.pointer (some ⟨g1, 0, none⟩)), Fct.val Flz 5 (.int .i64 (c.1)), Fct.val Flz 6 (.bool false), Fct.val Flz 7 (.bool false), Fct.val Flz 8 (.bool false), Fct.val Flz 9 (.pointer (some ⟨g1, 33, none⟩)), Fct.val Flz 10 (.agg (encU c.2.2).toArray), Fct.val Flz 11 (.pointer (some ⟨g1, 1, none⟩)), Fct.val Flz 12 (.agg (encU c.2.1).toArray), Fct.val Flz 13 (.agg (encU (chkS c.2.1)).toArray), Fct.val Flz 14 (.bool true), Fct.val Flz 15 (.bool true)] (fun w' => Below w2.drew.heap.size w2.drew w') _ 16 0 chkPz3 (by kernel_rfl) (by kernel_rfl) (by kernel_rfl) (by kernel_rfl) (by decide) (Below.refl _ _) ?_ ?_
    ·refine lt_s (lt_s (lt_s (lt_s (lt_s (lt_s (lt_s (lt_s (lt_s (lt_s (lt_s (lt_s (lt_s (lt_s (lt_s (lt_s (lt_0) ?_) ?_) ?_) ?_) ?_) ?_) ?_) ?_) ?_) ?_) ?_) ?_) ?_) ?_) ?_) ?_
     ·intro f w1 hS hf aA hA
      have r1 := qO 1 hA z1
      exact fV rfl rfl _ (fld0C (.tmp 1) rfl g1 r1) hS uS
     ·intro f w1 hS hf aA hA
      have r5 := qA 5 0 hA sbPz3 zsz (hf 0 (by decide))
      exact fV rfl rfl _ (ex_load1 2 (.tmp 5) rfl ⟨g1, 0, none⟩ r5 (fun _ => by kernel_rfl) ((HX1.out.keepB hS).cellv (encC_0 c))) hS uS
     ·intro f w1 hS hf aA hA
      have r6 := qA 6 1 hA sbPz3 zsz (hf 1 (by decide))
      exact fV rfl rfl _ (Eq.trans (ex_int .neq _ _ (.tmp 6) _ rfl .i64 c.1 1 r6 rfl (.bool (c.1 != (1 : Int))) (fun _ => rfl)) (by rw [e1])) hS uS
     ·intro f w1 hS hf aA hA
      have r7 := qA 7 2 hA sbPz3 zsz (hf 2 (by decide))
      exact fV rfl rfl _ (ex_move (.tmp 7) rfl r7) hS uS
     ·intro f w1 hS hf aA hA
      have t8 := qG 8 3 hA sbPz3 zsz (hf 3 (by decide))
      have r1 := qO 1 hA z1
      exact fV rfl ((wanted_of rfl 8 rfl t8).trans rfl) _ (fld0C (.tmp 1) rfl g1 r1) hS uS
     ·intro f w1 hS hf aA hA
      have t8 := qG 8 3 hA sbPz3 zsz (hf 3 (by decide))
      have r9 := qA 9 4 hA sbPz3 zsz (hf 4 (by decide))
      exact fV rfl ((wanted_of rfl 8 rfl t8).trans rfl) _ (ex_load1 2 (.tmp 9) rfl ⟨g1, 0, none⟩ r9 (fun _ => by kernel_rfl) ((HX1.out.keepB hS).cellv (encC_0 c))) hS uS
     ·intro f w1 hS hf aA hA
      have t8 := qG 8 3 hA sbPz3 zsz (hf 3 (by decide))
      have r10 := qA 10 5 hA sbPz3 zsz (hf 5 (by decide))
      exact fV rfl ((wanted_of rfl 8 rfl t8).trans rfl) _ (Eq.trans (ex_int .neq _ _ (.tmp 10) _ rfl .i64 c.1 ((-1)) r10 rfl (.bool (c.1 != ((-1) : Int))) (fun _ => rfl)) (by rw [e2])) hS uS
     ·intro f w1 hS hf aA hA
      have r8 := qA 8 3 hA sbPz3 zsz (hf 3 (by decide))
      have r11 := qA 11 6 hA sbPz3 zsz (hf 6 (by decide))
      exact fV rfl rfl (.bool false) (ex_pick (.tmp 8) (.tmp 11) _ rfl true r8 ((if_pos rfl).trans r11)) hS uS
     ·intro f w1 hS hf aA hA
      have r12 := qA 12 7 hA sbPz3 zsz (hf 7 (by decide))
      exact fV rfl rfl _ (ex_move (.tmp 12) rfl r12) hS uS
     ·intro f w1 hS hf aA hA
      have t13 := qG 13 8 hA sbPz3 zsz (hf 8 (by decide))
      have r1 := qO 1 hA z1
      exact fV rfl ((wanted_of rfl 13 rfl t13).trans rfl) _ (fld2C (.tmp 1) rfl g1 r1) hS uS
     ·intro f w1 hS hf aA hA
      have t13 := qG 13 8 hA sbPz3 zsz (hf 8 (by decide))
      have r14 := qA 14 9 hA sbPz3 zsz (hf 9 (by decide))
      exact fV rfl ((wanted_of rfl 13 rfl t13).trans rfl) _ (ex_loadR 42 (.tmp 14) rfl ⟨g1, 33, none⟩ r14 (fun _ => by kernel_rfl) (encU c.2.2) (by rw [encU_len]; kernel_rfl) ((HX1.out.keepB hS).part (encU c.2.2) 33 (encC_chk c))) hS uS
     ·intro f w1 hS hf aA hA
      have t13 := qG 13 8 hA sbPz3 zsz (hf 8 (by decide))
      have r1 := qO 1 hA z1
      exact fV rfl ((wanted_of rfl 13 rfl t13).trans rfl) _ (fld1C (.tmp 1) rfl g1 r1) hS uS
     ·intro f w1 hS hf aA hA
      have t13 := qG 13 8 hA sbPz3 zsz (hf 8 (by decide))
      have r16 := qA 16 11 hA sbPz3 zsz (hf 11 (by decide))
      exact fV rfl ((wanted_of rfl 13 rfl t13).trans rfl) _ (ex_loadR 42 (.tmp 16) rfl ⟨g1, 1, none⟩ r16 (fun _ => by kernel_rfl) (encU c.2.1) (by rw [encU_len]; kernel_rfl) ((HX1.out.keepB hS).part (encU c.2.1) 1 (encC_key c))) hS uS
     ·intro f w1 hS hf aA hA
      have t13 := qG 13 8 hA sbPz3 zsz (hf 8 (by decide))
      have r17 := qA 17 12 hA sbPz3 zsz (hf 12 (by decide))
      exact fC rfl ((wanted_of rfl 13 rfl t13).trans rfl) 62 #[(.tmp 17)] _ rfl #[.agg (encU c.2.1).toArray] (mp1 r17) (fun w => by kernel_rfl) _ (chk_any c.2.1 w1 (HL.out.keep (HB.out.trans (hS.mono HB.out.size)) HSZ.out)) hS (fun _ _ h => uS.trans h)
     ·intro f w1 hS hf aA hA
      have t13 := qG 13 8 hA sbPz3 zsz (hf 8 (by decide))
      have r15 := qA 15 10 hA sbPz3 zsz (hf 10 (by decide))
      have r18 := qA 18 13 hA sbPz3 zsz (hf 13 (by decide))
      exact fV rfl ((wanted_of rfl 13 rfl t13).trans rfl) _ (Eq.trans (neq_su 42 (.tmp 15) (.tmp 18) _ rfl c.2.2 (chkS c.2.1) r15 r18 (by kernel_rfl) (by kernel_rfl)) (by rw [e3])) hS uS
     ·intro f w1 hS hf aA hA
      have r13 := qA 13 8 hA sbPz3 zsz (hf 8 (by decide))
      have r19 := qA 19 14 hA sbPz3 zsz (hf 14 (by decide))
      exact fV rfl rfl (.bool true) (ex_pick (.tmp 13) _ (.tmp 19) rfl false r13 ((if_neg (by decide)).trans r19)) hS uS
    intro f w3 hS hf hap
    have h0 := eqL (hf 0 (by decide)) rfl
    have h1 := eqL (hf 1 (by decide)) rfl
    have h2 := eqL (hf 2 (by decide)) rfl
    have h3 := eqL (hf 3 (by decide)) rfl
    have h4 := eqL (hf 4 (by decide)) rfl
    have h5 := eqL (hf 5 (by decide)) rfl
    have h6 := eqL (hf 6 (by decide)) rfl
    have h7 := eqL (hf 7 (by decide)) rfl
    have h8 := eqL (hf 8 (by decide)) rfl
    have h9 := eqL (hf 9 (by decide)) rfl
    have h10 := eqL (hf 10 (by decide)) rfl
    have h11 := eqL (hf 11 (by decide)) rfl
    have h12 := eqL (hf 12 (by decide)) rfl
    have h13 := eqL (hf 13 (by decide)) rfl
    have h14 := eqL (hf 14 (by decide)) rfl
    have h15 := eqL (hf 15 (by decide)) rfl
    clear hf hap
    clear zsz z1
    subst ha0
    simp only [slotsPz3, putAll, h0, h1, h2, h3, h4, h5, h6, h7, h8, h9, h10, h11, h12, h13, h14, h15, Act.put, List.setIfInBounds_toArray, List.set_cons_zero, List.set_cons_succ]
    clear h0 h1 h2 h3 h4 h5 h6 h7 h8 h9 h10 h11 h12 h13 h14 h15
    refine tl_nilN ?_
    replace HX1 := Lib.hid (HX1.out.keepB hS)
    replace HX2 := Lib.hid (HX2.out.keepB hS)
    replace HB := Lib.hid (HB.out.trans (hS.mono HB.out.size))
    clear hS
    go_upto_region 2 with fail
    refine wp_act (fun a0 ha0 => ?_)
    have zsz : a0.tmps.size = 27 := by rw [ha0]; rfl
    refine wrO [] slotsPn2 waitPn2 [Fct.val Flz 0 (.agg (encU zS).toArray)] (fun w' => Below w3.heap.size w3 w') _ 1 3 chkPn2 (by kernel_rfl) (by kernel_rfl) (by kernel_rfl) (by decide) (Below.refl _ _) ?_ ?_
    ·refine lt_s (lt_0) ?_
     ·intro f w1 hS hf aA hA
      exact fV rfl rfl _ (ex_build 42 _ rfl (encU zS).toArray [] (by kernel_rfl) (by kernel_rfl)) hS uS
    intro f w4 hS hf hap
    have h0 := eqL (hf 0 (by decide)) rfl
    clear hf hap
    clear zsz
    subst ha0
    simp only [slotsPn2, putAll, h0, Act.put, List.setIfInBounds_toArray, List.set_cons_zero, List.set_cons_succ]
    clear h0
    refine tl_store rfl (by kernel_rfl) 42 (.tmp 2) (.tmp 21) rfl g2 (encU zS) _ rfl rfl _ (HX2.out.keepB hS) (by rw [encU_len]; kernel_rfl) (by simp only [encU_len]) (encU_all _) ?_
    intro w5 hp hbl hot
    have HP := Lib.hid hp
    have HF := Lib.hid ((HB.out.trans (hS.mono HB.out.size)).trans (hbl _ HGg2.out))
    clear hp hbl hot hS
    simp only [Act.put]
    refine tl_pure rfl (by kernel_rfl) (.bool false) (ex_assign _ rfl rfl) ?_
    try simp only [Act.put, List.setIfInBounds_toArray, List.set_cons_zero, List.set_cons_succ]
    refine tl_pure rfl (by kernel_rfl) (.bool false) (ex_assign _ rfl rfl) ?_
    try simp only [Act.put, List.setIfInBounds_toArray, List.set_cons_zero, List.set_cons_succ]
    refine tl_nil ?_
    go_wp2_with fail
    (try simp only [Exit.inBlock, Exit.then])
    refine bodyPost_ret (v := .tuple #[.agg (encU zS).toArray, .bool false, .bool false]) ?_ rfl ⟨⟨_, rfl, (pureV_off hp).symm⟩, HF.out⟩
    exact results_cell3A rfl _ _ g2 42 _ (0, 0) 32 5 rfl HP.out _ _ rfl rfl Tryd.underlying42 (by rw [List.size_toArray, encU_len]; kernel_rfl)
  ·have e2 : (c.1 != (-1 : Int)) = true := by simp [k2]
   have hp : isPure c = false := by simp [isPure, k1, k2]
   refine wp_act (fun a0 ha0 => ?_)
   have zsz : a0.tmps.size = 27 := by rw [ha0]; rfl
   have z1 : a0.eval (.tmp 1) = .pointer (some ⟨g1, 0, none⟩) := by rw [ha0]; rfl
   refine wrD [] slotsPz5 waitPz5 [Fct.val Flz 0 (.pointer (some ⟨g1, 0, none⟩)), Fct.val Flz 1 (.int .i64 (c.1)), Fct.val Flz 2 (.bool true), Fct.val Flz 3 (.bool true), Fct.val Flz 4 (.pointer (some ⟨g1, 0, none⟩)), Fct.val Flz 5 (.int .i64 (c.1)), Fct.val Flz 6 (.bool true), Fct.val Flz 7 (.bool true), Fct.val Flz 8 (.bool true), Fct.val Flz 9 (undef), Fct.val Flz 10 (undef), Fct.val Flz 11 (undef), Fct.val Flz 12 (undef), Fct.val Flz 13 (undef), Fct.val Flz 14 (undef), Fct.val Flz 15 (.bool true)] (fun w' => Below w2.drew.heap.size w2.drew w') _ 16 0 chkPz5 (by kernel_rfl) (by kernel_rfl) (by kernel_rfl) (by kernel_rfl) (by decide) (Below.refl _ _) ?_ ?_
   ·refine lt_s (lt_s (lt_s (lt_s (lt_s (lt_s (lt_s (lt_s (lt_s (lt_s (lt_s (lt_s (lt_s (lt_s (lt_s (lt_s (lt_0) ?_) ?_) ?_) ?_) ?_) ?_) ?_) ?_) ?_) ?_) ?_) ?_) ?_) ?_) ?_) ?_
    ·intro f w1 hS hf aA hA
     have r1 := qO 1 hA z1
     exact fV rfl rfl _ (fld0C (.tmp 1) rfl g1 r1) hS uS
    ·intro f w1 hS hf aA hA
     have r5 := qA 5 0 hA sbPz5 zsz (hf 0 (by decide))
     exact fV rfl rfl _ (ex_load1 2 (.tmp 5) rfl ⟨g1, 0, none⟩ r5 (fun _ => by kernel_rfl) ((HX1.out.keepB hS).cellv (encC_0 c))) hS uS
    ·intro f w1 hS hf aA hA
     have r6 := qA 6 1 hA sbPz5 zsz (hf 1 (by decide))
     exact fV rfl rfl _ (Eq.trans (ex_int .neq _ _ (.tmp 6) _ rfl .i64 c.1 1 r6 rfl (.bool (c.1 != (1 : Int))) (fun _ => rfl)) (by rw [e1])) hS uS
    ·intro f w1 hS hf aA hA
     have r7 := qA 7 2 hA sbPz5 zsz (hf 2 (by decide))
     exact fV rfl rfl _ (ex_move (.tmp 7) rfl r7) hS uS
    ·intro f w1 hS hf aA hA
     have t8 := qG 8 3 hA sbPz5 zsz (hf 3 (by decide))
     have r1 := qO 1 hA z1
     exact fV rfl ((wanted_of rfl 8 rfl t8).trans rfl) _ (fld0C (.tmp 1) rfl g1 r1) hS uS
    ·intro f w1 hS hf aA hA
     have t8 := qG 8 3 hA sbPz5 zsz (hf 3 (by decide))
     have r9 := qA 9 4 hA sbPz5 zsz (hf 4 (by decide))
     exact fV rfl ((wanted_of rfl 8 rfl t8).trans rfl) _ (ex_load1 2 (.tmp 9) rfl ⟨g1, 0, none⟩ r9 (fun _ => by kernel_rfl) ((HX1.out.keepB hS).cellv (encC_0 c))) hS uS
    ·intro f w1 hS hf aA hA
     have t8 := qG 8 3 hA sbPz5 zsz (hf 3 (by decide))
     have r10 := qA 10 5 hA sbPz5 zsz (hf 5 (by decide))
     exact fV rfl ((wanted_of rfl 8 rfl t8).trans rfl) _ (Eq.trans (ex_int .neq _ _ (.tmp 10) _ rfl .i64 c.1 ((-1)) r10 rfl (.bool (c.1 != ((-1) : Int))) (fun _ => rfl)) (by rw [e2])) hS uS
    ·intro f w1 hS hf aA hA
     have r8 := qA 8 3 hA sbPz5 zsz (hf 3 (by decide))
     have r11 := qA 11 6 hA sbPz5 zsz (hf 6 (by decide))
     exact fV rfl rfl (.bool true) (ex_pick (.tmp 8) (.tmp 11) _ rfl true r8 ((if_pos rfl).trans r11)) hS uS
    ·intro f w1 hS hf aA hA
     have r12 := qA 12 7 hA sbPz5 zsz (hf 7 (by decide))
     exact fV rfl rfl _ (ex_move (.tmp 12) rfl r12) hS uS
    ·intro f w1 hS hf aA hA
     have t13 := qG 13 8 hA sbPz5 zsz (hf 8 (by decide))
     exact flw_skip rfl ((wanted_of rfl 13 rfl t13).trans rfl) hS (Flz.refl _) uS
    ·intro f w1 hS hf aA hA
     have t13 := qG 13 8 hA sbPz5 zsz (hf 8 (by decide))
     exact flw_skip rfl ((wanted_of rfl 13 rfl t13).trans rfl) hS (Flz.refl _) uS
    ·intro f w1 hS hf aA hA
     have t13 := qG 13 8 hA sbPz5 zsz (hf 8 (by decide))
     exact flw_skip rfl ((wanted_of rfl 13 rfl t13).trans rfl) hS (Flz.refl _) uS
    ·intro f w1 hS hf aA hA
     have t13 := qG 13 8 hA sbPz5 zsz (hf 8 (by decide))
     exact flw_skip rfl ((wanted_of rfl 13 rfl t13).trans rfl) hS (Flz.refl _) uS
    ·intro f w1 hS hf aA hA
     have t13 := qG 13 8 hA sbPz5 zsz (hf 8 (by decide))
     exact flw_skip rfl ((wanted_of rfl 13 rfl t13).trans rfl) hS (Flz.refl _) uS
    ·intro f w1 hS hf aA hA
     have t13 := qG 13 8 hA sbPz5 zsz (hf 8 (by decide))
     exact flw_skip rfl ((wanted_of rfl 13 rfl t13).trans rfl) hS (Flz.refl _) uS
    ·intro f w1 hS hf aA hA
     have r13 := qA 13 8 hA sbPz5 zsz (hf 8 (by decide))
     exact fV rfl rfl (.bool true) (ex_pick (.tmp 13) _ (.tmp 19) rfl true r13 ((if_pos rfl).trans rfl)) hS uS
   intro f w3 hS hf hap
   have h0 := eqL (hf 0 (by decide)) rfl
   have h1 := eqL (hf 1 (by decide)) rfl
   have h2 := eqL (hf 2 (by decide)) rfl
   have h3 := eqL (hf 3 (by decide)) rfl
   have h4 := eqL (hf 4 (by decide)) rfl
   have h5 := eqL (hf 5 (by decide)) rfl
   have h6 := eqL (hf 6 (by decide)) rfl
   have h7 := eqL (hf 7 (by decide)) rfl
   have h8 := eqL (hf 8 (by decide)) rfl
   have h9 := eqL (hf 9 (by decide)) rfl
   have h10 := eqL (hf 10 (by decide)) rfl
   have h11 := eqL (hf 11 (by decide)) rfl
   have h12 := eqL (hf 12 (by decide)) rfl
   have h13 := eqL (hf 13 (by decide)) rfl
   have h14 := eqL (hf 14 (by decide)) rfl
   have h15 := eqL (hf 15 (by decide)) rfl
   clear hf hap
   clear zsz z1
   subst ha0
   simp only [slotsPz5, putAll, h0, h1, h2, h3, h4, h5, h6, h7, h8, h9, h10, h11, h12, h13, h14, h15, Act.put, List.setIfInBounds_toArray, List.set_cons_zero, List.set_cons_succ]
   clear h0 h1 h2 h3 h4 h5 h6 h7 h8 h9 h10 h11 h12 h13 h14 h15
   refine tl_nilN ?_
   replace HX1 := Lib.hid (HX1.out.keepB hS)
   replace HX2 := Lib.hid (HX2.out.keepB hS)
   replace HB := Lib.hid (HB.out.trans (hS.mono HB.out.size))
   clear hS
   go_upto_region 2 with fail
   refine wp_act (fun a0 ha0 => ?_)
   have zsz : a0.tmps.size = 27 := by rw [ha0]; rfl
   refine wrO [] slotsPn2 waitPn2 [Fct.val Flz 0 (.agg (encU zS).toArray)] (fun w' => Below w3.heap.size w3 w') _ 1 3 chkPn2 (by kernel_rfl) (by kernel_rfl) (by kernel_rfl) (by decide) (Below.refl _ _) ?_ ?_
   ·refine lt_s (lt_0) ?_
    ·intro f w1 hS hf aA hA
     exact fV rfl rfl _ (ex_build 42 _ rfl (encU zS).toArray [] (by kernel_rfl) (by kernel_rfl)) hS uS
   intro f w4 hS hf hap
   have h0 := eqL (hf 0 (by decide)) rfl
   clear hf hap
   clear zsz
   subst ha0
   simp only [slotsPn2, putAll, h0, Act.put, List.setIfInBounds_toArray, List.set_cons_zero, List.set_cons_succ]
   clear h0
   refine tl_store rfl (by kernel_rfl) 42 (.tmp 2) (.tmp 21) rfl g2 (encU zS) _ rfl rfl _ (HX2.out.keepB hS) (by rw [encU_len]; kernel_rfl) (by simp only [encU_len]) (encU_all _) ?_
   intro w5 hp hbl hot
   have HP := Lib.hid hp
   have HF := Lib.hid ((HB.out.trans (hS.mono HB.out.size)).trans (hbl _ HGg2.out))
   clear hp hbl hot hS
   simp only [Act.put]
   refine tl_pure rfl (by kernel_rfl) (.bool false) (ex_assign _ rfl rfl) ?_
   try simp only [Act.put, List.setIfInBounds_toArray, List.set_cons_zero, List.set_cons_succ]
   refine tl_pure rfl (by kernel_rfl) (.bool false) (ex_assign _ rfl rfl) ?_
   try simp only [Act.put, List.setIfInBounds_toArray, List.set_cons_zero, List.set_cons_succ]
   refine tl_nil ?_
   go_wp2_with fail
   (try simp only [Exit.inBlock, Exit.then])
   refine bodyPost_ret (v := .tuple #[.agg (encU zS).toArray, .bool false, .bool false]) ?_ rfl ⟨⟨_, rfl, (pureV_off hp).symm⟩, HF.out⟩
   exact results_cell3A rfl _ _ g2 42 _ (0, 0) 32 5 rfl HP.out _ _ rfl rfl Tryd.underlying42 (by rw [List.size_toArray, encU_len]; kernel_rfl)
theorem pure_any (c : Ce) (w : World) (hL : Laid w) : Calls Tryd.prog 53 #[aggC c] w fun e w' => (∃ v, e = .returned v ∧ v = pureV c) ∧ Below w.heap.size w w' := pure_b c w w (Below.refl _ _) hL
end Go.Proofs.YtnkcehmgagpadaaDoor
/- Plain laws of cells: what is laid on and taken off again, in whatever order. No condition. -/
namespace Go.Proofs.YtnkcehmgagpadaaDoor
open Go.RowKit
theorem as_any {P : Program} {g : FuncId} {us : Array Value} {w : World} {u u' : Value} (h : Calls P g us w fun e w' => (∃ v, e = .returned v ∧ v = u) ∧ Below w.heap.size w w') (e : u = u') : Calls P g us w fun e w' => (∃ v, e = .returned v ∧ v = u') ∧ Below w.heap.size w w' := e ▸ h
theorem at8_xor (x y : Su) (k : Nat) (h : k < 32) : (xorS x y).1[k]'(by rw [(xorS x y).2]; exact h) = x.1[k]'(by rw [x.2]; exact h) ^^^ y.1[k]'(by rw [y.2]; exact h) := by
  simp [xorS, xorL]
theorem su_ext {x y : Su} (h : ∀ k (hk : k < 32), x.1[k]'(by rw [x.2]; exact hk) = y.1[k]'(by rw [y.2]; exact hk)) : x = y := Subtype.ext (List.ext_getElem (x.2.trans y.2.symm) fun k h1 _ => h k (by rw [x.2] at h1; exact h1))
theorem xorS_comm (x y : Su) : xorS x y = xorS y x := su_ext fun k hk => by rw [at8_xor _ _ _ hk, at8_xor _ _ _ hk, BitVec.xor_comm]
theorem xorS_assoc (x y z : Su) : xorS (xorS x y) z = xorS x (xorS y z) := su_ext fun k hk => by rw [at8_xor _ _ _ hk, at8_xor _ _ _ hk, at8_xor _ _ _ hk, at8_xor _ _ _ hk, BitVec.xor_assoc]
theorem zS_at (k : Nat) (h : k < 32) : zS.1[k]'(by rw [zS.2]; exact h) = 0 := (List.getElem_of_eq (show zS.1 = List.replicate 32 (0 : BitVec 8) from rfl) _).trans (List.getElem_replicate _)
theorem xorS_self (x : Su) : xorS x x = zS := su_ext fun k hk => by rw [at8_xor _ _ _ hk, zS_at _ hk]; exact BitVec.xor_self
theorem xorS_zero (x : Su) : xorS x zS = x := su_ext fun k hk => by rw [at8_xor _ _ _ hk, zS_at _ hk]; simp
theorem zero_xorS (x : Su) : xorS zS x = x := by rw [xorS_comm, xorS_zero]
theorem xorS_back (x y : Su) : xorS (xorS x y) y = x := by rw [xorS_assoc, xorS_self, xorS_zero]
theorem xorS_right (x y z : Su) : xorS (xorS x y) z = xorS (xorS x z) y := by rw [xorS_assoc, xorS_comm y z, ← xorS_assoc]
theorem wrap_add (a b : Int) : IntKind.i64.wrap (IntKind.i64.wrap a + b) = IntKind.i64.wrap (a + b) := by simp only [IntKind.wrap_i64]; omega
theorem wrap_sub (a b : Int) : IntKind.i64.wrap (a + IntKind.i64.wrap (0 - b)) = IntKind.i64.wrap (a - b) := by simp only [IntKind.wrap_i64]; omega
theorem wrap_wrap (a : Int) : IntKind.i64.wrap (IntKind.i64.wrap a) = IntKind.i64.wrap a := by simp only [IntKind.wrap_i64]; omega
/-- What is laid on in whatever order. -/
theorem withC_right (c : Ce) (m n : Int) (k l d e : Su) : withC (withC c m k d) n l e = withC (withC c n l e) m k d := by
  unfold withC
  simp only [wrap_add, Prod.mk.injEq]
  refine ⟨by congr 1; omega, xorS_right _ _ _, xorS_right _ _ _⟩
theorem putC_right (c : Ce) (x y : Su) : putC (putC c x) y = putC (putC c y) x := withC_right _ _ _ _ _ _ _
theorem takeC_right (c : Ce) (x y : Su) : takeC (takeC c x) y = takeC (takeC c y) x := withC_right _ _ _ _ _ _ _
theorem put_take (c : Ce) (x y : Su) : takeC (putC c x) y = putC (takeC c y) x := withC_right _ _ _ _ _ _ _
/-- A count as a number of sixty-four bits has it. -/
def okC (c : Ce) : Prop := IntKind.i64.wrap c.1 = c.1
theorem okC_with (c : Ce) (n : Int) (k d : Su) : okC (withC c n k d) := wrap_wrap _
theorem okC_zero : okC zC := by unfold okC zC; decide
theorem take_put {c : Ce} (h : okC c) (x : Su) : takeC (putC c x) x = c := by
  unfold takeC putC withC
  simp only [wrap_add, xorS_back]
  unfold okC at h
  rw [show c.1 + 1 + -1 = c.1 by omega, h]
theorem put_take' {c : Ce} (h : okC c) (x : Su) : putC (takeC c x) x = c := by rw [← put_take, take_put h]
theorem putC_zero (x : Su) : putC zC x = (1, x, chkS x) := by
  unfold putC withC zC
  simp only [zero_xorS]
  rfl
theorem takeC_zero (x : Su) : takeC zC x = (-1, x, chkS x) := by
  unfold takeC withC zC
  simp only [zero_xorS]
  rfl
theorem minusC_self {a : Ce} : minusC a a = zC := by
  unfold minusC withC zC
  simp only [wrap_sub, xorS_self]
  rw [show a.1 - a.1 = 0 by omega]; rfl
theorem minusC_zero {a : Ce} (h : okC a) : minusC a zC = a := by
  unfold minusC withC
  simp only [wrap_sub]
  unfold okC at h
  rw [show zC.1 = 0 from rfl, show zC.2.1 = zS from rfl, show zC.2.2 = zS from rfl, xorS_zero, xorS_zero, show a.1 - 0 = a.1 by omega, h]
end Go.Proofs.YtnkcehmgagpadaaDoor
/- Plain laws of cells into which many have been put. No condition. -/
namespace Go.Proofs.YtnkcehmgagpadaaDoor
open Go.RowKit
theorem minus_put (a b : Ce) (x : Su) : minusC a (putC b x) = takeC (minusC a b) x := by
  unfold minusC takeC putC withC
  simp only [Prod.mk.injEq]
  refine ⟨?_, (xorS_assoc _ _ _).symm, (xorS_assoc _ _ _).symm⟩
  simp only [IntKind.wrap_i64]; omega
theorem put_minus (a b : Ce) (x : Su) : minusC (putC a x) (putC b x) = minusC a b := by
  unfold minusC putC withC
  simp only [Prod.mk.injEq]
  refine ⟨?_, ?_, ?_⟩
  · simp only [IntKind.wrap_i64]; omega
  · rw [xorS_assoc, ← xorS_assoc x, xorS_comm x, xorS_assoc, xorS_self, xorS_zero]
  · rw [xorS_assoc, ← xorS_assoc (chkS x), xorS_comm (chkS x), xorS_assoc, xorS_self, xorS_zero]
end Go.Proofs.YtnkcehmgagpadaaDoor
