/- The walk of the law CauseUnwraps: it returns true, and writes nothing that was there. Conditions: the two variables as laid. -/
import Derived.Test.YtceiiejjhebmeabDoorCauses
import Derived.Test.YtceiiejjhebmeabDoorOrs
import Derived.Deep.DeepCutAuto
namespace Go.Proofs.YtceiiejjhebmeabDoor
open Go.RowKit
theorem load_cell {S : World → Prop} {o : Oper} {ev : Operand → Value} (T : TypeId) (x : Operand) (ho : o.op = .load T x) (p : Addr) (hx : ev x = .pointer (some p)) (v : Value)
    (hS : ∀ w, S w → (loadVar T p).run Tryd.prog w = .ok v w) : ∀ w', S w' → (execOp ev o).run Tryd.prog w' = .ok (.value v) w' := by
  intro w' h
  unfold execOp
  simp only [ho, hx, Instr.loadAt, Instr.sureAddr, Sem.run_bind, Sem.run_pure, Result.andThen_ok, hS w' h]
theorem in_st (k : Nat) (hk : k < 6) (n : Int) (T : TypeId) (v : Value) (w : World) (a : Addr) (cap : Nat) (hL : Laid w a cap) :
    Calls Tryd.prog 6 #[.string (stg k), .int .i64 n, .iface T v] w fun e w' => e = .returned (ofC w.heap.size) ∧ Below w.heap.size w w' ∧ IsC w' w.heap.size (stg k) n (.iface T v) :=
  (in_any k hk n T v w a cap hL).mono fun _ _ ⟨he, hw⟩ => ⟨he, by rw [hw]; exact (Below.refl _ _).alloc (Nat.le_refl _) _, by rw [hw]; exact Has.made' _ _ _ _ rfl⟩
/-- errors.As at a **Cause that lies on top. -/
theorem as_top (q t : Nat) (old : Value) (w : World) (hs : 1 < w.heap.size) (hg : w.cell? ⟨1, 0, none⟩ = some theErr) (ht0 : w.cell? ⟨t, 0, none⟩ = some old) (hf0 : w.frozen? ⟨t, 0, none⟩ = false) :
    Calls Tryd.prog 11 #[ofC q, .iface 37 (.pointer (some ⟨t, 0, none⟩))] w fun ev w' => ev = .returned (.bool true) ∧ Below t w w' ∧ w'.cell? ⟨t, 0, none⟩ = some (.pointer (some ⟨q, 0, none⟩)) := by
  have htl := cell_lt ht0
  have htl' : t < w.heap.size := htl
  refine (as_cause ⟨q, 0, none⟩ ⟨t, 0, none⟩ old w hs hg ht0 htl hf0).mono ?_
  rintro ev w' ⟨rfl, rfl⟩
  have hb : Below t w ((((w.alloc (.cells #[.pointer (some ⟨t, 0, none⟩)] 37)).alloc (.cells #[.pointer (some ⟨5, 37, none⟩), .pointer (some ⟨w.heap.size, 0, none⟩), .int .u64 150] 59)).alloc (.cells #[.pointer (some ⟨5, 37, none⟩), .pointer (some ⟨w.heap.size, 0, none⟩), .int .u64 150] 59)).alloc (.cells #[.pointer (some ⟨q, 0, none⟩)] 29)) :=
    (((((Below.refl t w).alloc (by omega) _).alloc (by simp; omega) _).alloc (by simp; omega) _).alloc (by simp; omega) _)
  refine ⟨rfl, hb.setCell (Nat.le_refl _) _, World.cell?_setCell_same _ _ _ (u := old) ?_⟩
  rw [World.cell?_alloc_lt _ _ ⟨t, 0, none⟩ (by simp; omega), World.cell?_alloc_lt _ _ ⟨t, 0, none⟩ (by simp; omega), World.cell?_alloc_lt _ _ ⟨t, 0, none⟩ (by simp; omega), World.cell?_alloc_lt _ _ ⟨t, 0, none⟩ htl, ht0]

set_option maxRecDepth 100000 in
set_option maxHeartbeats 4000000 in
theorem unw_out (c i st : Int) (h : c < 1 ∨ 15 < c ∨ i < 0 ∨ 5 < i) (w : World) (a : Addr) (cap : Nat) (hL : Laid w a cap) :
    Calls Tryd.prog 4 #[.int .i64 c, .int .i64 i, .int .i64 st] w fun e w' => e = .returned (.bool true) ∧ Below w.heap.size w w' := by
  have hA := Lib.hid (awake_any w a cap hL)
  clear hL
  by_cases h1 : c < 1
  · clear h
    go_enter Tryd.func4, Tryd.ntmps4
    go_wp2_with (go_at_call 5; refine hA.out.mono ?_; rintro e w1 ⟨rfl, hb⟩)
    go_ret
    exact ⟨rfl, hb⟩
  by_cases h2 : 15 < c
  · clear h
    go_enter Tryd.func4, Tryd.ntmps4
    go_wp2_with (go_at_call 5; refine hA.out.mono ?_; rintro e w1 ⟨rfl, hb⟩)
    go_ret
    exact ⟨rfl, hb⟩
  by_cases h3 : i < 0
  · clear h
    go_enter Tryd.func4, Tryd.ntmps4
    go_wp2_with (go_at_call 5; refine hA.out.mono ?_; rintro e w1 ⟨rfl, hb⟩)
    go_ret
    exact ⟨rfl, hb⟩
  have h4 : 5 < i := by omega
  clear h
  go_enter Tryd.func4, Tryd.ntmps4
  go_wp2_with (go_at_call 5; refine hA.out.mono ?_; rintro e w1 ⟨rfl, hb⟩)
  go_ret
  exact ⟨rfl, hb⟩
set_option maxRecDepth 100000 in
set_option maxHeartbeats 4000000 in
theorem unw_in (c st : Int) (k : Nat) (hc1 : 1 ≤ c) (hc2 : c ≤ 15) (hk : k ≤ 5) (w : World) (a : Addr) (cap : Nat) (hL : Laid w a cap) :
    Calls Tryd.prog 4 #[.int .i64 c, .int .i64 k, .int .i64 st] w fun e w' => e = .returned (.bool true) ∧ Below w.heap.size w w' := by
  have hA := Lib.hid (awake_any w a cap hL)
  have keep : Hid (∀ w', Below w.heap.size w w' → Laid w' a cap) := Lib.hid fun w' hb => hL.keep hb
  have hk0 : (0 : Int) ≤ k := by omega
  have hk5 : (k : Int) ≤ 5 := by omega
  have hk6 : (k : Int) < 6 := by omega
  have n1 : ¬ c < 1 := by omega
  have n2 : ¬ 15 < c := by omega
  have Hk := Lib.hid (show k < 6 by omega)
  clear hL hk hc1 hc2
  go_enter Tryd.func4, Tryd.ntmps4
  go_upto_region 5 with (go_at_call 5; refine hA.out.mono ?_; rintro e w1 ⟨rfl, hb1⟩)
  have g1 := (keep.out _ hb1).at0
  have g2 := (keep.out _ hb1).row k Hk.out
  have hI := Lib.hid (in_st k Hk.out st 27 (.int .i64 c) w1 a cap (keep.out _ hb1))
  have HB1 := Lib.hid hb1
  clear hA
  unfold ofC at hI
  generalize hs : stg k = s at *
  have HSK := Lib.hid hs
  clear hs hb1
  go_upto_region 6 with (go_at_call 6; with_reducible refine hI.out.mono ?_; rintro e w2 ⟨rfl, hb2, e1⟩)
  clear g1 g2
  have b2 := HB1.out.trans (hb2.mono HB1.out.size)
  have hJ : Hid (Calls Tryd.prog 6 #[.string ⟨#[108, 105, 110, 107]⟩, .int .i64 st, .iface 29 (.pointer (some ⟨w1.heap.size, 0, none⟩))] w2 fun e w' => e = .returned (ofC w2.heap.size) ∧ Below w2.heap.size w2 w' ∧ IsC w' w2.heap.size (stg 0) st (ofC w1.heap.size)) := Lib.hid (in_st 0 (by omega) st 29 _ w2 a cap (keep.out _ b2))
  have E1 := Lib.hid e1
  have B2 := Lib.hid b2
  clear e1 b2 hI hb2
  unfold ofC at hJ
  go_upto_region 8 with (go_at_call 6; with_reducible refine hJ.out.mono ?_; rintro e w3 ⟨rfl, hb3, e2⟩)
  have b3 := B2.out.trans (hb3.mono B2.out.size)
  have e1 := E1.out.keep hb3
  generalize hx : w3.alloc _ = x0
  have x1 : Below w.heap.size w x0 := by rw [← hx]; exact b3.alloc b3.size _
  have x2 : IsC x0 w1.heap.size s st (.iface 27 (.int .i64 c)) := by rw [← hx]; exact Has.alloc e1 _
  have x3 : IsC x0 w2.heap.size (stg 0) st (ofC w1.heap.size) := by rw [← hx]; exact Has.alloc e2 _
  have x4 : x0.cell? ⟨w3.heap.size, 0, none⟩ = some (.pointer none) := by rw [← hx]; simp
  have x5 : x0.frozen? ⟨w3.heap.size, 0, none⟩ = false := by rw [← hx]; simp
  have x6 : x0.heap.size = w3.heap.size + 1 := by rw [← hx]; simp
  have lt1 : w1.heap.size < w3.heap.size := Nat.lt_trans (Has.lt E1.out) (Nat.lt_of_lt_of_le (Nat.lt_succ_self _) (Has.lt e2))
  have L0 := keep.out _ x1
  have lt0 : w.heap.size ≤ w3.heap.size := b3.size
  have lt2 : w2.heap.size < w3.heap.size := Has.lt e2
  have la : a.block < w3.heap.size := Nat.lt_of_lt_of_le (keep.out _ (Below.refl _ _)).low lt0
  have ls : 1 < w3.heap.size := Nat.lt_of_lt_of_le (keep.out _ (Below.refl _ _)).size lt0
  have G0 : Hid (∀ v, Below w3.heap.size x0 v → v.cell? ⟨0, 0, none⟩ = some (.slice (some a) 6 cap)) := Lib.hid fun v h => (h.cell (p := ⟨0, 0, none⟩) (Nat.lt_trans Nat.zero_lt_one ls)).trans L0.at0
  have GK : Hid (∀ v, Below w3.heap.size x0 v → v.cell? (a.add k) = some (.string s)) := Lib.hid fun v h => (h.cell (by rw [add_block]; exact la)).trans (by rw [← HSK.out]; exact L0.row k Hk.out)
  have GE : Hid (∀ v, Below w3.heap.size x0 v → v.cell? ⟨1, 0, none⟩ = some theErr) := Lib.hid fun v h => (h.cell (p := ⟨1, 0, none⟩) ls).trans L0.err
  have C1 : Hid (∀ v, Below w3.heap.size x0 v → IsC v w1.heap.size s st (.iface 27 (.int .i64 c))) := Lib.hid fun v h => Has.keep x2 h lt1
  have C2 : Hid (∀ v, Below w3.heap.size x0 v → IsC v w2.heap.size (stg 0) st (ofC w1.heap.size)) := Lib.hid fun v h => Has.keep x3 h lt2
  have SZ : Hid (∀ v, Below w3.heap.size x0 v → 1 < v.heap.size) := Lib.hid fun v h => Nat.lt_of_lt_of_le (by omega) h.size
  have X1 := Lib.hid x1
  have X4 := Lib.hid x4
  have X5 := Lib.hid x5
  have X6 := Lib.hid x6
  have LT0 := Lib.hid lt0
  have s0 : Hid (Below w3.heap.size x0 x0.drew) := Lib.hid (Below.refl _ _).drew
  have EQ1 := eql_same ⟨w1.heap.size, 0, none⟩
  have EQ2 := eql_num c c
  have hcc : (c == c) = true := by simp
  rw [hcc] at EQ2
  clear hcc x1 x2 x3 x4 x5 x6 L0 lt0 lt1 lt2 la ls hx b3 e1 e2 hb3 hJ E1 HB1 B2 keep Hk HSK
  unfold ofC at *
  refine wp_region_ors (fun v => Below w3.heap.size x0 v) [(0, true), (2, true), (1, false), (3, true), (4, true), (5, true), (7, true), (8, true), (6, false), (9, true), (10, true), (11, true), (12, true), (13, true), (14, false), (15, true), (16, true), (17, false), (18, true), (19, true), (20, true), (25, true), (26, true), (27, true), (28, true), (21, false), (22, true), (23, true), (24, true), (29, true), (30, true), (31, true), (36, true), (32, false), (33, true), (34, true), (35, true), (37, true), (38, true), (39, true), (40, true), (41, false), (42, true), (43, true), (44, true), (45, true)] (by kernel_rfl) (by kernel_rfl) (by kernel_rfl) s0.out ?_
  simp only [pickOrs, List.getElem?_cons_zero, List.getElem?_cons_succ]
  generalize hv0 : x0.drew = v0 at *
  have P0 : v0.cell? ⟨w3.heap.size, 0, none⟩ = some (.pointer none) := by rw [← hv0]; exact X4.out
  have Q0 : v0.frozen? ⟨w3.heap.size, 0, none⟩ = false := by rw [← hv0]; exact X5.out
  have HP0 := Lib.hid P0
  clear P0 hv0
  refine ors_pure (v := ?_) (by rfl) ?_ ?_
  rotate_left
  · intro w' _; go_simp; try with_reducible rfl
  try simp only [Act.put, List.setIfInBounds_toArray, List.set_cons_zero, List.set_cons_succ]
  refine ors_pure (v := ?_) (by rfl) ?_ ?_
  rotate_left
  · intro w' _; go_simp; try with_reducible rfl
  try simp only [Act.put, List.setIfInBounds_toArray, List.set_cons_zero, List.set_cons_succ]
  refine ors_step (by rfl) (fun K hK => ?_)
  go_wp2_with fail
  refine (eunwrap_any w2.heap.size (stg 0) st _ _ (C2.out _ s0.out)).mono ?_
  rintro e v1 ⟨rfl, rfl⟩
  go_wp2_with fail
  refine ⟨s0.out, ?_⟩
  try simp only [Act.put, List.setIfInBounds_toArray, List.set_cons_zero, List.set_cons_succ]
  refine ors_pure (v := ?_) (by rfl) ?_ ?_
  rotate_left
  · intro w' _; go_simp; try with_reducible rfl
  try simp only [Act.put, List.setIfInBounds_toArray, List.set_cons_zero, List.set_cons_succ]
  refine ors_pure (v := ?_) (by rfl) ?_ ?_
  rotate_left
  · intro w' _; go_simp; try with_reducible rfl
  try simp only [Act.put, List.setIfInBounds_toArray, List.set_cons_zero, List.set_cons_succ]
  refine ors_pure (v := ?_) (by rfl) ?_ ?_
  rotate_left
  · intro w' _; go_simp; try with_reducible rfl
  try simp only [Act.put, List.setIfInBounds_toArray, List.set_cons_zero, List.set_cons_succ]
  refine ors_pure (v := ?_) (by rfl) ?_ ?_
  rotate_left
  · intro w' _; go_simp; try with_reducible rfl
  try simp only [Act.put, List.setIfInBounds_toArray, List.set_cons_zero, List.set_cons_succ]
  refine ors_pure (v := ?_) (by rfl) ?_ ?_
  rotate_left
  · intro w' _; go_simp; try with_reducible rfl
  try simp only [Act.put, List.setIfInBounds_toArray, List.set_cons_zero, List.set_cons_succ]
  refine ors_step (by rfl) (fun K hK => ?_)
  go_wp2_with fail
  refine (eunwrap_any w1.heap.size s st _ _ (C1.out _ s0.out)).mono ?_
  rintro e v2 ⟨rfl, rfl⟩
  go_wp2_with fail
  refine ⟨s0.out, ?_⟩
  try simp only [Act.put, List.setIfInBounds_toArray, List.set_cons_zero, List.set_cons_succ]
  refine ors_pure (v := ?_) (by rfl) ?_ ?_
  rotate_left
  · intro w' _; go_simp; try with_reducible rfl
  try simp only [Act.put, List.setIfInBounds_toArray, List.set_cons_zero, List.set_cons_succ]
  refine ors_pure (v := ?_) (by rfl) ?_ ?_
  rotate_left
  · intro w' _; go_simp; try with_reducible rfl
  try simp only [Act.put, List.setIfInBounds_toArray, List.set_cons_zero, List.set_cons_succ]
  refine ors_pure (v := ?_) (by rfl) ?_ ?_
  rotate_left
  · intro w' _; go_simp; try with_reducible rfl
  try simp only [Act.put, List.setIfInBounds_toArray, List.set_cons_zero, List.set_cons_succ]
  refine ors_pure (v := ?_) (by rfl) ?_ ?_
  rotate_left
  · intro w' _; go_simp; try with_reducible rfl
  try simp only [Act.put, List.setIfInBounds_toArray, List.set_cons_zero, List.set_cons_succ]
  refine ors_pure (v := ?_) (by rfl) ?_ ?_
  rotate_left
  · intro w' _; go_simp; try with_reducible rfl
  try simp only [Act.put, List.setIfInBounds_toArray, List.set_cons_zero, List.set_cons_succ]
  refine ors_step (by rfl) (fun K hK => ?_)
  go_wp2_with fail
  refine (as_top w1.heap.size w3.heap.size _ _ (SZ.out _ s0.out) (GE.out _ s0.out) HP0.out Q0).mono ?_
  rintro e v3 ⟨rfl, hb, hp⟩
  have s3 := Lib.hid (s0.out.trans hb)
  clear hb Q0 HP0
  go_wp2_with fail
  refine ⟨s3.out, ?_⟩
  try simp only [Act.put, List.setIfInBounds_toArray, List.set_cons_zero, List.set_cons_succ]
  refine ors_pure (v := ?_) (by rfl) ?_ ?_
  rotate_left
  · intro w' _; go_simp; try with_reducible rfl
  try simp only [Act.put, List.setIfInBounds_toArray, List.set_cons_zero, List.set_cons_succ]
  refine ors_pure (v := ?_) (by rfl) ?_ ?_
  rotate_left
  · intro w' _; go_simp; try with_reducible rfl
  try simp only [Act.put, List.setIfInBounds_toArray, List.set_cons_zero, List.set_cons_succ]
  refine ors_step (by rfl) (fun K hK => ?_)
  go_wp2_with fail
  refine ⟨s3.out, ?_⟩
  try simp only [Act.put, List.setIfInBounds_toArray, List.set_cons_zero, List.set_cons_succ]
  refine ors_pure (v := ?_) (by rfl) ?_ ?_
  rotate_left
  · intro w' _; go_simp; try with_reducible rfl
  try simp only [Act.put, List.setIfInBounds_toArray, List.set_cons_zero, List.set_cons_succ]
  refine ors_pure (v := ?_) (by rfl) ?_ ?_
  rotate_left
  · intro w' _; go_simp; try with_reducible rfl
  try simp only [Act.put, List.setIfInBounds_toArray, List.set_cons_zero, List.set_cons_succ]
  refine ors_pure (v := ?_) (by rfl) ?_ ?_
  rotate_left
  · intro w' _; go_simp; try with_reducible rfl
  try simp only [Act.put, List.setIfInBounds_toArray, List.set_cons_zero, List.set_cons_succ]
  refine ors_pure (v := ?_) (by rfl) ?_ ?_
  rotate_left
  · intro w' hS; have hc := G0.out w' hS; go_simp; try with_reducible rfl
  try simp only [Act.put, List.setIfInBounds_toArray, List.set_cons_zero, List.set_cons_succ]
  refine ors_pure (v := ?_) (by rfl) ?_ ?_
  rotate_left
  · intro w' _; go_simp; try with_reducible rfl
  try simp only [Act.put, List.setIfInBounds_toArray, List.set_cons_zero, List.set_cons_succ]
  refine ors_pure (v := ?_) (by rfl) ?_ ?_
  rotate_left
  · intro w' _; go_simp; try with_reducible rfl
  try simp only [Act.put, List.setIfInBounds_toArray, List.set_cons_zero, List.set_cons_succ]
  refine ors_pure (v := ?_) (by rfl) ?_ ?_
  rotate_left
  · intro w' hS; have hc := GK.out w' hS; go_simp; try with_reducible rfl
  try simp only [Act.put, List.setIfInBounds_toArray, List.set_cons_zero, List.set_cons_succ]
  refine ors_step (by rfl) (fun K hK => ?_)
  go_wp2_with fail
  refine ⟨s3.out, ?_⟩
  try simp only [Act.put, List.setIfInBounds_toArray, List.set_cons_zero, List.set_cons_succ]
  refine ors_pure (v := ?_) (by rfl) ?_ ?_
  rotate_left
  · intro w' _; go_simp; try with_reducible rfl
  try simp only [Act.put, List.setIfInBounds_toArray, List.set_cons_zero, List.set_cons_succ]
  refine ors_pure (v := ?_) (by rfl) ?_ ?_
  rotate_left
  · intro w' _; go_simp; try with_reducible rfl
  try simp only [Act.put, List.setIfInBounds_toArray, List.set_cons_zero, List.set_cons_succ]
  refine ors_pure (v := ?_) (by rfl) ?_ ?_
  rotate_left
  · intro w' hS; have hc := (C1.out w' hS).cellv (i := 0) (v := .string s) rfl; go_simp; try with_reducible rfl
  try simp only [Act.put, List.setIfInBounds_toArray, List.set_cons_zero, List.set_cons_succ]
  refine ors_pure (v := ?_) (by rfl) ?_ ?_
  rotate_left
  · intro w' _; go_simp; try with_reducible rfl
  try simp only [Act.put, List.setIfInBounds_toArray, List.set_cons_zero, List.set_cons_succ]
  refine ors_pure (v := ?_) (by rfl) ?_ ?_
  rotate_left
  · intro w' _; go_simp; try with_reducible rfl
  try simp only [Act.put, List.setIfInBounds_toArray, List.set_cons_zero, List.set_cons_succ]
  refine ors_pure (v := ?_) (by rfl) ?_ ?_
  rotate_left
  · intro w' _; go_simp; try with_reducible rfl
  try simp only [Act.put, List.setIfInBounds_toArray, List.set_cons_zero, List.set_cons_succ]
  refine ors_pure (v := ?_) (by rfl) ?_ ?_
  rotate_left
  · intro w' _; go_simp; try with_reducible rfl
  try simp only [Act.put, List.setIfInBounds_toArray, List.set_cons_zero, List.set_cons_succ]
  refine ors_step (by rfl) (fun K hK => ?_)
  go_wp2_with fail
  refine ⟨s3.out, ?_⟩
  try simp only [Act.put, List.setIfInBounds_toArray, List.set_cons_zero, List.set_cons_succ]
  refine ors_pure (v := ?_) (by rfl) ?_ ?_
  rotate_left
  · intro w' _; go_simp; try with_reducible rfl
  try simp only [Act.put, List.setIfInBounds_toArray, List.set_cons_zero, List.set_cons_succ]
  refine ors_pure (v := ?_) (by rfl) ?_ ?_
  rotate_left
  · intro w' _; go_simp; try with_reducible rfl
  try simp only [Act.put, List.setIfInBounds_toArray, List.set_cons_zero, List.set_cons_succ]
  refine ors_pure (v := ?_) (by rfl) ?_ ?_
  rotate_left
  · intro w' hS; have hc := (C1.out w' hS).cellv (i := 1) (v := .int .i64 st) rfl; go_simp; try with_reducible rfl
  try simp only [Act.put, List.setIfInBounds_toArray, List.set_cons_zero, List.set_cons_succ]
  refine ors_pure (v := ?_) (by rfl) ?_ ?_
  rotate_left
  · intro w' _; go_simp; try with_reducible rfl
  try simp only [Act.put, List.setIfInBounds_toArray, List.set_cons_zero, List.set_cons_succ]
  refine ors_pure (v := ?_) (by rfl) ?_ ?_
  rotate_left
  · intro w' _; go_simp; try with_reducible rfl
  try simp only [Act.put, List.setIfInBounds_toArray, List.set_cons_zero, List.set_cons_succ]
  refine ors_pure (v := ?_) (by rfl) ?_ ?_
  rotate_left
  · intro w' _; go_simp; try with_reducible rfl
  try simp only [Act.put, List.setIfInBounds_toArray, List.set_cons_zero, List.set_cons_succ]
  refine ors_pure (v := ?_) (by rfl) ?_ ?_
  rotate_left
  · intro w' _; go_simp; try with_reducible rfl
  try simp only [Act.put, List.setIfInBounds_toArray, List.set_cons_zero, List.set_cons_succ]
  refine ors_step (by rfl) (fun K hK => ?_)
  go_wp2_with fail
  refine (steps_2 w2.heap.size w1.heap.size (stg 0) s st st c _ (SZ.out _ s3.out) (GE.out _ s3.out) (C2.out _ s3.out) (C1.out _ s3.out)).mono ?_
  rintro e v4 ⟨p4, cap4, rfl, hb⟩
  have s4 := Lib.hid (s3.out.trans (hb.mono (Nat.le_trans (by have := X6.out; omega) s3.out.size)))
  clear hb
  go_wp2_with fail
  refine ⟨s4.out, ?_⟩
  try simp only [Act.put, List.setIfInBounds_toArray, List.set_cons_zero, List.set_cons_succ]
  refine ors_pure (v := ?_) (by rfl) ?_ ?_
  rotate_left
  · intro w' _; go_simp; try with_reducible rfl
  try simp only [Act.put, List.setIfInBounds_toArray, List.set_cons_zero, List.set_cons_succ]
  refine ors_pure (v := ?_) (by rfl) ?_ ?_
  rotate_left
  · intro w' _; go_simp; try with_reducible rfl
  try simp only [Act.put, List.setIfInBounds_toArray, List.set_cons_zero, List.set_cons_succ]
  refine ors_pure (v := ?_) (by rfl) ?_ ?_
  rotate_left
  · intro w' _; go_simp; try with_reducible rfl
  try simp only [Act.put, List.setIfInBounds_toArray, List.set_cons_zero, List.set_cons_succ]
  refine ors_pure (v := ?_) (by rfl) ?_ ?_
  rotate_left
  · intro w' _; go_simp; try with_reducible rfl
  try simp only [Act.put, List.setIfInBounds_toArray, List.set_cons_zero, List.set_cons_succ]
  refine ors_nil ?_
  go_wp2_with fail
  go_ret
  exact ⟨rfl, X1.out.trans (s4.out.mono LT0.out)⟩
end Go.Proofs.YtceiiejjhebmeabDoor
