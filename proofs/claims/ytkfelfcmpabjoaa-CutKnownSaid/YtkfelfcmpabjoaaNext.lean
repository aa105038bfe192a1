/- Contract: cut.Next: where the first piece ends. Conditions: a text is no longer than its room, of fewer than 2^63 bytes. -/
import Derived.Test.YtkfelfcmpabjoaaFirst
namespace Go.Proofs.Ytkfelfcmpabjoaa
open Go.RowKit
theorem hw_nat (d : Nat) (h1 : 1 ≤ d) (h2 : d ≤ 64) : hw (d : Int) = d := by unfold hw; rw [if_neg (by omega), if_neg (by omega)]; omega
theorem okI_of {r : Rl} (h : r.Ok) : okI r.mn r.mx r.wd = true := by
  obtain ⟨o1, o2, o3, o4, o5, _, _⟩ := h
  unfold okI
  rw [decide_eq_true_iff]
  omega
theorem load_at {P : Program} {o : Oper} {ev : Operand → Value} (T : TypeId) (x : Operand) (ho : o.op = .load T x) (g : Nat) (hx : ev x = .pointer (some ⟨g, 0, none⟩)) (t : TypeId) (l : List Value) (w : World)
    (hS : Has w g t l) (d : TypeDesc) (hu : P.underlying T = some d) (hd : (match d with | .struct _ | .array _ _ => true | _ => false) = true) (hi : (P.info? T).map (·.size) = some l.toArray.size) :
    (execOp ev o).run P w = .ok (.value (.agg l.toArray)) w := by
  unfold execOp
  simp only [ho, hx, Instr.loadAt, Instr.sureAddr, Sem.run_bind, Sem.run_pure, Result.andThen_ok, run_loadVar_row w g t T l.toArray (0, 0) d hS hu hd hi]
set_option maxHeartbeats 1000000 in
set_option maxRecDepth 100000 in
theorem next_bad (m x d k t : Int) (h : okI m x d = false) (b : List (BitVec 8)) (q : Option Addr) (c : Nat) (w : World) :
    Calls Try.prog 13 #[ruleV m x d k t, .slice q b.length c] w fun e w' => e = .returned (.int .i64 0) ∧ Below w.heap.size w w' := by
  have HG := Lib.hid (fun w1 => good_any m x d k t w1)
  rw [h] at HG
  unfold ruleV ruleL at HG ⊢
  go_enter Try.func13, Try.ntmps13
  go_wp2_with ((with_reducible refine (HG.out _).mono ?_); rintro e w4 ⟨rfl, hB⟩; have HB := Lib.hid hB; clear hB)
  go_ret
  exact ⟨rfl, ((Below.refl _ _).alloc (Nat.le_refl _) _).trans (HB.out.mono (by simp))⟩
def nxOrder : List (Nat × Bool) := [(0, true), (1, true), (2, true), (4, true), (3, false), (5, false), (6, true)]
set_option maxHeartbeats 1000000 in
set_option maxRecDepth 100000 in
theorem next_good (r : Rl) (hr : r.Ok) (b : List (BitVec 8)) (q : Option Addr) (c : Nat) (w : World) (hc : b.length ≤ c) (hl : b.length < 9223372036854775807) (hs : Sees w w.heap.size q (b.map u8v)) :
    Calls Try.prog 13 #[r.val, .slice q b.length c] w fun e w' => e = .returned (.int .i64 ((nx r b : Nat) : Int)) ∧ Below w.heap.size w w' := by
  have HG := Lib.hid (fun w1 => good_any r.mn r.mx r.wd r.mask r.want w1)
  rw [okI_of hr] at HG
  have HF := Lib.hid (fun g v hs hw => first_any r hr b q c g [] v hc hl hs hw)
  have HW := Lib.hid (fun w1 => new_any (r.wd : Int) w1)
  rw [hw_nat r.wd hr.w1 hr.w2] at HW
  have HS := Lib.hid hs
  have HR := Lib.hid (Has.made' w 25 _ (ruleL r.mn r.mx r.wd r.mask r.want) rfl)
  have HB1 := Lib.hid ((Below.refl w.heap.size w).alloc (Nat.le_refl _) (.cells (ruleL r.mn r.mx r.wd r.mask r.want).toArray 25))
  have HZ : Hid ((w.alloc (.cells (ruleL r.mn r.mx r.wd r.mask r.want).toArray 25)).heap.size = w.heap.size + 1) := Lib.hid (by simp)
  generalize nx r b = N at *
  clear hs hc hl hr
  unfold Rl.val at HF ⊢
  unfold ruleV at HG HF ⊢
  unfold ruleL at HG HF HR HB1 HZ ⊢
  go_enter Try.func13, Try.ntmps13
  go_wp2_with ((with_reducible refine (HG.out _).mono ?_); rintro e w4 ⟨rfl, hB⟩; have HB := Lib.hid hB; clear hB)
  have HB2 := Lib.hid (HB1.out.trans (HB.out.mono HB1.out.size))
  have HR2 := Lib.hid (HR.out.keep HB.out (by have := HZ.out; omega))
  clear HB HB1 HR HZ HG
  refine wp_region_ors (fun v => Has v w.heap.size 25 [.int .i64 (r.mn : Int), .int .i64 (r.mx : Int), .int .i64 (r.wd : Int), .int .u64 (r.mask : Int), .int .u64 (r.want : Int)]) nxOrder (by kernel_rfl) (by kernel_rfl) (by kernel_rfl) HR2.out.drew ?_
  replace HR2 := Lib.hid HR2.out.drew
  replace HB2 := Lib.hid HB2.out.drew
  generalize w4.drew = w5 at *
  unfold nxOrder
  simp only [pickOrs, List.getElem?_cons_zero, List.getElem?_cons_succ]
  refine ors_pure (by kernel_rfl) (fun w' hv => load_at 25 (.tmp 2) rfl w.heap.size rfl 25 _ w' hv _ Try.underlying25 rfl (by kernel_rfl)) ?_
  try simp only [Act.put, List.setIfInBounds_toArray, List.set_cons_zero, List.set_cons_succ]
  refine ors_pure (v := ?_) (by kernel_rfl) ?_ ?_
  rotate_left
  · intro w' hv; clear hv; go_simp; try with_reducible rfl
  try simp only [Act.put, List.setIfInBounds_toArray, List.set_cons_zero, List.set_cons_succ]
  refine ors_pure (v := ?_) (by kernel_rfl) ?_ ?_
  rotate_left
  · intro w' hv; have cx := Has.cellv (i := 2) hv rfl; clear hv; go_simp; try with_reducible rfl
  try simp only [Act.put, List.setIfInBounds_toArray, List.set_cons_zero, List.set_cons_succ]
  refine ors_pure (v := ?_) (by kernel_rfl) ?_ ?_
  rotate_left
  · intro w' hv; clear hv; go_simp; try with_reducible rfl
  try simp only [Act.put, List.setIfInBounds_toArray, List.set_cons_zero, List.set_cons_succ]
  refine ors_step (by kernel_rfl) (fun K hK => ?_)
  go_wp2_with fail
  refine (HW.out w5).mono ?_
  rintro e v1 ⟨rfl, hx1, hb1, hz1⟩
  have hg : w.heap.size < w5.heap.size := HR2.out.lt
  have HX := Lib.hid hx1
  have HSB := Lib.hid ((HS.out.keep (HB2.out.trans (hb1.mono (Nat.le_of_lt hg)))).more (Nat.le_of_lt hg))
  replace HR2 := Lib.hid (HR2.out.keep hb1 hg)
  have HB3 := Lib.hid (HB2.out.trans (hb1.mono (Nat.le_of_lt hg)))
  have HGT : Hid (w.heap.size < w5.heap.size ∧ w5.heap.size < v1.heap.size) := Lib.hid ⟨hg, by omega⟩
  clear hx1 hb1 hz1 hg HB2 HW
  generalize w5.heap.size = g at *
  go_wp2_with fail
  refine ⟨HR2.out, ?_⟩
  try simp only [Act.put, List.setIfInBounds_toArray, List.set_cons_zero, List.set_cons_succ]
  refine ors_step (by kernel_rfl) (fun K hK => ?_)
  go_wp2_with fail
  refine (HF.out g v1 HSB.out HX.out).mono ?_
  rintro e v2 ⟨rfl, _, hsv⟩
  have HB4 := Lib.hid (HB3.out.trans (hsv.below (n := w.heap.size) (Nat.le_of_lt HGT.out.1) (by have := HGT.out; omega)))
  replace HR2 := Lib.hid (hsv.has (by have := HGT.out.1; omega) HR2.out)
  clear hsv
  go_wp2_with fail
  refine ⟨HR2.out, ?_⟩
  try simp only [Act.put, List.setIfInBounds_toArray, List.set_cons_zero, List.set_cons_succ]
  refine ors_pure (v := ?_) (by kernel_rfl) ?_ ?_
  rotate_left
  · intro w' hv; clear hv; go_simp; try with_reducible rfl
  try simp only [Act.put, List.setIfInBounds_toArray, List.set_cons_zero, List.set_cons_succ]
  refine ors_nil ?_
  go_wp2_with fail
  go_ret
  exact ⟨rfl, HB4.out⟩
end Go.Proofs.Ytkfelfcmpabjoaa
