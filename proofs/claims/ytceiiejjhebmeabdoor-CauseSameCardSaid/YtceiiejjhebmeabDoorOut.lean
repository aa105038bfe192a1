/- Contracts: cause.outermost, cause.itself, cause.number, cause.Code, at an error that is a *Cause or a number. Conditions: the two variables as laid. -/
import Derived.Test.YtceiiejjhebmeabDoorAsm
import Derived.Tactics2
import Derived.Defers
import Derived.Recover
import Derived.Laws.Pointers
namespace Go.Proofs.YtceiiejjhebmeabDoor
open Go.RowKit
theorem idle_out (p : Addr) (w : World) :
    CallsD Tryd.prog 27 #[.pointer (some p)] .returning w fun e u' w' => e = .returned (.tuple #[]) ∧ u' = .returning ∧ w' = w := by
  refine callsD_of_wpS Tryd.func27 rfl fun c₀ cs hu => ?_
  apply wpS_seq
  apply wpS_region
  simp [wpOpsS, go_sem, recoverD, hu, Tryd.ntmps27, Exit.thenS]
  refine wpS_cond (t := false) (by simp [Act.eval, Array.replicate]) ?_
  simp only [Bool.false_eq_true, if_false]
  refine wpS_of_wp (wp_skip ?_)
  cases c₀
  simp_all [bodyPostS, results, Tryd.results27]
theorem idle_num (p : Addr) (w : World) :
    CallsD Tryd.prog 26 #[.pointer (some p)] .returning w fun e u' w' => e = .returned (.tuple #[]) ∧ u' = .returning ∧ w' = w := by
  refine callsD_of_wpS Tryd.func26 rfl fun c₀ cs hu => ?_
  apply wpS_seq
  apply wpS_region
  simp [wpOpsS, go_sem, recoverD, hu, Tryd.ntmps26, Exit.thenS]
  refine wpS_cond (t := false) (by simp [Act.eval, Array.replicate]) ?_
  simp only [Bool.false_eq_true, if_false]
  refine wpS_of_wp (wp_skip ?_)
  cases c₀
  simp_all [bodyPostS, results, Tryd.results26]
set_option maxHeartbeats 1000000 in
theorem out_cause (g : Nat) (w : World) (hs : 1 < w.heap.size) (hg : w.cell? ⟨1, 0, none⟩ = some theErr) :
    Calls Tryd.prog 23 #[ofC g] w fun e w' => e = .returned (.pointer (some ⟨g, 0, none⟩)) ∧ Below w.heap.size w w' := by
  have hmf : ∀ (fn : Fn) (first cap : Array Value) (w : World), (Instr.makeFunc fn first cap).run Tryd.prog w = .ok (.func fn first cap) w := fun _ _ _ _ => rfl
  have hA := Lib.hid (as_cause ⟨g, 0, none⟩ ⟨w.heap.size, 0, none⟩ (.pointer none) (w.alloc (.cells #[.pointer none] 29)) (by simp; omega)
    (by rw [World.cell?_alloc_lt _ _ ⟨1, 0, none⟩ (by simp; omega)]; exact hg) (by simp) (by simp) (by simp))
  unfold ofC
  go_enter_defers Tryd.func23, Tryd.ntmps23
  go_wp2_with (go_at_call 11; refine hA.out.mono ?_; rintro e w' ⟨rfl, hw1⟩)
  refine leaves_cons (f := 27) (args := #[.pointer (some ⟨w.heap.size, 0, none⟩)]) (by simp) (by simp [go_sem]) ?_
  refine (idle_out ⟨w.heap.size, 0, none⟩ _).mono ?_
  rintro e u' w'' ⟨rfl, rfl, rfl⟩
  simp [Leaves, settle, results, Tryd.results23, go_sem]
  exact (((((Below.refl _ _).alloc (Nat.le_refl _) _).alloc (by simp) _).alloc (by simp; omega) _).alloc (by simp; omega) _).alloc (by simp; omega) _
set_option maxHeartbeats 1000000 in
theorem out_num (c : Int) (w : World) (hs : 1 < w.heap.size) (hg : w.cell? ⟨1, 0, none⟩ = some theErr) :
    Calls Tryd.prog 23 #[.iface 27 (.int .i64 c)] w fun e w' => e = .returned (.pointer none) ∧ Below w.heap.size w w' := by
  have hmf : ∀ (fn : Fn) (first cap : Array Value) (w : World), (Instr.makeFunc fn first cap).run Tryd.prog w = .ok (.func fn first cap) w := fun _ _ _ _ => rfl
  have hA := Lib.hid (as_miss c ⟨w.heap.size, 0, none⟩ (w.alloc (.cells #[.pointer none] 29)) (by simp; omega)
    (by rw [World.cell?_alloc_lt _ _ ⟨1, 0, none⟩ (by simp; omega)]; exact hg))
  go_enter_defers Tryd.func23, Tryd.ntmps23
  go_wp2_with (go_at_call 11; refine hA.out.mono ?_; rintro e w' ⟨rfl, hw1⟩)
  refine leaves_cons (f := 27) (args := #[.pointer (some ⟨w.heap.size, 0, none⟩)]) (by simp) (by simp [go_sem]) ?_
  refine (idle_out ⟨w.heap.size, 0, none⟩ _).mono ?_
  rintro e u' w'' ⟨rfl, rfl, rfl⟩
  simp [Leaves, settle, results, Tryd.results23, go_sem]
  exact ((((Below.refl _ _).alloc (Nat.le_refl _) _).alloc (by simp) _).alloc (by simp; omega) _).alloc (by simp; omega) _
theorem cInfo : (Tryd.prog.info? 29).map (·.comparable) = some true := by kernel_rfl
theorem cSize : (Tryd.prog.info? 31).map (·.size) = some 3 := by kernel_rfl
theorem nInfo : (Tryd.prog.info? 27).map (·.comparable) = some true := by kernel_rfl
theorem eql_same (a : Addr) (w : World) : (binOp .eql 24 (.iface 29 (.pointer (some a))) (.iface 29 (.pointer (some a)))).run Tryd.prog w = .ok (.bool true) w := by
  obtain ⟨i, hi, hcmp⟩ := Option.map_eq_some_iff.1 cInfo
  obtain ⟨j, hj, _⟩ := Option.map_eq_some_iff.1 cSize
  exact run_eql_iface_ptr_same w a Tryd.underlying24 Tryd.underlying29 hi hcmp hj
theorem neq_same (a : Addr) (w : World) : (binOp .neq 24 (.iface 29 (.pointer (some a))) (.iface 29 (.pointer (some a)))).run Tryd.prog w = .ok (.bool false) w := by
  obtain ⟨i, hi, hcmp⟩ := Option.map_eq_some_iff.1 cInfo
  obtain ⟨j, hj, _⟩ := Option.map_eq_some_iff.1 cSize
  simp only [binOp]
  simp [Op.equal, Op.maxDepth, run_equalIn_iface_ptr_same w 9998 a Tryd.underlying24 Tryd.underlying29 hi hcmp hj]
theorem eql_other {a b : Addr} {ca cb : Array Value} {ta tb : TypeId} (w : World) (hne : a ≠ b) (ha : w.heap[a.block]? = some (.cells ca ta (0, 0))) (hb : w.heap[b.block]? = some (.cells cb tb (0, 0))) :
    (binOp .eql 24 (.iface 29 (.pointer (some a))) (.iface 29 (.pointer (some b)))).run Tryd.prog w = .ok (.bool false) w := by
  obtain ⟨i, hi, hcmp⟩ := Option.map_eq_some_iff.1 cInfo
  obtain ⟨j, hj, hjs⟩ := Option.map_eq_some_iff.1 cSize
  exact run_eql_iface_ptr_other w Tryd.underlying24 Tryd.underlying29 hi hcmp hj (by rw [hjs]; decide) hne ha hb
theorem eql_types (tx ty : TypeId) (vx vy : Value) (hne : tx ≠ ty) (w : World) : (binOp .eql 24 (.iface tx vx) (.iface ty vy)).run Tryd.prog w = .ok (.bool false) w :=
  run_eql_iface_types tx ty vx vy Tryd.underlying24 hne w
theorem neq_types (tx ty : TypeId) (vx vy : Value) (hne : tx ≠ ty) (w : World) : (binOp .neq 24 (.iface tx vx) (.iface ty vy)).run Tryd.prog w = .ok (.bool true) w := by
  have h : ∀ d : Nat, (Op.equalIn (d + 1) 24 (.iface tx vx) (.iface ty vy)).run Tryd.prog w = .ok false w := fun d => by simp [Op.equalIn, run_underlying Tryd.underlying24, hne]
  simp only [binOp]
  simp [Op.equal, Op.maxDepth, h 9999]
theorem eql_num (a b : Int) (w : World) : (binOp .eql 24 (.iface 27 (.int .i64 a)) (.iface 27 (.int .i64 b))).run Tryd.prog w = .ok (.bool (a == b)) w := by
  obtain ⟨i, hi, hcmp⟩ := Option.map_eq_some_iff.1 nInfo
  have h : ∀ d : Nat, (Op.equalIn (d + 2) 24 (.iface 27 (.int .i64 a)) (.iface 27 (.int .i64 b))).run Tryd.prog w = .ok (a == b) w := fun d => by
    simp [Op.equalIn, run_underlying Tryd.underlying24, run_underlying Tryd.underlying27, typeInfo, hi, hcmp]
  simp only [binOp]
  simp [Op.equal, Op.maxDepth, h 9998]
theorem itself_cause (g : Nat) (w : World) (hs : 1 < w.heap.size) (hg : w.cell? ⟨1, 0, none⟩ = some theErr) :
    Calls Tryd.prog 64 #[ofC g] w fun e w' => e = .returned (.pointer (some ⟨g, 0, none⟩)) ∧ Below w.heap.size w w' := by
  have hO := Lib.hid (out_cause g w hs hg)
  have hn := neq_same ⟨g, 0, none⟩
  unfold ofC at *
  clear hg
  go_enter Tryd.func64, Tryd.ntmps64
  go_wp2_with (go_at_call 23; with_reducible refine hO.out.mono ?_; rintro e w1 ⟨rfl, hb⟩)
  go_ret
  exact ⟨rfl, hb⟩
theorem itself_num (c : Int) (w : World) (hs : 1 < w.heap.size) (hg : w.cell? ⟨1, 0, none⟩ = some theErr) :
    Calls Tryd.prog 64 #[.iface 27 (.int .i64 c)] w fun e w' => e = .returned (.pointer none) ∧ Below w.heap.size w w' := by
  have hO := Lib.hid (out_num c w hs hg)
  have hn := neq_types 29 27 (.pointer none) (.int .i64 c) (by decide)
  clear hg
  go_enter Tryd.func64, Tryd.ntmps64
  go_wp2_with (go_at_call 23; with_reducible refine hO.out.mono ?_; rintro e w1 ⟨rfl, hb⟩)
  go_ret
  exact ⟨rfl, hb⟩
set_option maxHeartbeats 1000000 in
theorem number_any (g : Nat) (s : ByteArray) (n q : Int) (w : World) (hs : 1 < w.heap.size) (hg : w.cell? ⟨1, 0, none⟩ = some theErr) (hC : IsC w g s n (.iface 27 (.int .i64 q))) :
    Calls Tryd.prog 22 #[ofC g] w fun e w' => e = .returned (.int .i64 q) ∧ Below w.heap.size w w' := by
  have hmf : ∀ (fn : Fn) (first cap : Array Value) (w : World), (Instr.makeFunc fn first cap).run Tryd.prog w = .ok (.func fn first cap) w := fun _ _ _ _ => rfl
  have hA := Lib.hid (as_num g s n q ⟨w.heap.size, 0, none⟩ (.int .i64 0) (w.alloc (.cells #[.int .i64 0] 27)) (by simp; omega)
    (by rw [World.cell?_alloc_lt _ _ ⟨1, 0, none⟩ (by simp; omega)]; exact hg) (by simp) (by simp) (by simp) (hC.alloc _))
  unfold ofC at *
  clear hC
  go_enter_defers Tryd.func22, Tryd.ntmps22
  go_wp2_with (go_at_call 11; refine hA.out.mono ?_; rintro e w' ⟨rfl, hw1⟩)
  refine leaves_cons (f := 26) (args := #[.pointer (some ⟨w.heap.size, 0, none⟩)]) (by simp) (by simp [go_sem]) ?_
  refine (idle_num ⟨w.heap.size, 0, none⟩ _).mono ?_
  rintro e u' w'' ⟨rfl, rfl, rfl⟩
  simp [Leaves, settle, results, Tryd.results22, go_sem]
  exact (((((Below.refl _ _).alloc (Nat.le_refl _) _).alloc (by simp) _).alloc (by simp; omega) _).alloc (by simp; omega) _).alloc (by simp; omega) _
theorem code_any (g : Nat) (s : ByteArray) (n q : Int) (w : World) (hs : 1 < w.heap.size) (hg : w.cell? ⟨1, 0, none⟩ = some theErr) (hC : IsC w g s n (.iface 27 (.int .i64 q))) :
    Calls Tryd.prog 13 #[ofC g] w fun e w' => e = .returned (.int .i64 q) ∧ Below w.heap.size w w' := by
  have hO := Lib.hid (number_any g s n q w hs hg hC)
  unfold ofC at *
  clear hC hg
  go_enter Tryd.func13, Tryd.ntmps13
  go_wp2_with (go_at_call 22; with_reducible refine hO.out.mono ?_; rintro e w1 ⟨rfl, hb⟩)
  go_ret
  exact ⟨rfl, hb⟩
end Go.Proofs.YtceiiejjhebmeabDoor
