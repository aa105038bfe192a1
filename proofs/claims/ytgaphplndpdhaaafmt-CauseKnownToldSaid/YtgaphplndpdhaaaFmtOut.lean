/- Contracts: cause.outermost, cause.itself, cause.number, cause.Code, at an error that is a *Cause or a number. Conditions: the two variables as laid. -/
import Derived.Test.YtgaphplndpdhaaaFmtAsm
import Derived.Tactics2
import Derived.Defers
import Derived.Recover
import Derived.Laws.Pointers
namespace Go.Proofs.YtgaphplndpdhaaaFmt
open Go.RowKit
theorem idle_out (p : Addr) (w : World) :
    CallsD Tryf.prog 29 #[.pointer (some p)] .returning w fun e u' w' => e = .returned (.tuple #[]) ∧ u' = .returning ∧ w' = w := by
  refine callsD_of_wpS Tryf.func29 rfl fun c₀ cs hu => ?_
  apply wpS_seq
  apply wpS_region
  simp [wpOpsS, go_sem, recoverD, hu, Tryf.ntmps29, Exit.thenS]
  refine wpS_cond (t := false) (by simp [Act.eval, Array.replicate]) ?_
  simp only [Bool.false_eq_true, if_false]
  refine wpS_of_wp (wp_skip ?_)
  cases c₀
  simp_all [bodyPostS, results, Tryf.results29]
theorem idle_num (p : Addr) (w : World) :
    CallsD Tryf.prog 25 #[.pointer (some p)] .returning w fun e u' w' => e = .returned (.tuple #[]) ∧ u' = .returning ∧ w' = w := by
  refine callsD_of_wpS Tryf.func25 rfl fun c₀ cs hu => ?_
  apply wpS_seq
  apply wpS_region
  simp [wpOpsS, go_sem, recoverD, hu, Tryf.ntmps25, Exit.thenS]
  refine wpS_cond (t := false) (by simp [Act.eval, Array.replicate]) ?_
  simp only [Bool.false_eq_true, if_false]
  refine wpS_of_wp (wp_skip ?_)
  cases c₀
  simp_all [bodyPostS, results, Tryf.results25]
set_option maxHeartbeats 1000000 in
theorem out_cause (g : Nat) (w : World) (hs : 1 < w.heap.size) (hg : w.cell? ⟨1, 0, none⟩ = some theErr) :
    Calls Tryf.prog 24 #[ofC g] w fun e w' => e = .returned (.pointer (some ⟨g, 0, none⟩)) ∧ Below w.heap.size w w' := by
  have hmf : ∀ (fn : Fn) (first cap : Array Value) (w : World), (Instr.makeFunc fn first cap).run Tryf.prog w = .ok (.func fn first cap) w := fun _ _ _ _ => rfl
  have hA := Lib.hid (as_cause ⟨g, 0, none⟩ ⟨w.heap.size, 0, none⟩ (.pointer none) (w.alloc (.cells #[.pointer none] 31)) (by simp; omega)
    (by rw [World.cell?_alloc_lt _ _ ⟨1, 0, none⟩ (by simp; omega)]; exact hg) (by simp) (by simp) (by simp))
  unfold ofC
  go_enter_defers Tryf.func24, Tryf.ntmps24
  go_wp2_with (go_at_call 26; refine hA.out.mono ?_; rintro e w' ⟨rfl, hw1⟩)
  refine leaves_cons (f := 29) (args := #[.pointer (some ⟨w.heap.size, 0, none⟩)]) (by simp) (by simp [go_sem]) ?_
  refine (idle_out ⟨w.heap.size, 0, none⟩ _).mono ?_
  rintro e u' w'' ⟨rfl, rfl, rfl⟩
  simp [Leaves, settle, results, Tryf.results24, go_sem]
  exact (((((Below.refl _ _).alloc (Nat.le_refl _) _).alloc (by simp) _).alloc (by simp; omega) _).alloc (by simp; omega) _).alloc (by simp; omega) _
set_option maxHeartbeats 1000000 in
theorem out_num (c : Int) (w : World) (hs : 1 < w.heap.size) (hg : w.cell? ⟨1, 0, none⟩ = some theErr) :
    Calls Tryf.prog 24 #[.iface 26 (.int .i64 c)] w fun e w' => e = .returned (.pointer none) ∧ Below w.heap.size w w' := by
  have hmf : ∀ (fn : Fn) (first cap : Array Value) (w : World), (Instr.makeFunc fn first cap).run Tryf.prog w = .ok (.func fn first cap) w := fun _ _ _ _ => rfl
  have hA := Lib.hid (as_miss c ⟨w.heap.size, 0, none⟩ (w.alloc (.cells #[.pointer none] 31)) (by simp; omega)
    (by rw [World.cell?_alloc_lt _ _ ⟨1, 0, none⟩ (by simp; omega)]; exact hg))
  go_enter_defers Tryf.func24, Tryf.ntmps24
  go_wp2_with (go_at_call 26; refine hA.out.mono ?_; rintro e w' ⟨rfl, hw1⟩)
  refine leaves_cons (f := 29) (args := #[.pointer (some ⟨w.heap.size, 0, none⟩)]) (by simp) (by simp [go_sem]) ?_
  refine (idle_out ⟨w.heap.size, 0, none⟩ _).mono ?_
  rintro e u' w'' ⟨rfl, rfl, rfl⟩
  simp [Leaves, settle, results, Tryf.results24, go_sem]
  exact ((((Below.refl _ _).alloc (Nat.le_refl _) _).alloc (by simp) _).alloc (by simp; omega) _).alloc (by simp; omega) _
theorem cInfo : (Tryf.prog.info? 31).map (·.comparable) = some true := by kernel_rfl
theorem cSize : (Tryf.prog.info? 33).map (·.size) = some 3 := by kernel_rfl
theorem nInfo : (Tryf.prog.info? 26).map (·.comparable) = some true := by kernel_rfl
theorem eql_same (a : Addr) (w : World) : (binOp .eql 24 (.iface 31 (.pointer (some a))) (.iface 31 (.pointer (some a)))).run Tryf.prog w = .ok (.bool true) w := by
  obtain ⟨i, hi, hcmp⟩ := Option.map_eq_some_iff.1 cInfo
  obtain ⟨j, hj, _⟩ := Option.map_eq_some_iff.1 cSize
  exact run_eql_iface_ptr_same w a Tryf.underlying24 Tryf.underlying31 hi hcmp hj
theorem neq_same (a : Addr) (w : World) : (binOp .neq 24 (.iface 31 (.pointer (some a))) (.iface 31 (.pointer (some a)))).run Tryf.prog w = .ok (.bool false) w := by
  obtain ⟨i, hi, hcmp⟩ := Option.map_eq_some_iff.1 cInfo
  obtain ⟨j, hj, _⟩ := Option.map_eq_some_iff.1 cSize
  simp only [binOp]
  simp [Op.equal, Op.maxDepth, run_equalIn_iface_ptr_same w 9998 a Tryf.underlying24 Tryf.underlying31 hi hcmp hj]
theorem eql_other {a b : Addr} {ca cb : Array Value} {ta tb : TypeId} (w : World) (hne : a ≠ b) (ha : w.heap[a.block]? = some (.cells ca ta (0, 0))) (hb : w.heap[b.block]? = some (.cells cb tb (0, 0))) :
    (binOp .eql 24 (.iface 31 (.pointer (some a))) (.iface 31 (.pointer (some b)))).run Tryf.prog w = .ok (.bool false) w := by
  obtain ⟨i, hi, hcmp⟩ := Option.map_eq_some_iff.1 cInfo
  obtain ⟨j, hj, hjs⟩ := Option.map_eq_some_iff.1 cSize
  exact run_eql_iface_ptr_other w Tryf.underlying24 Tryf.underlying31 hi hcmp hj (by rw [hjs]; decide) hne ha hb
theorem eql_types (tx ty : TypeId) (vx vy : Value) (hne : tx ≠ ty) (w : World) : (binOp .eql 24 (.iface tx vx) (.iface ty vy)).run Tryf.prog w = .ok (.bool false) w :=
  run_eql_iface_types tx ty vx vy Tryf.underlying24 hne w
theorem neq_types (tx ty : TypeId) (vx vy : Value) (hne : tx ≠ ty) (w : World) : (binOp .neq 24 (.iface tx vx) (.iface ty vy)).run Tryf.prog w = .ok (.bool true) w := by
  have h : ∀ d : Nat, (Op.equalIn (d + 1) 24 (.iface tx vx) (.iface ty vy)).run Tryf.prog w = .ok false w := fun d => by simp [Op.equalIn, run_underlying Tryf.underlying24, hne]
  simp only [binOp]
  simp [Op.equal, Op.maxDepth, h 9999]
theorem eql_num (a b : Int) (w : World) : (binOp .eql 24 (.iface 26 (.int .i64 a)) (.iface 26 (.int .i64 b))).run Tryf.prog w = .ok (.bool (a == b)) w := by
  obtain ⟨i, hi, hcmp⟩ := Option.map_eq_some_iff.1 nInfo
  have h : ∀ d : Nat, (Op.equalIn (d + 2) 24 (.iface 26 (.int .i64 a)) (.iface 26 (.int .i64 b))).run Tryf.prog w = .ok (a == b) w := fun d => by
    simp [Op.equalIn, run_underlying Tryf.underlying24, run_underlying Tryf.underlying26, typeInfo, hi, hcmp]
  simp only [binOp]
  simp [Op.equal, Op.maxDepth, h 9998]
theorem itself_cause (g : Nat) (w : World) (hs : 1 < w.heap.size) (hg : w.cell? ⟨1, 0, none⟩ = some theErr) :
    Calls Tryf.prog 20 #[ofC g] w fun e w' => e = .returned (.pointer (some ⟨g, 0, none⟩)) ∧ Below w.heap.size w w' := by
  have hO := Lib.hid (out_cause g w hs hg)
  have hn := neq_same ⟨g, 0, none⟩
  unfold ofC at *
  clear hg
  go_enter Tryf.func20, Tryf.ntmps20
  go_wp2_with (go_at_call 24; with_reducible refine hO.out.mono ?_; rintro e w1 ⟨rfl, hb⟩)
  go_ret
  exact ⟨rfl, hb⟩
theorem itself_num (c : Int) (w : World) (hs : 1 < w.heap.size) (hg : w.cell? ⟨1, 0, none⟩ = some theErr) :
    Calls Tryf.prog 20 #[.iface 26 (.int .i64 c)] w fun e w' => e = .returned (.pointer none) ∧ Below w.heap.size w w' := by
  have hO := Lib.hid (out_num c w hs hg)
  have hn := neq_types 31 26 (.pointer none) (.int .i64 c) (by decide)
  clear hg
  go_enter Tryf.func20, Tryf.ntmps20
  go_wp2_with (go_at_call 24; with_reducible refine hO.out.mono ?_; rintro e w1 ⟨rfl, hb⟩)
  go_ret
  exact ⟨rfl, hb⟩
set_option maxHeartbeats 1000000 in
theorem number_any (g : Nat) (s : ByteArray) (n q : Int) (w : World) (hs : 1 < w.heap.size) (hg : w.cell? ⟨1, 0, none⟩ = some theErr) (hC : IsC w g s n (.iface 26 (.int .i64 q))) :
    Calls Tryf.prog 18 #[ofC g] w fun e w' => e = .returned (.int .i64 q) ∧ Below w.heap.size w w' := by
  have hmf : ∀ (fn : Fn) (first cap : Array Value) (w : World), (Instr.makeFunc fn first cap).run Tryf.prog w = .ok (.func fn first cap) w := fun _ _ _ _ => rfl
  have hA := Lib.hid (as_num g s n q ⟨w.heap.size, 0, none⟩ (.int .i64 0) (w.alloc (.cells #[.int .i64 0] 26)) (by simp; omega)
    (by rw [World.cell?_alloc_lt _ _ ⟨1, 0, none⟩ (by simp; omega)]; exact hg) (by simp) (by simp) (by simp) (hC.alloc _))
  unfold ofC at *
  clear hC
  go_enter_defers Tryf.func18, Tryf.ntmps18
  go_wp2_with (go_at_call 26; refine hA.out.mono ?_; rintro e w' ⟨rfl, hw1⟩)
  refine leaves_cons (f := 25) (args := #[.pointer (some ⟨w.heap.size, 0, none⟩)]) (by simp) (by simp [go_sem]) ?_
  refine (idle_num ⟨w.heap.size, 0, none⟩ _).mono ?_
  rintro e u' w'' ⟨rfl, rfl, rfl⟩
  simp [Leaves, settle, results, Tryf.results18, go_sem]
  exact (((((Below.refl _ _).alloc (Nat.le_refl _) _).alloc (by simp) _).alloc (by simp; omega) _).alloc (by simp; omega) _).alloc (by simp; omega) _
theorem code_any (g : Nat) (s : ByteArray) (n q : Int) (w : World) (hs : 1 < w.heap.size) (hg : w.cell? ⟨1, 0, none⟩ = some theErr) (hC : IsC w g s n (.iface 26 (.int .i64 q))) :
    Calls Tryf.prog 11 #[ofC g] w fun e w' => e = .returned (.int .i64 q) ∧ Below w.heap.size w w' := by
  have hO := Lib.hid (number_any g s n q w hs hg hC)
  unfold ofC at *
  clear hC hg
  go_enter Tryf.func11, Tryf.ntmps11
  go_wp2_with (go_at_call 18; with_reducible refine hO.out.mono ?_; rintro e w1 ⟨rfl, hb⟩)
  go_ret
  exact ⟨rfl, hb⟩
end Go.Proofs.YtgaphplndpdhaaaFmt
