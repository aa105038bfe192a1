/- cause.outermost, itself, number, Code, where a *fmt.wrapError, an *errors.errorString or nil is met (written by gen_fout.py). Conditions: errors.errorType as laid; the blocks known whole. -/
import Derived.Test.YtgaphplndpdhaaaFmtOut
import Derived.Test.YtgaphplndpdhaaaFmtFat
namespace Go.Proofs.YtgaphplndpdhaaaFmt
open Go.RowKit
set_option maxHeartbeats 1000000 in
theorem out_wrap (gw : Nat) (tx : ByteArray) (g : Nat) (w : World) (hs : 1 < w.heap.size) (hg : w.cell? ⟨1, 0, none⟩ = some theErr) (hW : IsW w gw tx (ofC g)) :
    Calls Tryf.prog 24 #[ofW gw] w fun e w' => e = .returned (.pointer (some ⟨g, 0, none⟩)) ∧ Below w.heap.size w w' := by
  have hmf : ∀ (fn : Fn) (first cap : Array Value) (w : World), (Instr.makeFunc fn first cap).run Tryf.prog w = .ok (.func fn first cap) w := fun _ _ _ _ => rfl
  have hA := Lib.hid (as_wrapC gw tx ⟨g, 0, none⟩ ⟨w.heap.size, 0, none⟩ (.pointer none) (w.alloc (.cells #[.pointer none] 31)) (by simp; omega)
    (by rw [World.cell?_alloc_lt _ _ ⟨1, 0, none⟩ (by simp; omega)]; exact hg) (by simp) (by simp) (by simp) (hW.alloc _))
  unfold ofC at *
  unfold ofW at *
  clear hW
  go_enter_defers Tryf.func24, Tryf.ntmps24
  go_wp2_with (go_at_call 26; refine hA.out.mono ?_; rintro e w' ⟨rfl, hw1⟩)
  refine leaves_cons (f := 29) (args := #[.pointer (some ⟨w.heap.size, 0, none⟩)]) (by simp) (by simp [go_sem]) ?_
  refine (idle_out ⟨w.heap.size, 0, none⟩ _).mono ?_
  rintro e u' w'' ⟨rfl, rfl, rfl⟩
  simp [Leaves, settle, results, Tryf.results24, go_sem]
  exact (((((Below.refl _ _).alloc (Nat.le_refl _) _).alloc (by simp) _).alloc (by simp; omega) _).alloc (by simp; omega) _).alloc (by simp; omega) _
set_option maxHeartbeats 1000000 in
theorem out_str (p : Addr) (w : World) (hs : 1 < w.heap.size) (hg : w.cell? ⟨1, 0, none⟩ = some theErr) :
    Calls Tryf.prog 24 #[.iface 44 (.pointer (some p))] w fun e w' => e = .returned (.pointer none) ∧ Below w.heap.size w w' := by
  have hmf : ∀ (fn : Fn) (first cap : Array Value) (w : World), (Instr.makeFunc fn first cap).run Tryf.prog w = .ok (.func fn first cap) w := fun _ _ _ _ => rfl
  have hA := Lib.hid (as_missS p ⟨w.heap.size, 0, none⟩ (w.alloc (.cells #[.pointer none] 31)) (by simp; omega)
    (by rw [World.cell?_alloc_lt _ _ ⟨1, 0, none⟩ (by simp; omega)]; exact hg))
  go_enter_defers Tryf.func24, Tryf.ntmps24
  go_wp2_with (go_at_call 26; refine hA.out.mono ?_; rintro e w' ⟨rfl, hw1⟩)
  refine leaves_cons (f := 29) (args := #[.pointer (some ⟨w.heap.size, 0, none⟩)]) (by simp) (by simp [go_sem]) ?_
  refine (idle_out ⟨w.heap.size, 0, none⟩ _).mono ?_
  rintro e u' w'' ⟨rfl, rfl, rfl⟩
  simp [Leaves, settle, results, Tryf.results24, go_sem]
  exact ((((Below.refl _ _).alloc (Nat.le_refl _) _).alloc (by simp) _).alloc (by simp; omega) _).alloc (by simp; omega) _
set_option maxHeartbeats 1000000 in
theorem out_nil (w : World) :
    Calls Tryf.prog 24 #[.nilIface] w fun e w' => e = .returned (.pointer none) ∧ Below w.heap.size w w' := by
  have hmf : ∀ (fn : Fn) (first cap : Array Value) (w : World), (Instr.makeFunc fn first cap).run Tryf.prog w = .ok (.func fn first cap) w := fun _ _ _ _ => rfl
  have hA := Lib.hid (as_nilC ⟨w.heap.size, 0, none⟩ (w.alloc (.cells #[.pointer none] 31)))
  go_enter_defers Tryf.func24, Tryf.ntmps24
  go_wp2_with (go_at_call 26; refine hA.out.mono ?_; rintro e w' ⟨rfl, hw1⟩)
  refine leaves_cons (f := 29) (args := #[.pointer (some ⟨w.heap.size, 0, none⟩)]) (by simp) (by simp [go_sem]) ?_
  refine (idle_out ⟨w.heap.size, 0, none⟩ _).mono ?_
  rintro e u' w'' ⟨rfl, rfl, rfl⟩
  simp [Leaves, settle, results, Tryf.results24, go_sem]
  exact (Below.refl _ _).alloc (Nat.le_refl _) _
theorem itself_str (p : Addr) (w : World) (hs : 1 < w.heap.size) (hg : w.cell? ⟨1, 0, none⟩ = some theErr) :
    Calls Tryf.prog 20 #[.iface 44 (.pointer (some p))] w fun e w' => e = .returned (.pointer none) ∧ Below w.heap.size w w' := by
  have hO := Lib.hid (out_str p w hs hg)
  have hn := neq_types 31 44 (.pointer none) (.pointer (some p)) (by decide)
  clear hg
  go_enter Tryf.func20, Tryf.ntmps20
  go_wp2_with (go_at_call 24; with_reducible refine hO.out.mono ?_; rintro e w1 ⟨rfl, hb⟩)
  go_ret
  exact ⟨rfl, hb⟩
theorem itself_wrap (gw : Nat) (tx : ByteArray) (g : Nat) (w : World) (hs : 1 < w.heap.size) (hg : w.cell? ⟨1, 0, none⟩ = some theErr) (hW : IsW w gw tx (ofC g)) :
    Calls Tryf.prog 20 #[ofW gw] w fun e w' => e = .returned (.pointer none) ∧ Below w.heap.size w w' := by
  have hO := Lib.hid (out_wrap gw tx g w hs hg hW)
  have hn := neq_types 31 43 (.pointer (some ⟨g, 0, none⟩)) (.pointer (some ⟨gw, 0, none⟩)) (by decide)
  clear hg hW
  unfold ofW at *
  go_enter Tryf.func20, Tryf.ntmps20
  go_wp2_with (go_at_call 24; with_reducible refine hO.out.mono ?_; rintro e w1 ⟨rfl, hb⟩)
  go_ret
  exact ⟨rfl, hb⟩
theorem neq_nil (a : Value) (w : World) : (binOp .neq 24 (.iface 31 a) .nilIface).run Tryf.prog w = .ok (.bool true) w := by
  have h : ∀ d : Nat, (Op.equalIn (d + 1) 24 (.iface 31 a) .nilIface).run Tryf.prog w = .ok false w := fun d => by simp [Op.equalIn, run_underlying Tryf.underlying24]
  simp only [binOp]
  simp [Op.equal, Op.maxDepth, h 9999]
theorem itself_nil (w : World) :
    Calls Tryf.prog 20 #[.nilIface] w fun e w' => e = .returned (.pointer none) ∧ Below w.heap.size w w' := by
  have hO := Lib.hid (out_nil w)
  have hn := neq_nil (.pointer none)
  go_enter Tryf.func20, Tryf.ntmps20
  go_wp2_with (go_at_call 24; with_reducible refine hO.out.mono ?_; rintro e w1 ⟨rfl, hb⟩)
  go_ret
  exact ⟨rfl, hb⟩
set_option maxHeartbeats 1000000 in
theorem number_num (q : Int) (w : World) (hs : 1 < w.heap.size) (hg : w.cell? ⟨1, 0, none⟩ = some theErr) :
    Calls Tryf.prog 18 #[.iface 26 (.int .i64 q)] w fun e w' => e = .returned (.int .i64 q) ∧ Below w.heap.size w w' := by
  have hmf : ∀ (fn : Fn) (first cap : Array Value) (w : World), (Instr.makeFunc fn first cap).run Tryf.prog w = .ok (.func fn first cap) w := fun _ _ _ _ => rfl
  have hA := Lib.hid (as_numD q ⟨w.heap.size, 0, none⟩ (.int .i64 0) (w.alloc (.cells #[.int .i64 0] 26)) (by simp; omega)
    (by rw [World.cell?_alloc_lt _ _ ⟨1, 0, none⟩ (by simp; omega)]; exact hg) (by simp) (by simp) (by simp))
  go_enter_defers Tryf.func18, Tryf.ntmps18
  go_wp2_with (go_at_call 26; refine hA.out.mono ?_; rintro e w' ⟨rfl, hw1⟩)
  refine leaves_cons (f := 25) (args := #[.pointer (some ⟨w.heap.size, 0, none⟩)]) (by simp) (by simp [go_sem]) ?_
  refine (idle_num ⟨w.heap.size, 0, none⟩ _).mono ?_
  rintro e u' w'' ⟨rfl, rfl, rfl⟩
  simp [Leaves, settle, results, Tryf.results18, go_sem]
  exact (((((Below.refl _ _).alloc (Nat.le_refl _) _).alloc (by simp) _).alloc (by simp; omega) _).alloc (by simp; omega) _).alloc (by simp; omega) _
set_option maxHeartbeats 1000000 in
theorem number_str (p : Addr) (w : World) (hs : 1 < w.heap.size) (hg : w.cell? ⟨1, 0, none⟩ = some theErr) :
    Calls Tryf.prog 18 #[.iface 44 (.pointer (some p))] w fun e w' => e = .returned (.int .i64 1) ∧ Below w.heap.size w w' := by
  have hmf : ∀ (fn : Fn) (first cap : Array Value) (w : World), (Instr.makeFunc fn first cap).run Tryf.prog w = .ok (.func fn first cap) w := fun _ _ _ _ => rfl
  have hA := Lib.hid (as_numS p ⟨w.heap.size, 0, none⟩ (w.alloc (.cells #[.int .i64 0] 26)) (by simp; omega)
    (by rw [World.cell?_alloc_lt _ _ ⟨1, 0, none⟩ (by simp; omega)]; exact hg))
  go_enter_defers Tryf.func18, Tryf.ntmps18
  go_wp2_with (go_at_call 26; refine hA.out.mono ?_; rintro e w' ⟨rfl, hw1⟩)
  refine leaves_cons (f := 25) (args := #[.pointer (some ⟨w.heap.size, 0, none⟩)]) (by simp) (by simp [go_sem]) ?_
  refine (idle_num ⟨w.heap.size, 0, none⟩ _).mono ?_
  rintro e u' w'' ⟨rfl, rfl, rfl⟩
  simp [Leaves, settle, results, Tryf.results18, go_sem]
  exact ((((Below.refl _ _).alloc (Nat.le_refl _) _).alloc (by simp) _).alloc (by simp; omega) _).alloc (by simp; omega) _
set_option maxHeartbeats 1000000 in
theorem number_cs (g : Nat) (s : ByteArray) (n : Int) (p : Addr) (w : World) (hs : 1 < w.heap.size) (hg : w.cell? ⟨1, 0, none⟩ = some theErr) (hC : IsC w g s n (.iface 44 (.pointer (some p)))) :
    Calls Tryf.prog 18 #[ofC g] w fun e w' => e = .returned (.int .i64 1) ∧ Below w.heap.size w w' := by
  have hmf : ∀ (fn : Fn) (first cap : Array Value) (w : World), (Instr.makeFunc fn first cap).run Tryf.prog w = .ok (.func fn first cap) w := fun _ _ _ _ => rfl
  have hA := Lib.hid (as_numCS g s n p ⟨w.heap.size, 0, none⟩ (w.alloc (.cells #[.int .i64 0] 26)) (by simp; omega)
    (by rw [World.cell?_alloc_lt _ _ ⟨1, 0, none⟩ (by simp; omega)]; exact hg) (hC.alloc _))
  unfold ofC at *
  clear hC
  go_enter_defers Tryf.func18, Tryf.ntmps18
  go_wp2_with (go_at_call 26; refine hA.out.mono ?_; rintro e w' ⟨rfl, hw1⟩)
  refine leaves_cons (f := 25) (args := #[.pointer (some ⟨w.heap.size, 0, none⟩)]) (by simp) (by simp [go_sem]) ?_
  refine (idle_num ⟨w.heap.size, 0, none⟩ _).mono ?_
  rintro e u' w'' ⟨rfl, rfl, rfl⟩
  simp [Leaves, settle, results, Tryf.results18, go_sem]
  exact ((((Below.refl _ _).alloc (Nat.le_refl _) _).alloc (by simp) _).alloc (by simp; omega) _).alloc (by simp; omega) _
theorem code_num (q : Int) (w : World) (hs : 1 < w.heap.size) (hg : w.cell? ⟨1, 0, none⟩ = some theErr) :
    Calls Tryf.prog 11 #[.iface 26 (.int .i64 q)] w fun e w' => e = .returned (.int .i64 q) ∧ Below w.heap.size w w' := by
  have hO := Lib.hid (number_num q w hs hg)
  clear hg
  go_enter Tryf.func11, Tryf.ntmps11
  go_wp2_with (go_at_call 18; with_reducible refine hO.out.mono ?_; rintro e w1 ⟨rfl, hb⟩)
  go_ret
  exact ⟨rfl, hb⟩
theorem code_str (p : Addr) (w : World) (hs : 1 < w.heap.size) (hg : w.cell? ⟨1, 0, none⟩ = some theErr) :
    Calls Tryf.prog 11 #[.iface 44 (.pointer (some p))] w fun e w' => e = .returned (.int .i64 1) ∧ Below w.heap.size w w' := by
  have hO := Lib.hid (number_str p w hs hg)
  clear hg
  go_enter Tryf.func11, Tryf.ntmps11
  go_wp2_with (go_at_call 18; with_reducible refine hO.out.mono ?_; rintro e w1 ⟨rfl, hb⟩)
  go_ret
  exact ⟨rfl, hb⟩
theorem code_cs (g : Nat) (s : ByteArray) (n : Int) (p : Addr) (w : World) (hs : 1 < w.heap.size) (hg : w.cell? ⟨1, 0, none⟩ = some theErr) (hC : IsC w g s n (.iface 44 (.pointer (some p)))) :
    Calls Tryf.prog 11 #[ofC g] w fun e w' => e = .returned (.int .i64 1) ∧ Below w.heap.size w w' := by
  have hO := Lib.hid (number_cs g s n p w hs hg hC)
  unfold ofC at *
  clear hC hg
  go_enter Tryf.func11, Tryf.ntmps11
  go_wp2_with (go_at_call 18; with_reducible refine hO.out.mono ?_; rintro e w1 ⟨rfl, hb⟩)
  go_ret
  exact ⟨rfl, hb⟩
theorem code_nil (w : World) : Calls Tryf.prog 11 #[.nilIface] w fun e w' => e = .returned (.int .i64 0) ∧ w' = w := by
  go_enter Tryf.func11, Tryf.ntmps11
  go_wp2_with fail
  go_ret
  exact ⟨rfl, rfl⟩
end Go.Proofs.YtgaphplndpdhaaaFmt
