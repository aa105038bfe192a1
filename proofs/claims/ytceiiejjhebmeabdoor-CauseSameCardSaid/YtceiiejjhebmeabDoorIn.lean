/- Contracts: cause.known, cause.In, (*Cause).Unwrap, errors.Unwrap of a *Cause. Conditions: the stages as laid; a stage of the six. -/
import Derived.Test.YtceiiejjhebmeabDoorBase
import Derived.Test.YtceiiejjhebmeabDoorMem
import Derived.LaidEql
import Derived.LaidEqlPtr
import Derived.Stop.Asserts
import Derived.RowKitTokens
namespace Go.Proofs.YtceiiejjhebmeabDoor
open Go.RowKit Go.Extern.Stop Go.Stop Go.Extern
theorem stg_eql : ∀ j : Fin 6, ∀ k : Fin 6, ((stg j).toList == (stg k).toList) = decide (j = k) := by decide +kernel
theorem stg_other (j k : Nat) (hj : j < 6) (hk : k < 6) (h : j ≠ k) : ((stg j).toList == (stg k).toList) = false := by
  have := stg_eql ⟨j, hj⟩ ⟨k, hk⟩
  rw [this]; simpa using h
set_option maxHeartbeats 1000000 in
theorem known_any (k : Nat) (hk : k < 6) (w : World) (a : Addr) (cap : Nat) (hL : Laid w a cap) :
    Calls Tryd.prog 14 #[.string (stg k)] w fun e w' => e = .returned (.string (stg k)) ∧ w = w' := by
  have HO := Lib.hid (stg_other · k)
  have hr := Lib.hid hL.row
  have h0 := hL.at0
  obtain ⟨s, hsk⟩ : ∃ s, s = stg k := ⟨_, rfl⟩
  have Hs := Lib.hid hsk
  rw [← hsk]
  clear hsk hL
  go_enter Tryd.func14, Tryd.ntmps14
  go_wp2_with fail
  go_loop [7] (fun i => ∃ j : Nat, j ≤ k ∧ i = .int .i64 j) (fun i => (6 - intOf i).toNat)
  case atStart => exact ⟨0, by omega, rfl⟩
  case round =>
    obtain ⟨j, hj, rfl⟩ := hrel
    have hc := hr.out j (by omega)
    have hj6 : (j : Int) < 6 := by omega
    by_cases he : j = k
    · subst he
      rw [← Hs.out] at hc
      have h1 : (s.toList == s.toList) = true := by simp
      go_wp2_with fail
      go_ret
      exact ⟨rfl, rfl⟩
    · have h1 : ((stg j).toList == s.toList) = false := by rw [Hs.out]; exact HO.out j (by omega) hk he
      generalize stg j = t at *
      go_wp2_with fail
      go_round
      case rel => exact ⟨j + 1, by omega, by go_num⟩
      case measure => simp [intOf]; omega
theorem in_any (k : Nat) (hk : k < 6) (n : Int) (T : TypeId) (v : Value) (w : World) (a : Addr) (cap : Nat) (hL : Laid w a cap) :
    Calls Tryd.prog 6 #[.string (stg k), .int .i64 n, .iface T v] w fun e w' => e = .returned (.iface 29 (.pointer (some ⟨w.heap.size, 0, none⟩))) ∧ w' = w.alloc (.cells #[.string (stg k), .int .i64 n, .iface T v] 31) := by
  have hk := Lib.hid (known_any k hk w a cap hL)
  clear hL
  generalize stg k = s at *
  go_enter Tryd.func6, Tryd.ntmps6
  go_wp2_with (go_at_call 14; with_reducible refine hk.out.mono ?_; rintro e w' ⟨rfl, rfl⟩)
  go_ret
  exact ⟨rfl, rfl⟩
/-- A Cause that is known whole. -/
def IsC (w : World) (g : Nat) (s : ByteArray) (n : Int) (e : Value) : Prop := Has w g 31 [.string s, .int .i64 n, e]
def ofC (g : Nat) : Value := .iface 29 (.pointer (some ⟨g, 0, none⟩))
theorem unwrap_any (g : Nat) (s : ByteArray) (n : Int) (e : Value) (w : World) (h : IsC w g s n e) :
    Calls Tryd.prog 62 #[.pointer (some ⟨g, 0, none⟩)] w fun v w' => v = .returned e ∧ w' = w := by
  have hc := h.cellv (i := 2) (v := e) rfl
  go_enter Tryd.func62, Tryd.ntmps62
  go_wp2_with fail
  go_ret
  exact ⟨rfl, rfl⟩
theorem hasUnwrapC (v : Value) (xT : TypeId) (w : World) : (Instr.typeAssert (.iface 29 v) xT 53 true).run Tryd.prog w = .ok (.tuple #[.iface 29 v, .bool true]) w := run_typeAssert_hasB Tryd.underlying53 (by kernel_rfl) v xT w
theorem eunwrap_any (g : Nat) (s : ByteArray) (n : Int) (e : Value) (w : World) (h : IsC w g s n e) :
    Calls Tryd.prog 10 #[ofC g] w fun v w' => v = .returned e ∧ w' = w := by
  have h1 := hasUnwrapC
  have m1 : ∀ (v : Value) (w : World), (Go.method 231 29 v "Unwrap").run Tryd.prog w = .ok (62, v) w := fun v w => by kernel_rfl
  unfold ofC
  go_enter Tryd.func10, Tryd.ntmps10
  go_wp2_with (first | (go_at_call 62; with_reducible refine (unwrap_any g s n e _ h).mono ?_; rintro e w' ⟨rfl, rfl⟩))
  go_ret
  exact ⟨rfl, rfl⟩
end Go.Proofs.YtceiiejjhebmeabDoor
