/- Contracts: cause.known, cause.In, (*Cause).Unwrap. Conditions: the stages as laid; a stage of the six. -/
import Derived.Test.YtgaphplndpdhaaaFmtBase
import Derived.Test.YtgaphplndpdhaaaFmtMem
import Derived.LaidEql
import Derived.LaidEqlPtr
import Derived.Stop.Asserts
import Derived.RowKitTokens
namespace Go.Proofs.YtgaphplndpdhaaaFmt
open Go.RowKit Go.Extern.Stop Go.Stop Go.Extern
theorem stg_eql : ∀ j : Fin 6, ∀ k : Fin 6, ((stg j).toList == (stg k).toList) = decide (j = k) := by decide +kernel
theorem stg_other (j k : Nat) (hj : j < 6) (hk : k < 6) (h : j ≠ k) : ((stg j).toList == (stg k).toList) = false := by
  have := stg_eql ⟨j, hj⟩ ⟨k, hk⟩
  rw [this]; simpa using h
set_option maxHeartbeats 1000000 in
theorem known_any (k : Nat) (hk : k < 6) (w : World) (a : Addr) (cap : Nat) (hL : Laid w a cap) :
    Calls Tryf.prog 15 #[.string (stg k)] w fun e w' => e = .returned (.string (stg k)) ∧ w = w' := by
  have HO := Lib.hid (stg_other · k)
  have hr := Lib.hid hL.row
  have h0 := hL.at0
  obtain ⟨s, hsk⟩ : ∃ s, s = stg k := ⟨_, rfl⟩
  have Hs := Lib.hid hsk
  rw [← hsk]
  clear hsk hL
  go_enter Tryf.func15, Tryf.ntmps15
  go_wp2_with fail
  go_loop [7] (fun i => ∃ j : Nat, j ≤ k ∧ i = .int .i64 j) (fun i => (6 - intOf i).toNat)
  case atStart => exact ⟨0, by omega, rfl⟩
  case round =>
    obtain ⟨j, hj, rfl⟩ := hrel
    have hc := hr.out j (by omega)
    have hj6 : (j : Int) < 6 := by omega
    by_cases he : j = k
    · subst he
      rw [← Hs.out] at hc
      have h1 : (s.toList == s.toList) = true := by simp
      go_wp2_with fail
      go_ret
      exact ⟨rfl, rfl⟩
    · have h1 : ((stg j).toList == s.toList) = false := by rw [Hs.out]; exact HO.out j (by omega) hk he
      generalize stg j = t at *
      go_wp2_with fail
      go_round
      case rel => exact ⟨j + 1, by omega, by go_num⟩
      case measure => simp [intOf]; omega
theorem in_any (k : Nat) (hk : k < 6) (n : Int) (T : TypeId) (v : Value) (w : World) (a : Addr) (cap : Nat) (hL : Laid w a cap) :
    Calls Tryf.prog 5 #[.string (stg k), .int .i64 n, .iface T v] w fun e w' => e = .returned (.iface 31 (.pointer (some ⟨w.heap.size, 0, none⟩))) ∧ w' = w.alloc (.cells #[.string (stg k), .int .i64 n, .iface T v] 33) := by
  have hk := Lib.hid (known_any k hk w a cap hL)
  clear hL
  generalize stg k = s at *
  go_enter Tryf.func5, Tryf.ntmps5
  go_wp2_with (go_at_call 15; with_reducible refine hk.out.mono ?_; rintro e w' ⟨rfl, rfl⟩)
  go_ret
  exact ⟨rfl, rfl⟩
/-- A Cause that is known whole. -/
def IsC (w : World) (g : Nat) (s : ByteArray) (n : Int) (e : Value) : Prop := Has w g 33 [.string s, .int .i64 n, e]
def ofC (g : Nat) : Value := .iface 31 (.pointer (some ⟨g, 0, none⟩))
theorem unwrap_any (g : Nat) (s : ByteArray) (n : Int) (e : Value) (w : World) (h : IsC w g s n e) :
    Calls Tryf.prog 13 #[.pointer (some ⟨g, 0, none⟩)] w fun v w' => v = .returned e ∧ w' = w := by
  have hc := h.cellv (i := 2) (v := e) rfl
  go_enter Tryf.func13, Tryf.ntmps13
  go_wp2_with fail
  go_ret
  exact ⟨rfl, rfl⟩
theorem hasUnwrapC (v : Value) (xT : TypeId) (w : World) : (Instr.typeAssert (.iface 31 v) xT 66 true).run Tryf.prog w = .ok (.tuple #[.iface 31 v, .bool true]) w := run_typeAssert_hasB Tryf.underlying66 (by kernel_rfl) v xT w
end Go.Proofs.YtgaphplndpdhaaaFmt
