/- Contract: bits.Len64: how many bits a number has. No condition but that it is a number of 64 bits. -/
import Derived.Test.YtgaphplndpdhaaaProg
import Derived.Test.YtgaphplndpdhaaaSize
import Derived.Lib.Strings
import Derived.Lib.Slices
import Derived.Lib.Walk
import Derived.Lib.Hide
import Derived.WalkKit
namespace Go.Proofs.Ytgaphplndpdhaaa
open Go.RowKit
theorem tab_run (y : Int) (w : World) (h0 : 0 ≤ y) (h1 : y < 256) : (Instr.index 9 (.string Lib.len8tab) (.int .u8 y)).run Try.prog w = .ok (.int .u8 (Lib.bitLen y.toNat)) w := by
  rw [Lib.run_index_len8tab (h := Try.underlying9) (h0 := h0) (h1 := by omega), Lib.len8_of y h0 (by omega)]
theorem len_fin (x y : Int) (s : Nat) (hy : y.toNat = x.toNat / 2 ^ s) (h : 2 ^ s ≤ x.toNat) (hx : x.toNat < 18446744073709551616) : (s : Int) + (Lib.bitLen y.toNat : Int) = (Lib.bitLen x.toNat : Int) := by
  rw [Lib.bitLen_shift s x.toNat h (by omega), hy]; simp
set_option maxHeartbeats 4000000 in
set_option maxRecDepth 100000 in
theorem len64_any (x : Int) (w : World) (h0 : 0 ≤ x) (h1 : x ≤ 18446744073709551615) :
    Calls Try.prog 24 #[.int .u64 x] w fun e w' => e = .returned (.int .i64 (Lib.bitLen x.toNat)) ∧ w = w' := by
  by_cases a : 4294967296 ≤ x
  · by_cases b : 65536 ≤ x / 4294967296
    · by_cases c : 256 ≤ x / 4294967296 / 65536
      · have t := tab_run (x / 4294967296 / 65536 / 256) w (by omega) (by omega)
        have l := Lib.bitLen_le8' (x / 4294967296 / 65536 / 256) (by omega) (by omega)
        have H := Lib.hid (len_fin x (x / 4294967296 / 65536 / 256) 56 (by omega) (by omega) (by omega))
        generalize Lib.bitLen (x / 4294967296 / 65536 / 256).toNat = n at t l H
        have l0 : (0 : Int) ≤ (n : Int) := by omega
        have l1 : (n : Int) ≤ 8 := by omega
        clear l
        go_enter Try.func24, Try.ntmps24
        go_wp2
        go_ret
        exact ⟨congrArg Ending.returned (congrArg (Value.int IntKind.i64) (by have := H.out; omega)), rfl⟩
      · have t := tab_run (x / 4294967296 / 65536) w (by omega) (by omega)
        have l := Lib.bitLen_le8' (x / 4294967296 / 65536) (by omega) (by omega)
        have H := Lib.hid (len_fin x (x / 4294967296 / 65536) 48 (by omega) (by omega) (by omega))
        generalize Lib.bitLen (x / 4294967296 / 65536).toNat = n at t l H
        have l0 : (0 : Int) ≤ (n : Int) := by omega
        have l1 : (n : Int) ≤ 8 := by omega
        clear l
        go_enter Try.func24, Try.ntmps24
        go_wp2
        go_ret
        exact ⟨congrArg Ending.returned (congrArg (Value.int IntKind.i64) (by have := H.out; omega)), rfl⟩
    · by_cases c : 256 ≤ x / 4294967296
      · have t := tab_run (x / 4294967296 / 256) w (by omega) (by omega)
        have l := Lib.bitLen_le8' (x / 4294967296 / 256) (by omega) (by omega)
        have H := Lib.hid (len_fin x (x / 4294967296 / 256) 40 (by omega) (by omega) (by omega))
        generalize Lib.bitLen (x / 4294967296 / 256).toNat = n at t l H
        have l0 : (0 : Int) ≤ (n : Int) := by omega
        have l1 : (n : Int) ≤ 8 := by omega
        clear l
        go_enter Try.func24, Try.ntmps24
        go_wp2
        go_ret
        exact ⟨congrArg Ending.returned (congrArg (Value.int IntKind.i64) (by have := H.out; omega)), rfl⟩
      · have t := tab_run (x / 4294967296) w (by omega) (by omega)
        have l := Lib.bitLen_le8' (x / 4294967296) (by omega) (by omega)
        have H := Lib.hid (len_fin x (x / 4294967296) 32 (by omega) (by omega) (by omega))
        generalize Lib.bitLen (x / 4294967296).toNat = n at t l H
        have l0 : (0 : Int) ≤ (n : Int) := by omega
        have l1 : (n : Int) ≤ 8 := by omega
        clear l
        go_enter Try.func24, Try.ntmps24
        go_wp2
        go_ret
        exact ⟨congrArg Ending.returned (congrArg (Value.int IntKind.i64) (by have := H.out; omega)), rfl⟩
  · by_cases b : 65536 ≤ x
    · by_cases c : 256 ≤ x / 65536
      · have t := tab_run (x / 65536 / 256) w (by omega) (by omega)
        have l := Lib.bitLen_le8' (x / 65536 / 256) (by omega) (by omega)
        have H := Lib.hid (len_fin x (x / 65536 / 256) 24 (by omega) (by omega) (by omega))
        generalize Lib.bitLen (x / 65536 / 256).toNat = n at t l H
        have l0 : (0 : Int) ≤ (n : Int) := by omega
        have l1 : (n : Int) ≤ 8 := by omega
        clear l
        go_enter Try.func24, Try.ntmps24
        go_wp2
        go_ret
        exact ⟨congrArg Ending.returned (congrArg (Value.int IntKind.i64) (by have := H.out; omega)), rfl⟩
      · have t := tab_run (x / 65536) w (by omega) (by omega)
        have l := Lib.bitLen_le8' (x / 65536) (by omega) (by omega)
        have H := Lib.hid (len_fin x (x / 65536) 16 (by omega) (by omega) (by omega))
        generalize Lib.bitLen (x / 65536).toNat = n at t l H
        have l0 : (0 : Int) ≤ (n : Int) := by omega
        have l1 : (n : Int) ≤ 8 := by omega
        clear l
        go_enter Try.func24, Try.ntmps24
        go_wp2
        go_ret
        exact ⟨congrArg Ending.returned (congrArg (Value.int IntKind.i64) (by have := H.out; omega)), rfl⟩
    · by_cases c : 256 ≤ x
      · have t := tab_run (x / 256) w (by omega) (by omega)
        have l := Lib.bitLen_le8' (x / 256) (by omega) (by omega)
        have H := Lib.hid (len_fin x (x / 256) 8 (by omega) (by omega) (by omega))
        generalize Lib.bitLen (x / 256).toNat = n at t l H
        have l0 : (0 : Int) ≤ (n : Int) := by omega
        have l1 : (n : Int) ≤ 8 := by omega
        clear l
        go_enter Try.func24, Try.ntmps24
        go_wp2
        go_ret
        exact ⟨congrArg Ending.returned (congrArg (Value.int IntKind.i64) (by have := H.out; omega)), rfl⟩
      · have t := tab_run (x) w (by omega) (by omega)
        have l := Lib.bitLen_le8' (x) (by omega) (by omega)
        have H : Hid ((0 : Int) + (Lib.bitLen x.toNat : Int) = (Lib.bitLen x.toNat : Int)) := Lib.hid (by omega)
        generalize Lib.bitLen x.toNat = n at t l H ⊢
        have l0 : (0 : Int) ≤ (n : Int) := by omega
        have l1 : (n : Int) ≤ 8 := by omega
        clear l
        go_enter Try.func24, Try.ntmps24
        go_wp2
        go_ret
        exact ⟨congrArg Ending.returned (congrArg (Value.int IntKind.i64) (by have := H.out; omega)), rfl⟩
end Go.Proofs.Ytgaphplndpdhaaa
