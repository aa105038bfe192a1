/- Contract: sum.Sum.Word. Condition: thirty-two bytes. -/
import Derived.Test.YtnkcehmgagpadaaDoorGp23
namespace Go.Proofs.YtnkcehmgagpadaaDoor
open Go.RowKit
/-- A word of sixty-four bits as Go's integer. -/
def M (x : BitVec 64) : Int := (x.toNat : Int)
theorem M_nonneg (x : BitVec 64) : 0 ≤ M x := by unfold M; omega
theorem wrap_u64' (n : Int) : IntKind.u64.wrap n = n % 18446744073709551616 := by simp [IntKind.wrap, IntKind.bits, IntKind.signed]
theorem ofInt_M (x : BitVec 64) : BitVec.ofInt 64 (M x) = x := by unfold M; rw [BitVec.ofInt_natCast, BitVec.ofNat_toNat, BitVec.setWidth_eq]
theorem wrap_M (x : BitVec 64) : IntKind.u64.wrap (x.toNat : Int) = M x := by rw [wrap_u64']; unfold M; have := x.isLt; omega
theorem M_or (x y : BitVec 64) : bits .or .u64 (M x) (M y) = M (x ||| y) := by
  show IntKind.u64.wrap ((BitVec.ofInt 64 (M x) ||| BitVec.ofInt 64 (M y)).toNat : Int) = _
  rw [ofInt_M, ofInt_M, wrap_M]
theorem M_shl (x : BitVec 64) (k : Nat) : IntKind.u64.wrap (M x * 2 ^ k) = M (x <<< k) := by
  rw [wrap_u64']; unfold M; rw [BitVec.toNat_shiftLeft, Nat.shiftLeft_eq]; simp
theorem M_shl8 (x : BitVec 64) : IntKind.u64.wrap (M x * 256) = M (x <<< 8) := M_shl x 8
def w64 (x : BitVec 8) : BitVec 64 := x.setWidth 64
theorem M_of_B (x : BitVec 8) : IntKind.u64.wrap (B x) = M (w64 x) := by
  rw [wrap_u64']; unfold B M w64; rw [BitVec.toNat_setWidth]; have := x.isLt; omega
/-- Eight bytes as a number, the highest ones first taken in. -/
def wordTo (l : List (BitVec 8)) (i : Nat) : Nat → BitVec 64
  | 0 => 0
  | n + 1 => (wordTo l i n <<< 8) ||| w64 (at8 l (8 * i + (7 - n)))
def wordOf (l : List (BitVec 8)) (i : Int) : BitVec 64 := if 0 ≤ i ∧ i < 4 then wordTo l i.toNat 8 else 0

section
attribute [local go_sem] M_or M_shl8 M_of_B
set_option maxHeartbeats 1000000 in
theorem word_any (x : List (BitVec 8)) (hx : x.length = 32) (i : Int) (w : World) :
    Calls Tryd.prog 75 #[.agg (x.map u8v).toArray, .int .i64 i] w fun e w' => e = .returned (.int .u64 (M (wordOf x i))) ∧ Below w.heap.size w w' := by
  obtain ⟨cx, hcx⟩ : ∃ cx, cx = x.map u8v := ⟨_, rfl⟩
  rw [← hcx]
  have Hcx := Lib.hid hcx
  have Hx := Lib.hid hx
  clear hcx hx
  have hm0 : (0 : Int) = M 0 := rfl
  by_cases h1 : i < 0
  · have hw : wordOf x i = 0 := if_neg (by omega)
    rw [hw]
    have HM := Lib.hid hm0
    clear hm0 hw
    go_enter Tryd.func75, Tryd.ntmps75
    go_wp2_with fail
    go_ret
    exact ⟨congrArg (fun n => Ending.returned (.int .u64 n)) HM.out, (Below.refl _ _).alloc (Nat.le_refl _) _⟩
  by_cases h2 : 4 ≤ i
  · have hw : wordOf x i = 0 := if_neg (by omega)
    rw [hw]
    have HM := Lib.hid hm0
    clear hm0 hw
    go_enter Tryd.func75, Tryd.ntmps75
    go_wp2_with fail
    go_ret
    exact ⟨congrArg (fun n => Ending.returned (.int .u64 n)) HM.out, (Below.refl _ _).alloc (Nat.le_refl _) _⟩
  obtain ⟨k, rfl⟩ := Int.eq_ofNat_of_zero_le (show 0 ≤ i by omega)
  have hk4 : k < 4 := by omega
  have hw : wordOf x (k : Int) = wordTo x k 8 := by unfold wordOf; rw [if_pos (by omega)]; simp
  rw [hw]
  have HM := Lib.hid hm0
  clear hm0 hw
  go_enter Tryd.func75, Tryd.ntmps75
  go_wp2_with fail
  generalize hw0 : w.alloc _ = w0
  have hH : Has w0 w.heap.size 42 (x.map u8v) := by subst hw0; rw [← Hcx.out]; exact Has.made' _ _ _ _ rfl
  have hB : Below w.heap.size w w0 := by subst hw0; exact (Below.refl _ _).alloc (Nat.le_refl _) _
  clear hw0
  go_loop [5, 6] (fun v j => ∃ n : Nat, n ≤ 8 ∧ j = .int .i64 (7 - (n : Int)) ∧ v = .int .u64 (M (wordTo x k n))) (fun _ j => (intOf j + 1).toNat)
  case atStart => exact ⟨0, by omega, rfl, congrArg (Value.int .u64) HM.out⟩
  case round =>
    obtain ⟨n, hn, rfl, rfl⟩ := hrel
    by_cases hlt : n < 8
    · have k1 : (0 : Int) ≤ 7 - (n : Int) := by omega
      have hc := hH.cellv (at8_of x (8 * k + (7 - n)) (by rw [Hx.out]; omega))
      have k2 : 8 * (k : Int) + (7 - (n : Int)) < 32 := by omega
      go_wp2
      go_round
      case rel => exact ⟨n + 1, by omega, by go_num, rfl⟩
      case measure => simp [intOf]; omega
    · have : n = 8 := by omega
      subst this
      have k1 : ¬ (0 : Int) ≤ 7 - ((8 : Nat) : Int) := by omega
      go_wp2
      go_ret
      exact ⟨rfl, hB⟩
end
end Go.Proofs.YtnkcehmgagpadaaDoor
