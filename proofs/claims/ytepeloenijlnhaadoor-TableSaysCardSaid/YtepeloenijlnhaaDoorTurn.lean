/- Contracts: math/bits.RotateLeft32 at the counts that the code uses, sum.turn. -/
import Derived.Test.YtepeloenijlnhaaDoorProg
import Derived.Test.YtepeloenijlnhaaDoorBv
import Derived.WalkSpells
import Derived.Lib.Hide
namespace Go.Proofs.YtepeloenijlnhaaDoor
open Go.RowKit

theorem neg_of (k : Nat) (hk : k ∈ [2, 6, 7, 11, 13, 17, 18, 19, 22, 25]) : bits .and .u64 (IntKind.u64.wrap (-(k : Int))) 31 = ((32 - k : Nat) : Int) := by
  simp only [List.mem_cons, List.mem_nil_iff, or_false] at hk
  rcases hk with rfl | rfl | rfl | rfl | rfl | rfl | rfl | rfl | rfl | rfl <;> decide +kernel

section
attribute [local go_sem] N_and N_or N_xor N_add
theorem rot_run (x : BitVec 32) (j k : Nat) (m : Int) (hm : bits .and .u64 (IntKind.u64.wrap m) 31 = (j : Int)) (hj : j + k = 32) (hk : 0 < k) (w : World) :
    Calls Tryd.prog 97 #[.int .u32 (N x), .int .i64 m] w fun e w' => e = .returned (.int .u32 (N (rotr x k))) ∧ w = w' := by
  have hx := N_nonneg x
  have e1 : (min j 32) = 32 - k := by omega
  have e2 : (IntKind.u64.wrap (32 - (j : Int))) = (k : Int) := by rw [show (32 - (j : Int)) = (k : Int) from by omega]; exact IntWalk.u64_in _ (by omega)
  have e3 : (min k 32) = k := by omega
  have e4 := rotr_of x k _ _ rfl rfl
  rw [IntKind.wrap_u32'] at e4
  have e5 : (0 : Int) ≤ (j : Int) := by omega
  have e6 : (0 : Int) ≤ (k : Int) := by omega
  have hb : IntKind.u32.bits = 32 := rfl
  clear hj hk
  go_enter Tryd.func97, Tryd.ntmps97
  go_wp2
  go_ret
  exact ⟨rfl, rfl⟩
end

theorem rot_any (x : BitVec 32) (k : Nat) (hk : k ∈ [2, 6, 7, 11, 13, 17, 18, 19, 22, 25]) (m : Int) (hm : m = -(k : Int)) (w : World) :
    Calls Tryd.prog 97 #[.int .u32 (N x), .int .i64 m] w fun e w' => e = .returned (.int .u32 (N (rotr x k))) ∧ w = w' := by
  subst hm
  refine rot_run x (32 - k) k _ (neg_of k hk) ?_ ?_ w
  · simp only [List.mem_cons, List.mem_nil_iff, or_false] at hk; omega
  · simp only [List.mem_cons, List.mem_nil_iff, or_false] at hk; omega

section
attribute [local go_sem] N_and N_or N_xor N_add
/-- sum.turn: three turns put together. -/
theorem turn_any (x : BitVec 32) (i j k : Nat) (hi : i ∈ [2, 6, 7, 11, 13, 17, 18, 19, 22, 25]) (hj : j ∈ [2, 6, 7, 11, 13, 17, 18, 19, 22, 25]) (hk : k ∈ [2, 6, 7, 11, 13, 17, 18, 19, 22, 25])
    (i' j' k' : Int) (hi' : i' = i) (hj' : j' = j) (hk' : k' = k) (w : World) :
    Calls Tryd.prog 91 #[.int .u32 (N x), .int .i64 i', .int .i64 j', .int .i64 k'] w fun e w' => e = .returned (.int .u32 (N (rotr x i ^^^ rotr x j ^^^ rotr x k))) ∧ w = w' := by
  have mi : IntKind.i64.wrap (-i') = -(i : Int) := by
    subst hi'; simp only [List.mem_cons, List.mem_nil_iff, or_false] at hi; exact IntWalk.i64_in _ (by omega)
  have mj : IntKind.i64.wrap (-j') = -(j : Int) := by
    subst hj'; simp only [List.mem_cons, List.mem_nil_iff, or_false] at hj; exact IntWalk.i64_in _ (by omega)
  have mk : IntKind.i64.wrap (-k') = -(k : Int) := by
    subst hk'; simp only [List.mem_cons, List.mem_nil_iff, or_false] at hk; exact IntWalk.i64_in _ (by omega)
  clear hi' hj' hk'
  have Hi := Lib.hid hi
  have Hj := Lib.hid hj
  have Hk := Lib.hid hk
  clear hi hj hk
  go_enter Tryd.func91, Tryd.ntmps91
  go_wp2_with fail
  refine (rot_any x i Hi.out _ rfl _).mono ?_
  rintro e w' ⟨rfl, rfl⟩
  go_wp2_with fail
  refine (rot_any x j Hj.out _ rfl _).mono ?_
  rintro e w' ⟨rfl, rfl⟩
  go_wp2_with fail
  refine (rot_any x k Hk.out _ rfl _).mono ?_
  rintro e w' ⟨rfl, rfl⟩
  go_wp2_with fail
  go_ret
  exact ⟨rfl, rfl⟩
end
theorem turn_q (x : BitVec 32) (i j k : Nat) (hi : i ∈ [2, 6, 7, 11, 13, 17, 18, 19, 22, 25]) (hj : j ∈ [2, 6, 7, 11, 13, 17, 18, 19, 22, 25]) (hk : k ∈ [2, 6, 7, 11, 13, 17, 18, 19, 22, 25])
    (i' j' k' : Int) (hi' : i' = i) (hj' : j' = j) (hk' : k' = k) (w : World) :
    Calls Tryd.prog 91 #[.int .u32 (N x), .int .i64 i', .int .i64 j', .int .i64 k'] w fun e w' => e = .returned (.int .u32 (N (rotr x i ^^^ rotr x j ^^^ rotr x k))) ∧ w' = w :=
  (turn_any x i j k hi hj hk i' j' k' hi' hj' hk' w).mono fun _ _ ⟨h1, h2⟩ => ⟨h1, h2.symm⟩
end Go.Proofs.YtepeloenijlnhaaDoor
