/- Contracts: the document's own Xor, Word, Cmp (package tallymanref1). Condition: thirty-two bytes each. -/
import Derived.Test.YtgaphplndpdhaaaDoorWord
namespace Go.Proofs.YtgaphplndpdhaaaDoor
open Go.RowKit
theorem rsum_info : (Tryd.prog.info? 27).map (·.size) = some 32 := by kernel_rfl
section
attribute [local go_sem] B_xor
set_option maxHeartbeats 1000000 in
theorem rxor_any (x y : List (BitVec 8)) (hx : x.length = 32) (hy : y.length = 32) (w : World) :
    Calls Tryd.prog 14 #[.agg (x.map u8v).toArray, .agg (y.map u8v).toArray] w fun e w' => e = .returned (.agg ((xorL x y).map u8v).toArray) ∧ Below w.heap.size w w' := by
  obtain ⟨cx, hcx⟩ : ∃ cx, cx = x.map u8v := ⟨_, rfl⟩
  obtain ⟨cy, hcy⟩ : ∃ cy, cy = y.map u8v := ⟨_, rfl⟩
  rw [← hcx, ← hcy]
  have Hcx := Lib.hid hcx
  have Hcy := Lib.hid hcy
  have Hx := Lib.hid hx
  have Hy := Lib.hid hy
  clear hcx hcy hx hy
  go_enter Tryd.func14, Tryd.ntmps14
  go_wp2_with fail
  generalize hw0 : ((w.alloc _).alloc _).alloc _ = w0
  have h2 : Has w0 w.heap.size 27 ((xorTo x y 0).map u8v) := by
    subst hw0; rw [xorTo_zero, ← Hcx.out]; exact ((Has.made' _ _ _ _ rfl).alloc _).alloc _
  have h3 : Has w0 (w.heap.size + 1) 27 (y.map u8v) := by
    subst hw0; rw [← Hcy.out]; exact (Has.made1 _ _ _ _ _ rfl).alloc _
  have h4 : Has w0 (w.heap.size + 2) 27 (brow 32 []) := by
    subst hw0; rw [brow_nil]
    have := Has.made' ((w.alloc (.cells cx.toArray 27)).alloc (.cells cy.toArray 27)) 27 _ (List.replicate 32 (.int .u8 0)) rfl
    simpa using this
  have hB : Below w.heap.size w w0 := by
    subst hw0; exact (((Below.refl _ _).alloc (Nat.le_refl _) _).alloc (by simp) _).alloc (by simp; omega) _
  clear hw0
  go_loopw [5] (fun i wr => ∃ k : Nat, k ≤ 32 ∧ i = .int .i64 k ∧ Has wr w.heap.size 27 ((xorTo x y k).map u8v) ∧ Has wr (w.heap.size + 1) 27 (y.map u8v) ∧ Has wr (w.heap.size + 2) 27 (brow 32 []) ∧ Below w.heap.size w wr)
    (fun i _ => 32 - (intOf i).toNat)
  case atStart => exact ⟨0, by omega, rfl, h2, h3, h4, hB⟩
  case round =>
    clear h2 h3 h4 hB
    rename_i wr
    obtain ⟨k, hk, rfl, h2, h3, h4, hB⟩ := hrel
    by_cases hlt : k < 32
    · have hxy : x.length = y.length := Hx.out.trans Hy.out.symm
      have cs := h2.cellv (at8_of _ k (by rw [xorTo_length _ _ _ hxy, Hx.out]; exact hlt))
      rw [xorTo_at _ _ _ hxy (by rw [Hx.out]; exact hlt)] at cs
      have co := h3.cellv (at8_of _ k (by rw [Hy.out]; exact hlt))
      have fs := h2.free k
      have hput := xorTo_put x y k hxy (by rw [Hx.out]; exact hlt)
      have Hput := Lib.hid hput
      have k1 : (k : Int) < 32 := by omega
      clear hxy hput
      go_wp2_with fail
      go_still_tail 9, (by kernel_rfl)
      go_wp2_with fail
      go_roundw
      case rel =>
        refine ⟨k + 1, by omega, by go_num, ?_, (h3.off (by simp) _).drew, (h4.off (by simp) _).drew, (hB.setCell (by simp) _).drew⟩
        have := (h2.put k (u8v (at8 x k ^^^ at8 y k))).drew
        rw [← List.map_set, Hput.out] at this
        exact this
      case measure => simp [intOf]; omega
    · have : k = 32 := by omega
      subst this
      rw [xorTo_full x y Hx.out Hy.out] at h2
      have hlen : ((xorL x y).map u8v).length = 32 := by rw [List.length_map, xorL_length _ _ Hx.out Hy.out]
      have HSZ : Hid ((Tryd.prog.info? 27).map (·.size) = some ((xorL x y).map u8v).toArray.size) := Lib.hid (by rw [rsum_info]; simp [← hlen])
      have HSB : Hid ((brow 32 []).toArray.size = ((xorL x y).map u8v).toArray.size) := Lib.hid (by simp [brow, xorL_length _ _ Hx.out Hy.out])
      clear hlen
      go_wp2_with (first
        | (refine wpList_load_row rfl 27 _ rfl w.heap.size rfl 27 _ (0, 0) _ h2 Tryd.underlying27 rfl HSZ.out ?_)
        | (refine wpList_store_row rfl 27 _ _ rfl (w.heap.size + 2) _ rfl rfl 27 _ h4 HSZ.out HSB.out (u8v_one _) ?_))
      refine bodyPost_ret (v := .agg ((xorL x y).map u8v).toArray) ?_ rfl ⟨rfl, below_row hB (by omega) _⟩
      refine results_cell_row rfl _ _ (w.heap.size + 2) 27 _ (0, 0) _ rfl ?_ Tryd.underlying27 rfl HSZ.out
      exact h4.rowl _
end
section
attribute [local go_sem] M_or M_shl8 M_of_B
set_option maxHeartbeats 1000000 in
theorem rword_any (x : List (BitVec 8)) (hx : x.length = 32) (i : Int) (w : World) :
    Calls Tryd.prog 16 #[.agg (x.map u8v).toArray, .int .i64 i] w fun e w' => e = .returned (.int .u64 (M (wordOf x i))) ∧ Below w.heap.size w w' := by
  obtain ⟨cx, hcx⟩ : ∃ cx, cx = x.map u8v := ⟨_, rfl⟩
  rw [← hcx]
  have Hcx := Lib.hid hcx
  have Hx := Lib.hid hx
  clear hcx hx
  have hm0 : (0 : Int) = M 0 := rfl
  by_cases h1 : i < 0
  · have hw : wordOf x i = 0 := if_neg (by omega)
    rw [hw]
    have HM := Lib.hid hm0
    clear hm0 hw
    go_enter Tryd.func16, Tryd.ntmps16
    go_wp2_with fail
    go_loop [5, 6] (fun v j => v = .int .u64 0 ∧ j = .int .i64 7) (fun _ _ => 0)
    case atStart => exact ⟨rfl, rfl⟩
    case round =>
      obtain ⟨rfl, rfl⟩ := hrel
      go_wp2
      go_ret
      exact ⟨congrArg (fun n => Ending.returned (.int .u64 n)) HM.out, (Below.refl _ _).alloc (Nat.le_refl _) _⟩
  by_cases h2 : 4 ≤ i
  · have hw : wordOf x i = 0 := if_neg (by omega)
    rw [hw]
    have HM := Lib.hid hm0
    clear hm0 hw
    go_enter Tryd.func16, Tryd.ntmps16
    go_wp2_with fail
    go_loop [5, 6] (fun v j => v = .int .u64 0 ∧ j = .int .i64 7) (fun _ _ => 0)
    case atStart => exact ⟨rfl, rfl⟩
    case round =>
      obtain ⟨rfl, rfl⟩ := hrel
      go_wp2
      go_ret
      exact ⟨congrArg (fun n => Ending.returned (.int .u64 n)) HM.out, (Below.refl _ _).alloc (Nat.le_refl _) _⟩
  obtain ⟨k, rfl⟩ := Int.eq_ofNat_of_zero_le (show 0 ≤ i by omega)
  have hk4 : k < 4 := by omega
  have hw : wordOf x (k : Int) = wordTo x k 8 := by unfold wordOf; rw [if_pos (by omega)]; simp
  rw [hw]
  have HM := Lib.hid hm0
  clear hm0 hw
  go_enter Tryd.func16, Tryd.ntmps16
  go_wp2_with fail
  generalize hw0 : w.alloc _ = w0
  have hH : Has w0 w.heap.size 27 (x.map u8v) := by subst hw0; rw [← Hcx.out]; exact Has.made' _ _ _ _ rfl
  have hB : Below w.heap.size w w0 := by subst hw0; exact (Below.refl _ _).alloc (Nat.le_refl _) _
  clear hw0
  go_loop [5, 6] (fun v j => ∃ n : Nat, n ≤ 8 ∧ j = .int .i64 (7 - (n : Int)) ∧ v = .int .u64 (M (wordTo x k n))) (fun _ j => (intOf j + 1).toNat)
  case atStart => exact ⟨0, by omega, rfl, congrArg (Value.int .u64) HM.out⟩
  case round =>
    obtain ⟨n, hn, rfl, rfl⟩ := hrel
    by_cases hlt : n < 8
    · have k1 : (0 : Int) ≤ 7 - (n : Int) := by omega
      have hc := hH.cellv (at8_of x (8 * k + (7 - n)) (by rw [Hx.out]; omega))
      have k2 : 8 * (k : Int) + (7 - (n : Int)) < 32 := by omega
      go_wp2
      go_round
      case rel => exact ⟨n + 1, by omega, by go_num, rfl⟩
      case measure => simp [intOf]; omega
    · have : n = 8 := by omega
      subst this
      have k1 : ¬ (0 : Int) ≤ 7 - ((8 : Nat) : Int) := by omega
      go_wp2
      go_ret
      exact ⟨rfl, hB⟩
end
end Go.Proofs.YtgaphplndpdhaaaDoor
