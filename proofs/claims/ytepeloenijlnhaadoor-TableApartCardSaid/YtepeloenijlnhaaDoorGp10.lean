/- Contract: the document's own Cmp. Condition: thirty-two bytes each. -/
import Derived.Test.YtepeloenijlnhaaDoorGp14
import Derived.Test.YtepeloenijlnhaaDoorUr
import Derived.Test.YtepeloenijlnhaaDoorUe
namespace Go.Proofs.YtepeloenijlnhaaDoor
open Go.RowKit
set_option maxHeartbeats 1000000 in
theorem rcmp_any (x y : List (BitVec 8)) (hx : x.length = 32) (hy : y.length = 32) (w : World) :
    Calls Tryd.prog 56 #[.agg (x.map u8v).toArray, .agg (y.map u8v).toArray] w fun e w' => e = .returned (.int .i64 (cmpL x y)) ∧ Below w.heap.size w w' := by
  obtain ⟨cx, hcx⟩ : ∃ cx, cx = x.map u8v := ⟨_, rfl⟩
  obtain ⟨cy, hcy⟩ : ∃ cy, cy = y.map u8v := ⟨_, rfl⟩
  rw [← hcx, ← hcy]
  have Hcx := Lib.hid hcx
  have Hcy := Lib.hid hcy
  have Hx := Lib.hid hx
  have Hy := Lib.hid hy
  clear hcx hcy hx hy
  go_enter Tryd.func56, Tryd.ntmps56
  go_wp2_with fail
  generalize hw0 : (w.alloc _).alloc _ = w0
  have h2 : Has w0 w.heap.size 52 (x.map u8v) := by
    subst hw0; rw [← Hcx.out]; exact (Has.made' _ _ _ _ rfl).alloc _
  have h3 : Has w0 (w.heap.size + 1) 52 (y.map u8v) := by
    subst hw0; rw [← Hcy.out]; exact Has.made1 _ _ _ _ _ rfl
  have hB : Below w.heap.size w w0 := by
    subst hw0; exact ((Below.refl _ _).alloc (Nat.le_refl _) _).alloc (by simp) _
  clear hw0
  go_loopw [5] (fun i wr => ∃ k : Nat, k ≤ 32 ∧ i = .int .i64 k ∧ x.take k = y.take k ∧ Has wr w.heap.size 52 (x.map u8v) ∧ Has wr (w.heap.size + 1) 52 (y.map u8v) ∧ Below w.heap.size w wr)
    (fun i _ => 32 - (intOf i).toNat)
  case atStart => exact ⟨0, by omega, rfl, rfl, h2, h3, hB⟩
  case round =>
    clear h2 h3 hB
    rename_i wr
    obtain ⟨k, hk, rfl, htk, h2, h3, hB⟩ := hrel
    by_cases hlt : k < 32
    · have cs := h2.cellv (at8_of x k (by rw [Hx.out]; exact hlt))
      have co := h3.cellv (at8_of y k (by rw [Hy.out]; exact hlt))
      have hsp := split_at x y k (by rw [Hx.out]; exact hlt) (by rw [Hy.out]; exact hlt) htk
      have htn := fun he => take_next x y k (by rw [Hx.out]; exact hlt) (by rw [Hy.out]; exact hlt) htk he
      have k1 : (k : Int) < 32 := by omega
      have Hsp := Lib.hid hsp
      have Htn := Lib.hid htn
      clear hsp htn htk
      generalize at8 x k = p at *
      generalize at8 y k = q at *
      by_cases hpq : B p < B q
      · have hr : cmpL x y = -1 := by rw [Hsp.out, cmpL, if_pos hpq]
        have Hr := Lib.hid hr
        clear hr
        go_wp2_with fail
        go_quiet (fail)
        go_wp2_with fail
        go_ret
        exact ⟨congrArg (fun n => Ending.returned (.int .i64 n)) Hr.out.symm, below_drewN hB _⟩
      · by_cases hqp : B q < B p
        · have hr : cmpL x y = 1 := by rw [Hsp.out, cmpL, if_neg hpq, if_pos hqp]
          have Hr := Lib.hid hr
          clear hr
          go_wp2_with fail
          go_quiet (fail)
          go_wp2_with fail
          go_quiet (fail)
          go_wp2_with fail
          go_ret
          exact ⟨congrArg (fun n => Ending.returned (.int .i64 n)) Hr.out.symm, below_drewN (below_drewN hB _) _⟩
        · have he : p = q := B_inj (by omega)
          have Ht := Lib.hid (Htn.out he)
          go_wp2_with fail
          go_quiet (fail)
          go_wp2_with fail
          go_quiet (fail)
          go_wp2_with fail
          go_roundw
          case rel => exact ⟨k + 1, by omega, by go_num, Ht.out, h2.drewN _, h3.drewN _, below_drewN hB _⟩
          case measure => simp [intOf]; omega
    · have : k = 32 := by omega
      subst this
      have hxy : x = y := by
        rw [List.take_of_length_le (by rw [Hx.out]; exact Nat.le_refl _), List.take_of_length_le (by rw [Hy.out]; exact Nat.le_refl _)] at htk
        exact htk
      have Hr := Lib.hid (show cmpL x y = 0 by rw [hxy, cmpL_self])
      clear hxy htk
      go_wp2_with fail
      go_ret
      exact ⟨congrArg (fun n => Ending.returned (.int .i64 n)) Hr.out.symm, hB⟩

end Go.Proofs.YtepeloenijlnhaaDoor
/- Contracts: the law's own sets as the document's (the law's 'own'), the document's own Good, Same, Has. Condition: at most 10^5 sums. -/
namespace Go.Proofs.YtepeloenijlnhaaDoor
open Go.RowKit
theorem elRef : ElT 49 52 := ⟨Tryd.underlying49, Tryd.underlying52, by kernel_rfl⟩
theorem elRefs : ElT 48 52 := ⟨Tryd.underlying48, Tryd.underlying52, by kernel_rfl⟩
theorem szRef : (Tryd.prog.info? 52).map (·.size) = some 32 := by kernel_rfl
theorem gdRef : Tryd.prog.eqGuardType Tryd.prog.depth 52 = false := by kernel_rfl
theorem rcmpS_any (x y : Su) (w : World) : Calls Tryd.prog 56 #[.agg (encU x).toArray, .agg (encU y).toArray] w fun e w' => e = .returned (.int .i64 (cmpU x y)) ∧ Below w.heap.size w w' := rcmp_any x.1 y.1 x.2 y.2 w
end Go.Proofs.YtepeloenijlnhaaDoor
