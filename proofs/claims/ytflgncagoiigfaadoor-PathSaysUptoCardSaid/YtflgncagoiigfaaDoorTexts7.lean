/- Contract: the law's texts, where both rows are alike: it returns true. Condition: at most a thousand texts. -/
import Derived.Test.YtflgncagoiigfaaDoorSort7
namespace Go.Proofs.YtflgncagoiigfaaDoor
open Go.RowKit
set_option maxHeartbeats 2000000 in
set_option maxRecDepth 100000 in
theorem texts_same (x : List Tx) (hx : x.length ≤ 1000) (q p : Option Addr) (c d : Nat) (w : World) (hs : Sees w w.heap.size q (x.map encStr)) (ht : Sees w w.heap.size p (x.map encStr)) :
    Calls Tryd.prog 17 #[.slice q x.length c, .slice p x.length d] w fun e w' => e = .returned (.bool true) ∧ Below w.heap.size w w' := by
  have HS := Lib.hid hs
  have HT := Lib.hid ht
  clear hs ht
  go_enter Tryd.func17, Tryd.ntmps17
  go_wp2_with fail
  go_loopw [5] (fun vi wr => ∃ i : Nat, i ≤ x.length ∧ vi = .int .i64 i ∧ Below w.heap.size w wr) (fun vi _ => x.length - (intOf vi).toNat)
  case atStart => exact ⟨0, by omega, rfl, Below.refl _ _⟩
  case round =>
    rename_i wr
    obtain ⟨i, hi, rfl, hB⟩ := hrel
    have HBB := Lib.hid hB
    clear hB
    by_cases hlt : i < x.length
    · obtain ⟨ap, rfl, hap, hcp⟩ := HS.out.get (by rw [List.length_map]; omega)
      obtain ⟨aq, rfl, haq, hcq⟩ := HT.out.get (by rw [List.length_map]; omega)
      have HCP : Hid (∀ w', Below w.heap.size w w' → w'.cell? (ap.add i) = some (.string ⟨x[i].toArray⟩)) := Lib.hid (fun w' hb => (hb.cell (by rw [add_block]; exact hap)).trans (hcp i (encStr x[i]) (by rw [List.getElem?_map, List.getElem?_eq_getElem hlt]; rfl)))
      have HCQ : Hid (∀ w', Below w.heap.size w w' → w'.cell? (aq.add i) = some (.string ⟨x[i].toArray⟩)) := Lib.hid (fun w' hb => (hb.cell (by rw [add_block]; exact haq)).trans (hcq i (encStr x[i]) (by rw [List.getElem?_map, List.getElem?_eq_getElem hlt]; rfl)))
      clear hcp hcq hap haq
      obtain ⟨u, hu⟩ : ∃ u : ByteArray, u = ⟨x[i].toArray⟩ := ⟨_, rfl⟩
      rw [← hu] at HCP HCQ
      clear hu
      go_wp2_with fail
      refine wp_region_org ((List.range 9).map (·, true)) (by kernel_rfl) (by kernel_rfl) (by kernel_rfl) ?_
      replace HBB := Lib.hid HBB.out.drew
      generalize wr.drew = w13 at *
      simp only [List.range_succ, List.range_zero, List.nil_append, List.cons_append, List.map_cons, List.map_nil, pickOrs, List.getElem?_cons_zero, List.getElem?_cons_succ]
      refine org_pure (v := ?_) (by kernel_rfl) ?_ ?_
      rotate_left
      · intro w' hv; clear hv; go_simp; try with_reducible rfl
      try simp only [Act.put, List.setIfInBounds_toArray, List.set_cons_zero, List.set_cons_succ]
      refine org_pure (v := ?_) (by kernel_rfl) ?_ ?_
      rotate_left
      · intro w' hv; clear hv; go_simp; try with_reducible rfl
      try simp only [Act.put, List.setIfInBounds_toArray, List.set_cons_zero, List.set_cons_succ]
      refine org_pure (v := ?_) (by kernel_rfl) ?_ ?_
      rotate_left
      · intro w' hv; clear hv; go_simp; try with_reducible rfl
      try simp only [Act.put, List.setIfInBounds_toArray, List.set_cons_zero, List.set_cons_succ]
      refine org_pure (v := ?_) (by kernel_rfl) ?_ ?_
      rotate_left
      · intro w' hv; have cp := HCP.out w' (HBB.out.trans (Below.mono hv HBB.out.size)); clear hv; go_simp; try with_reducible rfl
      try simp only [Act.put, List.setIfInBounds_toArray, List.set_cons_zero, List.set_cons_succ]
      refine org_pure (v := ?_) (by kernel_rfl) ?_ ?_
      rotate_left
      · intro w' hv; clear hv; go_simp; try with_reducible rfl
      try simp only [Act.put, List.setIfInBounds_toArray, List.set_cons_zero, List.set_cons_succ]
      refine org_pure (v := ?_) (by kernel_rfl) ?_ ?_
      rotate_left
      · intro w' hv; clear hv; go_simp; try with_reducible rfl
      try simp only [Act.put, List.setIfInBounds_toArray, List.set_cons_zero, List.set_cons_succ]
      refine org_pure (v := ?_) (by kernel_rfl) ?_ ?_
      rotate_left
      · intro w' hv; clear hv; go_simp; try with_reducible rfl
      try simp only [Act.put, List.setIfInBounds_toArray, List.set_cons_zero, List.set_cons_succ]
      refine org_pure (v := ?_) (by kernel_rfl) ?_ ?_
      rotate_left
      · intro w' hv; have cq := HCQ.out w' (HBB.out.trans (Below.mono hv HBB.out.size)); clear hv; go_simp; try with_reducible rfl
      try simp only [Act.put, List.setIfInBounds_toArray, List.set_cons_zero, List.set_cons_succ]
      refine org_pure (v := ?_) (by kernel_rfl) ?_ ?_
      rotate_left
      · intro w' hv; clear hv; go_simp; try with_reducible rfl
      try simp only [Act.put, List.setIfInBounds_toArray, List.set_cons_zero, List.set_cons_succ]
      refine org_nil ?_
      go_wp2_with fail
      go_roundw
      case rel => exact ⟨i + 1, by omega, by go_num, HBB.out⟩
      case measure => simp [intOf]; omega
    · have hil : i = x.length := by omega
      subst hil
      have k0 : ¬ (x.length : Int) < (x.length : Int) := by omega
      go_wp2_with fail
      go_ret
      exact ⟨rfl, HBB.out⟩
end Go.Proofs.YtflgncagoiigfaaDoor
