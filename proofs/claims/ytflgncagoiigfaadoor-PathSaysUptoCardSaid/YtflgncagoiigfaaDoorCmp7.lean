/- Contracts: package path's rank and Cmp: two texts, by their names. Condition: texts shorter than 2^61 bytes. Cmp lays nothing; it draws. -/
import Derived.Test.YtflgncagoiigfaaDoorCalls7
import Derived.Test.YtflgncagoiigfaaDoorOrg
import Derived.Deep.Draws
namespace Go.Proofs.YtflgncagoiigfaaDoor
open Go.RowKit
set_option maxHeartbeats 400000 in
theorem rank_any (c : UInt8) (w : World) :
    Calls Tryd.prog 38 #[.int .u8 (c.toNat : Int)] w fun e w' => e = .returned (.int .i64 (rankB c)) ∧ w' = w := by
  have hl : c.toNat < 256 := UInt8.toNat_lt c
  unfold rankB
  by_cases h : c = 47
  · rw [if_pos h, h]
    go_enter Tryd.func38, Tryd.ntmps38
    go_wp2_with fail
    go_ret
    exact ⟨rfl, rfl⟩
  · rw [if_neg h]
    have k1 : ¬ (c.toNat : Int) = 47 := fun e => h (UInt8.toNat_inj.1 (by show c.toNat = 47; omega))
    have kw : IntKind.i64.wrap (c.toNat : Int) = (c.toNat : Int) := by rw [IntWalk.i64_in _ (by omega)]
    generalize c.toNat = n at *
    clear h hl
    go_enter Tryd.func38, Tryd.ntmps38
    go_wp2_with fail
    go_ret
    exact ⟨rfl, rfl⟩
theorem drop_at (s : ByteArray) (i : Nat) (h : i < s.size) : s.data.toList.drop i = (s[i]'h) :: s.data.toList.drop (i + 1) := by
  have e := byte_at s i h
  obtain ⟨h1, h2⟩ := List.getElem?_eq_some_iff.1 e
  rw [List.drop_eq_getElem_cons h1, h2]
theorem drop_end (s : ByteArray) : s.data.toList.drop s.size = [] := List.drop_of_length_le (Nat.le_of_eq rfl)
theorem cmpL_drop (x y : List UInt8) : cmpL x y = Lib.compareInt x.length y.length ∨ (x ≠ [] ∧ y ≠ []) := by
  cases x <;> cases y
  · left; rfl
  · left; symm; exact cmpI_lt (by simp)
  · left; symm; exact cmpI_gt (by simp)
  · right; simp
set_option maxHeartbeats 4000000 in
set_option maxRecDepth 100000 in
theorem cmp_any (a b : ByteArray) (ha : a.size < 9223372036854775808) (hb : b.size < 9223372036854775808) (w : World) :
    Calls Tryd.prog 18 #[.string a, .string b] w fun e w' => e = .returned (.int .i64 (cmpL a.data.toList b.data.toList)) ∧ ∃ q, w' = w.drewN q := by
  obtain ⟨V, hV⟩ : ∃ V, cmpL a.data.toList b.data.toList = V := ⟨_, rfl⟩
  have HV := Lib.hid hV
  rw [hV]
  clear hV
  go_enter Tryd.func18, Tryd.ntmps18
  go_wp2_with fail
  go_loopw [5, 11] (fun _ vi wr => ∃ i q : Nat, i ≤ min a.size b.size ∧ vi = .int .i64 i ∧ cmpL (a.data.toList.drop i) (b.data.toList.drop i) = V ∧ wr = w.drewN q) (fun _ vi _ => min a.size b.size - (intOf vi).toNat)
  case atStart => exact ⟨0, 0, by omega, rfl, HV.out, rfl⟩
  case round =>
    obtain ⟨i, q, hi, rfl, hv, rfl⟩ := hrel
    by_cases hlt : i < min a.size b.size
    · have ia : i < a.size := by omega
      have ib : i < b.size := by omega
      rw [drop_at a i ia, drop_at b i ib, cmpL] at hv
      have HVV := Lib.hid hv
      have HR1 := Lib.hid (fun w1 => rank_any (a[i]'ia) w1)
      have HR2 := Lib.hid (fun w1 => rank_any (b[i]'ib) w1)
      have k1 : (i : Int) < (a.size : Int) := by omega
      have k2 : (i : Int) < (b.size : Int) := by omega
      have k3 : (0 : Int) ≤ (i : Int) := by omega
      clear hv
      have kd : a[i]'ia = b[i]'ib ∨ ¬ ((a[i]'ia).toNat : Int) = ((b[i]'ib).toNat : Int) := by
        by_cases h : a[i]'ia = b[i]'ib
        · exact .inl h
        · exact .inr (fun e => h (UInt8.toNat_inj.1 (by omega)))
      have HD := Lib.hid kd
      clear kd
      go_wp2_with fail
      refine wp_region_org [(0, true), (1, true), (2, true), (3, true), (4, true), (5, true), (6, true)] (by kernel_rfl) (by kernel_rfl) (by kernel_rfl) ?_
      have e1 : (w.drewN q).drew = w.drewN (q + 1) := rfl
      rw [e1]
      clear e1
      simp only [pickOrs, List.getElem?_cons_zero, List.getElem?_cons_succ]
      refine org_pure (v := ?_) (by kernel_rfl) ?_ ?_
      rotate_left
      · intro w' hv; clear hv; go_simp; try with_reducible rfl
      try simp only [Act.put, List.setIfInBounds_toArray, List.set_cons_zero, List.set_cons_succ]
      refine org_pure (v := ?_) (by kernel_rfl) ?_ ?_
      rotate_left
      · intro w' hv; clear hv; go_simp; try with_reducible rfl
      try simp only [Act.put, List.setIfInBounds_toArray, List.set_cons_zero, List.set_cons_succ]
      refine org_pure (v := ?_) (by kernel_rfl) ?_ ?_
      rotate_left
      · intro w' hv; clear hv; go_simp; try with_reducible rfl
      try simp only [Act.put, List.setIfInBounds_toArray, List.set_cons_zero, List.set_cons_succ]
      refine org_pure (v := ?_) (by kernel_rfl) ?_ ?_
      rotate_left
      · intro w' hv; clear hv; go_simp; try with_reducible rfl
      try simp only [Act.put, List.setIfInBounds_toArray, List.set_cons_zero, List.set_cons_succ]
      refine org_pure (v := ?_) (by kernel_rfl) ?_ ?_
      rotate_left
      · intro w' hv; clear hv; go_simp; try with_reducible rfl
      try simp only [Act.put, List.setIfInBounds_toArray, List.set_cons_zero, List.set_cons_succ]
      refine org_pure (v := ?_) (by kernel_rfl) ?_ ?_
      rotate_left
      · intro w' hv; clear hv; go_simp; try with_reducible rfl
      try simp only [Act.put, List.setIfInBounds_toArray, List.set_cons_zero, List.set_cons_succ]
      refine org_pure (v := ?_) (by kernel_rfl) ?_ ?_
      rotate_left
      · intro w' hv; clear hv; go_simp; try with_reducible rfl
      try simp only [Act.put, List.setIfInBounds_toArray, List.set_cons_zero, List.set_cons_succ]
      refine org_nil ?_
      rcases HD.out with h | h
      · have hvv := HVV.out
        rw [if_pos h] at hvv
        have HV2 := Lib.hid hvv
        rw [h]
        clear hvv
        go_wp2_with fail
        go_roundw
        case rel => exact ⟨i + 1, q + 1, by omega, by go_num, HV2.out, rfl⟩
        case measure => simp [intOf]; omega
      · have hne : ¬ a[i]'ia = b[i]'ib := fun e => h (by rw [e])
        have hvv := HVV.out
        rw [if_neg hne] at hvv
        have HV2 := Lib.hid hvv
        have HC := Lib.hid (fun w1 => compare_any (rankB (a[i]'ia)) (rankB (b[i]'ib)) w1)
        rw [hvv] at HC
        clear hvv hne
        go_wp2_with fail
        refine wp_region_org [(0, true), (1, true), (2, true), (4, true), (5, true), (6, true), (3, false), (7, false), (8, false), (9, true)] (by kernel_rfl) (by kernel_rfl) (by kernel_rfl) ?_
        have e1 : (w.drewN (q + 1)).drew = w.drewN (q + 2) := rfl
        rw [e1]
        clear e1
        simp only [pickOrs, List.getElem?_cons_zero, List.getElem?_cons_succ]
        refine org_pure (v := ?_) (by kernel_rfl) ?_ ?_
        rotate_left
        · intro w' hv; clear hv; go_simp; try with_reducible rfl
        try simp only [Act.put, List.setIfInBounds_toArray, List.set_cons_zero, List.set_cons_succ]
        refine org_pure (v := ?_) (by kernel_rfl) ?_ ?_
        rotate_left
        · intro w' hv; clear hv; go_simp; try with_reducible rfl
        try simp only [Act.put, List.setIfInBounds_toArray, List.set_cons_zero, List.set_cons_succ]
        refine org_pure (v := ?_) (by kernel_rfl) ?_ ?_
        rotate_left
        · intro w' hv; clear hv; go_simp; try with_reducible rfl
        try simp only [Act.put, List.setIfInBounds_toArray, List.set_cons_zero, List.set_cons_succ]
        refine org_pure (v := ?_) (by kernel_rfl) ?_ ?_
        rotate_left
        · intro w' hv; clear hv; go_simp; try with_reducible rfl
        try simp only [Act.put, List.setIfInBounds_toArray, List.set_cons_zero, List.set_cons_succ]
        refine org_pure (v := ?_) (by kernel_rfl) ?_ ?_
        rotate_left
        · intro w' hv; clear hv; go_simp; try with_reducible rfl
        try simp only [Act.put, List.setIfInBounds_toArray, List.set_cons_zero, List.set_cons_succ]
        refine org_pure (v := ?_) (by kernel_rfl) ?_ ?_
        rotate_left
        · intro w' hv; clear hv; go_simp; try with_reducible rfl
        try simp only [Act.put, List.setIfInBounds_toArray, List.set_cons_zero, List.set_cons_succ]
        refine org_step (by kernel_rfl) (fun K hK => ?_)
        go_wp2_with fail
        refine (HR1.out _).mono ?_
        rintro e w1 ⟨rfl, rfl⟩
        refine hK _ _ ⟨Ext.refl _, ?_⟩
        clear hK
        try simp only [Act.put, List.setIfInBounds_toArray, List.set_cons_zero, List.set_cons_succ]
        refine org_step (by kernel_rfl) (fun K hK => ?_)
        go_wp2_with fail
        refine (HR2.out _).mono ?_
        rintro e w1 ⟨rfl, rfl⟩
        refine hK _ _ ⟨Ext.refl _, ?_⟩
        clear hK
        try simp only [Act.put, List.setIfInBounds_toArray, List.set_cons_zero, List.set_cons_succ]
        refine org_step (by kernel_rfl) (fun K hK => ?_)
        go_wp2_with fail
        refine (HC.out _).mono ?_
        rintro e w1 ⟨rfl, rfl⟩
        refine hK _ _ ⟨Ext.refl _, ?_⟩
        clear hK
        try simp only [Act.put, List.setIfInBounds_toArray, List.set_cons_zero, List.set_cons_succ]
        refine org_pure (v := ?_) (by kernel_rfl) ?_ ?_
        rotate_left
        · intro w' hv; clear hv; go_simp; try with_reducible rfl
        try simp only [Act.put, List.setIfInBounds_toArray, List.set_cons_zero, List.set_cons_succ]
        refine org_nil ?_
        go_wp2_with fail
        go_ret
        exact ⟨rfl, _, rfl⟩
    · have hil : i = min a.size b.size := by omega
      have hd := (cmpL_drop (a.data.toList.drop i) (b.data.toList.drop i)).resolve_right (fun ⟨h1, h2⟩ => by
        rcases (by omega : i = a.size ∨ i = b.size) with e | e
        · exact h1 (by rw [e]; exact drop_end a)
        · exact h2 (by rw [e]; exact drop_end b))
      rw [List.length_drop, List.length_drop] at hd
      have hsa : a.data.toList.length = a.size := rfl
      have hsb : b.data.toList.length = b.size := rfl
      have hc : Lib.compareInt (a.size : Int) (b.size : Int) = V := by
        rw [← hv, hd, hsa, hsb]
        unfold Lib.compareInt
        split <;> split <;> (try split) <;> (try split) <;> omega
      have HC := Lib.hid (fun w1 => compare_any (a.size : Int) (b.size : Int) w1)
      rw [hc] at HC
      have k1 : ¬ i < min a.size b.size := hlt
      clear hd hc hv hil hlt hsa hsb
      go_wp2_with (first | ((with_reducible refine (HC.out _).mono ?_); rintro e w1 ⟨rfl, rfl⟩))
      go_ret
      exact ⟨rfl, _, rfl⟩
end Go.Proofs.YtflgncagoiigfaaDoor

