/- Contracts: a law's arguments as a set (the law's 'row'), package set's rises, Good. Conditions: at most 10^5 sums (Good, rises: fewer than 2^62). -/
import Derived.Test.YtnkcehmgagpadaaDoorUm
namespace Go.Proofs.YtnkcehmgagpadaaDoor
open Go.RowKit
theorem elSet : ElT 24 42 := ⟨Tryd.underlying24, Tryd.underlying42, by kernel_rfl⟩
theorem elSum : ElT 23 42 := ⟨Tryd.underlying23, Tryd.underlying42, by kernel_rfl⟩
theorem szSum : (Tryd.prog.info? 42).map (·.size) = some 32 := by kernel_rfl
theorem cmpS_any (x y : Su) (w : World) : Calls Tryd.prog 58 #[.agg (encU x).toArray, .agg (encU y).toArray] w fun e w' => e = .returned (.int .i64 (cmpU x y)) ∧ Below w.heap.size w w' := cmp_any x.1 y.1 x.2 y.2 w
set_option maxHeartbeats 4000000 in
set_option maxRecDepth 100000 in
theorem rises_any (L : List Su) (q : Option Addr) (c : Nat) (hm : L.length < 4611686018427387904) (w : World) (hs : Sees w w.heap.size q (rowU L)) :
    Calls Tryd.prog 63 #[.slice q L.length c] w fun e w' => e = .returned (.bool (decide (AscU L))) ∧ Below w.heap.size w w' := by
  have HS := Lib.hid hs
  clear hs
  go_enter Tryd.func63, Tryd.ntmps63
  go_wp2_with fail
  go_loopw [3] (fun vi wr => ∃ i : Nat, 1 ≤ i ∧ (i ≤ L.length ∨ i = 1) ∧ vi = .int .i64 i ∧ (∀ j (hj : j + 1 < L.length), j + 1 < i → cmpU L[j] L[j + 1] = -1) ∧ Below w.heap.size w wr) (fun vi _ => L.length - (intOf vi).toNat)
  case atStart => exact ⟨1, by omega, .inr rfl, rfl, fun j _ h => by omega, Below.refl _ _⟩
  case round =>
    rename_i wr
    obtain ⟨i, hi1, hi2, rfl, hall, hB⟩ := hrel
    have HALL := Lib.hid hall
    have HB := Lib.hid hB
    clear hall hB
    by_cases hlt : i < L.length
    · obtain ⟨k, rfl⟩ : ∃ k, i = k + 1 := ⟨i - 1, by omega⟩
      obtain ⟨a, rfl, ha, hc⟩ := Ss.el HS.out (show k < L.length by omega)
      obtain ⟨a', e', _, hc'⟩ := Ss.el HS.out hlt
      cases e'
      obtain ⟨m, hme⟩ : ∃ m, m = k + 1 := ⟨_, rfl⟩
      have HNEW : Hid (cmpU L[k] L[k + 1] = -1 → ∀ j (hj : j + 1 < L.length), j + 1 < m + 1 → cmpU L[j] L[j + 1] = -1) := Lib.hid (fun h j hj hjm => by
        by_cases e : j = k
        · subst e; exact h
        · exact HALL.out j hj (by omega))
      have HBAD : Hid (cmpU L[k] L[k + 1] ≠ -1 → ¬ AscU L) := Lib.hid (fun h ha => h (asc_at ha k hlt))
      obtain ⟨x, hxe⟩ : ∃ x, L[k]'(Nat.lt_of_succ_lt hlt) = x := ⟨_, rfl⟩
      obtain ⟨y, hye⟩ : ∃ y, L[k + 1] = y := ⟨_, rfl⟩
      rw [hxe, hye] at HNEW HBAD
      have HC : Hid (∀ w', Below w.heap.size w w' → ∀ j u, (encU x)[j]? = some u → w'.cell? ((a.add (k * 32)).add j) = some u) := Lib.hid (hxe ▸ hc)
      have HC' : Hid (∀ w', Below w.heap.size w w' → ∀ j u, (encU y)[j]? = some u → w'.cell? ((a.add (m * 32)).add j) = some u) := Lib.hid (by subst hye; subst hme; exact hc')
      have kk : (m : Int) < (L.length : Int) := by omega
      have km : (m : Int) - 1 = (k : Int) := by omega
      have km2 : m ≤ 4611686018427387904 := by omega
      have HM := Lib.hid hme
      have HV := Lib.hid (cmpU_vals x y)
      clear hc hc' ha hxe hye
      rw [← hme]
      have hk1 : k < 4611686018427387904 := by omega
      have hkl : (k : Int) < (L.length : Int) := by omega
      have kwr : IntKind.i64.wrap (k : Int) = (k : Int) := IntWalk.i64_in _ (by omega)
      clear hme
      go_wp2_with fail
      refine wp_region_org [(0, true), (1, true), (2, true), (3, true), (4, true), (5, true), (6, true), (7, true), (8, true), (9, false), (10, true)] (by kernel_rfl) (by kernel_rfl) (by kernel_rfl) ?_
      replace HB := Lib.hid HB.out.drew
      generalize wr.drew = wd at *
      simp only [pickOrs, List.getElem?_cons_zero, List.getElem?_cons_succ]
      refine org_pure (v := ?_) (by kernel_rfl) ?_ ?_
      rotate_left
      · intro w' hv; clear hv; go_simp; try with_reducible rfl
      try simp only [Act.put, List.setIfInBounds_toArray, List.set_cons_zero, List.set_cons_succ]
      refine org_pure (v := ?_) (by kernel_rfl) ?_ ?_
      rotate_left
      · intro w' hv; clear hv; go_simp; try with_reducible rfl
      try simp only [Act.put, List.setIfInBounds_toArray, List.set_cons_zero, List.set_cons_succ]
      refine org_pure (v := ?_) (by kernel_rfl) ?_ ?_
      rotate_left
      · intro w' hv; clear hv; go_simp; try with_reducible rfl
      try simp only [Act.put, List.setIfInBounds_toArray, List.set_cons_zero, List.set_cons_succ]
      refine org_pure (v := ?_) (by kernel_rfl) ?_ ?_
      rotate_left
      · intro w' hv; clear hv; go_simp; try with_reducible rfl
      try simp only [Act.put, List.setIfInBounds_toArray, List.set_cons_zero, List.set_cons_succ]
      refine org_pure (by kernel_rfl) (fun w' hv => load_su 42 (.tmp 13) rfl _ rfl elSum.2.1 szSum x ((fun w' hv => HC.out w' (HB.out.trans (Below.mono hv HB.out.size))) w' hv)) ?_
      try simp only [Act.put, List.setIfInBounds_toArray, List.set_cons_zero, List.set_cons_succ]
      refine org_pure (v := ?_) (by kernel_rfl) ?_ ?_
      rotate_left
      · intro w' hv; clear hv; go_simp; try with_reducible rfl
      try simp only [Act.put, List.setIfInBounds_toArray, List.set_cons_zero, List.set_cons_succ]
      refine org_pure (v := ?_) (by kernel_rfl) ?_ ?_
      rotate_left
      · intro w' hv; clear hv; go_simp; try with_reducible rfl
      try simp only [Act.put, List.setIfInBounds_toArray, List.set_cons_zero, List.set_cons_succ]
      refine org_pure (v := ?_) (by kernel_rfl) ?_ ?_
      rotate_left
      · intro w' hv; clear hv; go_simp; try with_reducible rfl
      try simp only [Act.put, List.setIfInBounds_toArray, List.set_cons_zero, List.set_cons_succ]
      refine org_pure (by kernel_rfl) (fun w' hv => load_su 42 (.tmp 17) rfl _ rfl elSum.2.1 szSum y ((fun w' hv => HC'.out w' (HB.out.trans (Below.mono hv HB.out.size))) w' hv)) ?_
      try simp only [Act.put, List.setIfInBounds_toArray, List.set_cons_zero, List.set_cons_succ]
      refine org_step (by kernel_rfl) (fun K hK => ?_)
      go_wp2_with fail
      refine (cmpS_any x y _).mono ?_
      rintro e wx ⟨rfl, hb⟩
      have HE := Lib.hid hb
      clear hb
      refine hK _ _ ⟨HE.out, ?_⟩
      clear hK
      try simp only [Act.put, List.setIfInBounds_toArray, List.set_cons_zero, List.set_cons_succ]
      replace HB := Lib.hid (HB.out.trans (HE.out.mono HB.out.size))
      clear HE
      rcases HV.out with hv | hv | hv
      · rw [hv]
        refine org_pure (v := ?_) (by kernel_rfl) ?_ ?_
        rotate_left
        · intro w' hv; clear hv; go_simp; try with_reducible rfl
        try simp only [Act.put, List.setIfInBounds_toArray, List.set_cons_zero, List.set_cons_succ]
        refine org_nil ?_
        have HN := Lib.hid (HNEW.out hv)
        clear hv
        go_wp2_with fail
        go_roundw
        case rel => exact ⟨m + 1, by omega, .inl (by have := HM.out; omega), by go_num, HN.out, HB.out⟩
        case measure => simp [intOf]; omega
      · rw [hv]
        refine org_pure (v := ?_) (by kernel_rfl) ?_ ?_
        rotate_left
        · intro w' hv; clear hv; go_simp; try with_reducible rfl
        try simp only [Act.put, List.setIfInBounds_toArray, List.set_cons_zero, List.set_cons_succ]
        refine org_nil ?_
        have HR := Lib.hid (decide_eq_false (HBAD.out (by rw [hv]; decide)))
        clear hv
        go_wp2_with fail
        go_ret
        exact ⟨congrArg (fun b => Ending.returned (.bool b)) HR.out.symm, HB.out⟩
      · rw [hv]
        refine org_pure (v := ?_) (by kernel_rfl) ?_ ?_
        rotate_left
        · intro w' hv; clear hv; go_simp; try with_reducible rfl
        try simp only [Act.put, List.setIfInBounds_toArray, List.set_cons_zero, List.set_cons_succ]
        refine org_nil ?_
        have HR := Lib.hid (decide_eq_false (HBAD.out (by rw [hv]; decide)))
        clear hv
        go_wp2_with fail
        go_ret
        exact ⟨congrArg (fun b => Ending.returned (.bool b)) HR.out.symm, HB.out⟩
    · have HR : Hid (decide (AscU L) = true) := Lib.hid (decide_eq_true (asc_next fun j hj => HALL.out j hj (by omega)))
      have kk : ¬ (i : Int) < (L.length : Int) := by omega
      go_wp2_with fail
      go_ret
      exact ⟨congrArg (fun b => Ending.returned (.bool b)) HR.out.symm, HB.out⟩
def goodU (L : List Su) : Bool := decide (L.length ≤ 512) && decide (AscU L)
set_option maxHeartbeats 1000000 in
theorem good_any (L : List Su) (q : Option Addr) (c : Nat) (hm : L.length < 4611686018427387904) (w : World) (hs : Sees w w.heap.size q (rowU L)) :
    Calls Tryd.prog 34 #[.slice q L.length c] w fun e w' => e = .returned (.bool (goodU L)) ∧ Below w.heap.size w w' := by
  have HR := Lib.hid (rises_any L q c hm w hs)
  clear hs
  by_cases hl : L.length ≤ 512
  · have HG : Hid (goodU L = decide (AscU L)) := Lib.hid (by unfold goodU; rw [decide_eq_true hl, Bool.true_and])
    have k1 : (L.length : Int) ≤ 512 := by omega
    go_enter Tryd.func34, Tryd.ntmps34
    go_wp2_with (refine HR.out.mono ?_; rintro e w1 ⟨rfl, hb⟩; have HB := Lib.hid hb; clear hb)
    go_ret
    exact ⟨congrArg (fun b => Ending.returned (.bool b)) HG.out.symm, HB.out⟩
  · have HG : Hid (goodU L = false) := Lib.hid (by unfold goodU; rw [decide_eq_false hl, Bool.false_and])
    have k1 : ¬ (L.length : Int) ≤ 512 := by omega
    go_enter Tryd.func34, Tryd.ntmps34
    go_wp2_with fail
    go_ret
    exact ⟨congrArg (fun b => Ending.returned (.bool b)) HG.out.symm, Below.refl _ _⟩
end Go.Proofs.YtnkcehmgagpadaaDoor
