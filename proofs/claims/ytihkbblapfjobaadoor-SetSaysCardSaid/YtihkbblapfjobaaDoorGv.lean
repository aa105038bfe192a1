/- Contracts: the law's own sets as the document's (the law's 'own'), the document's own Good, Same, Has. Condition: at most 10^5 sums. -/
import Derived.Test.YtihkbblapfjobaaDoorUrc
import Derived.Test.YtihkbblapfjobaaDoorGh
import Derived.Great.BuildSlice
import Derived.Laws.OwnMore
import Derived.Test.YtihkbblapfjobaaDoorRof
import Derived.Test.YtihkbblapfjobaaDoorUt
namespace Go.Proofs.YtihkbblapfjobaaDoor
open Go.RowKit
theorem elRef : ElT 52 35 := ⟨Tryd.underlying52, Tryd.underlying35, by kernel_rfl⟩
theorem elRefs : ElT 51 35 := ⟨Tryd.underlying51, Tryd.underlying35, by kernel_rfl⟩
theorem szRef : (Tryd.prog.info? 35).map (·.size) = some 32 := by kernel_rfl
theorem gdRef : Tryd.prog.eqGuardType Tryd.prog.depth 35 = false := by kernel_rfl
theorem rcmpS_any (x y : Su) (w : World) : Calls Tryd.prog 54 #[.agg (encU x).toArray, .agg (encU y).toArray] w fun e w' => e = .returned (.int .i64 (cmpU x y)) ∧ Below w.heap.size w w' := rcmp_any x.1 y.1 x.2 y.2 w
set_option maxHeartbeats 4000000 in
set_option maxRecDepth 100000 in
theorem own10_any (L : List Su) (q : Option Addr) (c : Nat) (hm : L.length ≤ 100000) (w : World) (hs : Sees w w.heap.size q (rowU L)) :
    Calls Tryd.prog 25 #[.slice q L.length c] w fun e w' => (∃ v, e = .returned v ∧ OwnU w' w.heap.size 35 v L) ∧ Below w.heap.size w w' := by
  have HS := Lib.hid hs
  have HNIL := Lib.hid (OwnU.nil w w.heap.size 35)
  clear hs
  go_enter Tryd.func25, Tryd.ntmps25
  go_wp2_with fail
  go_loopw [3, 4] (fun v vi wr => ∃ i : Nat, i ≤ L.length ∧ vi = .int .i64 i ∧ OwnU wr w.heap.size 35 v (L.take i) ∧ Below w.heap.size w wr) (fun _ vi _ => L.length - (intOf vi).toNat)
  case atStart => exact ⟨0, by omega, rfl, HNIL.out, Below.refl _ _⟩
  case round =>
    rename_i wr
    obtain ⟨i, hi, rfl, hrow, hB⟩ := hrel
    have HROW := Lib.hid hrow
    have HB := Lib.hid hB
    clear hrow hB
    by_cases hlt : i < L.length
    · obtain ⟨a, rfl, ha, hc⟩ := Ss.el HS.out hlt
      have HC := Lib.hid (hc wr HB.out)
      have kk : (i : Int) < (L.length : Int) := by omega
      have HTK : Hid (L.take (i + 1) = L.take i ++ [L[i]]) := Lib.hid (by rw [List.take_add_one, List.getElem?_eq_getElem hlt]; rfl)
      have HLEN : Hid ((L.take i).length + 1 ≤ 4000000) := Lib.hid (by rw [List.length_take]; omega)
      obtain ⟨s, hse⟩ : ∃ s, L[i] = s := ⟨_, rfl⟩
      rw [hse] at HC HTK
      clear hc ha hse
      go_wp2_with (first
        | (refine wpList_load_su rfl 24 (.tmp 14) rfl _ rfl elSet.2.1 szSum s HC.out ?_)
        | (refine wpList_one_su rfl 52 35 elRef (.tmp 15) rfl s rfl ?_)
        | (refine wpList_append_su rfl 52 35 elRef (.tmp 11) (.tmp 16) rfl w.heap.size _ (L.take i) rfl (World.ownsRow.alloc HROW.out _) (some ⟨wr.heap.size, 0, none⟩) [s] 1 1 (wr.heap.size + 1) rfl rfl (fun h => by cases h) (Ss.one (Has.made' wr _ _ _ rfl) (Nat.lt_succ_self _)) HLEN.out (by have := HB.out.size; simp; omega) ?_; intro v3 w3 h1 h2; have HO := Lib.hid h1; have HB3 := Lib.hid h2; clear h1 h2))
      go_roundw
      case rel => exact ⟨i + 1, by omega, by go_num, by rw [HTK.out]; exact HO.out, (HB.out.alloc HB.out.size _).trans HB3.out⟩
      case measure => simp [intOf]; omega
    · have hil : i = L.length := by omega
      subst hil
      rw [List.take_length] at HROW
      have kk : ¬ (L.length : Int) < (L.length : Int) := by omega
      go_wp2_with fail
      go_ret
      exact ⟨⟨_, rfl, HROW.out⟩, HB.out⟩
set_option maxHeartbeats 4000000 in
set_option maxRecDepth 100000 in
theorem rgood0_any (L : List Su) (q : Option Addr) (c : Nat) (hm : L.length < 4611686018427387904) (w : World) (hs : Sees w w.heap.size q (rowU L)) :
    Calls Tryd.prog 27 #[.slice q L.length c] w fun e w' => e = .returned (.bool (goodU L)) ∧ Below w.heap.size w w' := by
  have HS := Lib.hid hs
  clear hs
  go_enter Tryd.func27, Tryd.ntmps27
  go_wp2_with fail
  go_loopw [3] (fun vi wr => ∃ i : Nat, 1 ≤ i ∧ (i ≤ L.length ∨ i = 1) ∧ vi = .int .i64 i ∧ (∀ j (hj : j + 1 < L.length), j + 1 < i → cmpU L[j] L[j + 1] = -1) ∧ Below w.heap.size w wr) (fun vi _ => L.length - (intOf vi).toNat)
  case atStart => exact ⟨1, by omega, .inr rfl, rfl, fun j _ h => by omega, Below.refl _ _⟩
  case round =>
    rename_i wr
    obtain ⟨i, hi1, hi2, rfl, hall, hB⟩ := hrel
    have HALL := Lib.hid hall
    have HB := Lib.hid hB
    clear hall hB
    by_cases hlt : i < L.length
    · obtain ⟨k, rfl⟩ : ∃ k, i = k + 1 := ⟨i - 1, by omega⟩
      obtain ⟨a, rfl, ha, hc⟩ := Ss.el HS.out (show k < L.length by omega)
      obtain ⟨a', e', _, hc'⟩ := Ss.el HS.out hlt
      cases e'
      obtain ⟨m, hme⟩ : ∃ m, m = k + 1 := ⟨_, rfl⟩
      have HNEW : Hid (cmpU L[k] L[k + 1] = -1 → ∀ j (hj : j + 1 < L.length), j + 1 < m + 1 → cmpU L[j] L[j + 1] = -1) := Lib.hid (fun h j hj hjm => by
        by_cases e : j = k
        · subst e; exact h
        · exact HALL.out j hj (by omega))
      have HBAD : Hid (cmpU L[k] L[k + 1] ≠ -1 → goodU L = false) := Lib.hid (fun h => by unfold goodU; rw [decide_eq_false (fun ha => h (asc_at ha k hlt)), Bool.and_false])
      obtain ⟨x, hxe⟩ : ∃ x, L[k]'(Nat.lt_of_succ_lt hlt) = x := ⟨_, rfl⟩
      obtain ⟨y, hye⟩ : ∃ y, L[k + 1] = y := ⟨_, rfl⟩
      rw [hxe, hye] at HNEW HBAD
      have HC : Hid (∀ w', Below w.heap.size w w' → ∀ j u, (encU x)[j]? = some u → w'.cell? ((a.add (k * 32)).add j) = some u) := Lib.hid (hxe ▸ hc)
      have HC' : Hid (∀ w', Below w.heap.size w w' → ∀ j u, (encU y)[j]? = some u → w'.cell? ((a.add (m * 32)).add j) = some u) := Lib.hid (by subst hye; subst hme; exact hc')
      have kk : (m : Int) < (L.length : Int) := by omega
      have km : (m : Int) - 1 = (k : Int) := by omega
      have km2 : m ≤ 4611686018427387904 := by omega
      have HM := Lib.hid hme
      have HV := Lib.hid (cmpU_vals x y)
      clear hc hc' ha hxe hye
      rw [← hme]
      have hk1 : k < 4611686018427387904 := by omega
      have hkl : (k : Int) < (L.length : Int) := by omega
      have kwr : IntKind.i64.wrap (k : Int) = (k : Int) := IntWalk.i64_in _ (by omega)
      clear hme
      go_wp2_with fail
      refine wp_region_org [(0, true), (1, true), (2, true), (3, true), (4, true), (5, true), (6, true), (7, true), (8, true), (9, false), (10, true)] (by kernel_rfl) (by kernel_rfl) (by kernel_rfl) ?_
      replace HB := Lib.hid HB.out.drew
      generalize wr.drew = wd at *
      simp only [pickOrs, List.getElem?_cons_zero, List.getElem?_cons_succ]
      refine org_pure (v := ?_) (by kernel_rfl) ?_ ?_
      rotate_left
      · intro w' hv; clear hv; go_simp; try with_reducible rfl
      try simp only [Act.put, List.setIfInBounds_toArray, List.set_cons_zero, List.set_cons_succ]
      refine org_pure (v := ?_) (by kernel_rfl) ?_ ?_
      rotate_left
      · intro w' hv; clear hv; go_simp; try with_reducible rfl
      try simp only [Act.put, List.setIfInBounds_toArray, List.set_cons_zero, List.set_cons_succ]
      refine org_pure (v := ?_) (by kernel_rfl) ?_ ?_
      rotate_left
      · intro w' hv; clear hv; go_simp; try with_reducible rfl
      try simp only [Act.put, List.setIfInBounds_toArray, List.set_cons_zero, List.set_cons_succ]
      refine org_pure (v := ?_) (by kernel_rfl) ?_ ?_
      rotate_left
      · intro w' hv; clear hv; go_simp; try with_reducible rfl
      try simp only [Act.put, List.setIfInBounds_toArray, List.set_cons_zero, List.set_cons_succ]
      refine org_pure (by kernel_rfl) (fun w' hv => load_su 35 (.tmp 13) rfl _ rfl elRef.2.1 szRef x ((fun w' hv => HC.out w' (HB.out.trans (Below.mono hv HB.out.size))) w' hv)) ?_
      try simp only [Act.put, List.setIfInBounds_toArray, List.set_cons_zero, List.set_cons_succ]
      refine org_pure (v := ?_) (by kernel_rfl) ?_ ?_
      rotate_left
      · intro w' hv; clear hv; go_simp; try with_reducible rfl
      try simp only [Act.put, List.setIfInBounds_toArray, List.set_cons_zero, List.set_cons_succ]
      refine org_pure (v := ?_) (by kernel_rfl) ?_ ?_
      rotate_left
      · intro w' hv; clear hv; go_simp; try with_reducible rfl
      try simp only [Act.put, List.setIfInBounds_toArray, List.set_cons_zero, List.set_cons_succ]
      refine org_pure (v := ?_) (by kernel_rfl) ?_ ?_
      rotate_left
      · intro w' hv; clear hv; go_simp; try with_reducible rfl
      try simp only [Act.put, List.setIfInBounds_toArray, List.set_cons_zero, List.set_cons_succ]
      refine org_pure (by kernel_rfl) (fun w' hv => load_su 35 (.tmp 17) rfl _ rfl elRef.2.1 szRef y ((fun w' hv => HC'.out w' (HB.out.trans (Below.mono hv HB.out.size))) w' hv)) ?_
      try simp only [Act.put, List.setIfInBounds_toArray, List.set_cons_zero, List.set_cons_succ]
      refine org_step (by kernel_rfl) (fun K hK => ?_)
      go_wp2_with fail
      refine (rcmpS_any x y _).mono ?_
      rintro e wx ⟨rfl, hb⟩
      have HE := Lib.hid hb
      clear hb
      refine hK _ _ ⟨HE.out, ?_⟩
      clear hK
      try simp only [Act.put, List.setIfInBounds_toArray, List.set_cons_zero, List.set_cons_succ]
      replace HB := Lib.hid (HB.out.trans (HE.out.mono HB.out.size))
      clear HE
      rcases HV.out with hv | hv | hv
      · rw [hv]
        refine org_pure (v := ?_) (by kernel_rfl) ?_ ?_
        rotate_left
        · intro w' hv; clear hv; go_simp; try with_reducible rfl
        try simp only [Act.put, List.setIfInBounds_toArray, List.set_cons_zero, List.set_cons_succ]
        refine org_nil ?_
        have HN := Lib.hid (HNEW.out hv)
        clear hv
        go_wp2_with fail
        go_roundw
        case rel => exact ⟨m + 1, by omega, .inl (by have := HM.out; omega), by go_num, HN.out, HB.out⟩
        case measure => simp [intOf]; omega
      · rw [hv]
        refine org_pure (v := ?_) (by kernel_rfl) ?_ ?_
        rotate_left
        · intro w' hv; clear hv; go_simp; try with_reducible rfl
        try simp only [Act.put, List.setIfInBounds_toArray, List.set_cons_zero, List.set_cons_succ]
        refine org_nil ?_
        have HR := Lib.hid (HBAD.out (by rw [hv]; decide))
        clear hv
        go_wp2_with fail
        go_ret
        exact ⟨congrArg (fun b => Ending.returned (.bool b)) HR.out.symm, HB.out⟩
      · rw [hv]
        refine org_pure (v := ?_) (by kernel_rfl) ?_ ?_
        rotate_left
        · intro w' hv; clear hv; go_simp; try with_reducible rfl
        try simp only [Act.put, List.setIfInBounds_toArray, List.set_cons_zero, List.set_cons_succ]
        refine org_nil ?_
        have HR := Lib.hid (HBAD.out (by rw [hv]; decide))
        clear hv
        go_wp2_with fail
        go_ret
        exact ⟨congrArg (fun b => Ending.returned (.bool b)) HR.out.symm, HB.out⟩
    · have HA : Hid (decide (AscU L) = true) := Lib.hid (decide_eq_true (asc_next fun j hj => HALL.out j hj (by omega)))
      have kk : ¬ (i : Int) < (L.length : Int) := by omega
      by_cases h5 : L.length ≤ 512
      · have HR : Hid (goodU L = true) := Lib.hid (by unfold goodU; rw [HA.out, decide_eq_true h5]; rfl)
        have k5 : (L.length : Int) ≤ 512 := by omega
        go_wp2_with fail
        go_ret
        exact ⟨congrArg (fun b => Ending.returned (.bool b)) HR.out.symm, HB.out⟩
      · have HR : Hid (goodU L = false) := Lib.hid (by unfold goodU; rw [decide_eq_false h5]; rfl)
        have k5 : ¬ (L.length : Int) ≤ 512 := by omega
        go_wp2_with fail
        go_ret
        exact ⟨congrArg (fun b => Ending.returned (.bool b)) HR.out.symm, HB.out⟩
set_option maxHeartbeats 8000000 in
set_option maxRecDepth 100000 in
theorem rsame_any (A B : List Su) (qa qb : Option Addr) (ca cb : Nat) (hA : A.length ≤ 1000000) (w : World) (ha : Sees w w.heap.size qa (rowU A)) (hb : Sees w w.heap.size qb (rowU B)) :
    Calls Tryd.prog 28 #[.slice qa A.length ca, .slice qb B.length cb] w fun e w' => e = .returned (.bool (decide (A = B))) ∧ Below w.heap.size w w' := by
  by_cases hl : A.length = B.length
  · have HSA := Lib.hid ha
    have HSB := Lib.hid hb
    have HLL := Lib.hid hl
    clear ha hb
    rw [← hl]
    generalize hn : A.length = n at *
    have HN := Lib.hid hn
    clear hn hl
    go_enter Tryd.func28, Tryd.ntmps28
    go_wp2_with fail
    go_loopw [5] (fun v wr => ∃ i : Nat, i ≤ n ∧ v = .int .i64 i ∧ (∀ k (h1 : k < A.length) (h2 : k < B.length), k < i → A[k] = B[k]) ∧ Below w.heap.size w wr) (fun v _ => n - (intOf v).toNat)
    case atStart => exact ⟨0, by omega, rfl, fun k _ _ h => by omega, Below.refl _ _⟩
    case round =>
      rename_i wr
      obtain ⟨i, hi, rfl, hall, hB⟩ := hrel
      have HALL := Lib.hid hall
      have HB := Lib.hid hB
      clear hall hB
      by_cases hlt : i < n
      · have hiA : i < A.length := by rw [HN.out]; exact hlt
        have hiB : i < B.length := by rw [← HLL.out]; exact hlt
        obtain ⟨a, rfl, _, hc⟩ := Ss.el HSA.out hiA
        obtain ⟨b, rfl, _, hc2⟩ := Ss.el HSB.out hiB
        have HNEW : Hid (A[i] = B[i] → ∀ k (h1 : k < A.length) (h2 : k < B.length), k < i + 1 → A[k] = B[k]) := Lib.hid (fun h k h1 h2 hk => by
          by_cases e : k = i
          · subst e; exact h
          · exact HALL.out k h1 h2 (by omega))
        have HBAD : Hid (A[i] ≠ B[i] → decide (A = B) = false) := Lib.hid (fun h => decide_eq_false fun e => h (by subst e; rfl))
        generalize A[i] = x at *
        generalize B[i] = y at *
        have HC := Lib.hid hc
        have HC2 := Lib.hid hc2
        have k1 : (i : Int) < (n : Int) := by omega
        clear hc hc2
        go_wp2_with fail
        refine wp_region_org [(0, true), (1, true), (2, true), (3, true), (4, true), (5, true), (6, true), (7, true), (8, true)] (by kernel_rfl) (by kernel_rfl) (by kernel_rfl) ?_
        replace HB := Lib.hid HB.out.drew
        generalize wr.drew = wd at *
        simp only [pickOrs, List.getElem?_cons_zero, List.getElem?_cons_succ]
        refine org_pure (v := ?_) (by kernel_rfl) ?_ ?_
        rotate_left
        · intro w' hv; clear hv; go_simp; try with_reducible rfl
        try simp only [Act.put, List.setIfInBounds_toArray, List.set_cons_zero, List.set_cons_succ]
        refine org_pure (v := ?_) (by kernel_rfl) ?_ ?_
        rotate_left
        · intro w' hv; clear hv; go_simp; try with_reducible rfl
        try simp only [Act.put, List.setIfInBounds_toArray, List.set_cons_zero, List.set_cons_succ]
        refine org_pure (v := ?_) (by kernel_rfl) ?_ ?_
        rotate_left
        · intro w' hv; clear hv; go_simp; try with_reducible rfl
        try simp only [Act.put, List.setIfInBounds_toArray, List.set_cons_zero, List.set_cons_succ]
        refine org_pure (by kernel_rfl) (fun w' hv => load_su 35 (.tmp 19) rfl _ rfl elRef.2.1 szRef x ((fun w' hv => HC.out w' (HB.out.trans (Below.mono hv HB.out.size))) w' hv)) ?_
        try simp only [Act.put, List.setIfInBounds_toArray, List.set_cons_zero, List.set_cons_succ]
        refine org_pure (v := ?_) (by kernel_rfl) ?_ ?_
        rotate_left
        · intro w' hv; clear hv; go_simp; try with_reducible rfl
        try simp only [Act.put, List.setIfInBounds_toArray, List.set_cons_zero, List.set_cons_succ]
        refine org_pure (v := ?_) (by kernel_rfl) ?_ ?_
        rotate_left
        · intro w' hv; clear hv; go_simp; try with_reducible rfl
        try simp only [Act.put, List.setIfInBounds_toArray, List.set_cons_zero, List.set_cons_succ]
        refine org_pure (v := ?_) (by kernel_rfl) ?_ ?_
        rotate_left
        · intro w' hv; clear hv; go_simp; try with_reducible rfl
        try simp only [Act.put, List.setIfInBounds_toArray, List.set_cons_zero, List.set_cons_succ]
        refine org_pure (by kernel_rfl) (fun w' hv => load_su 35 (.tmp 23) rfl _ rfl elRef.2.1 szRef y ((fun w' hv => HC2.out w' (HB.out.trans (Below.mono hv HB.out.size))) w' hv)) ?_
        try simp only [Act.put, List.setIfInBounds_toArray, List.set_cons_zero, List.set_cons_succ]
        refine org_pure (by kernel_rfl) (fun w' hv => neq_su 35 (.tmp 20) (.tmp 24) _ rfl x y rfl rfl elRef.2.1 gdRef) ?_
        try simp only [Act.put, List.setIfInBounds_toArray, List.set_cons_zero, List.set_cons_succ]
        refine org_nil ?_
        by_cases hxy : x = y
        · have HN2 := Lib.hid (HNEW.out hxy)
          rw [decide_eq_true hxy]
          clear HNEW HBAD hxy
          go_wp2_with fail
          go_roundw
          case rel => exact ⟨i + 1, by omega, by go_num, HN2.out, HB.out⟩
          case measure => simp [intOf]; omega
        · have HN2 := Lib.hid (HBAD.out hxy)
          rw [decide_eq_false hxy]
          clear HNEW HBAD hxy
          go_wp2_with fail
          go_ret
          exact ⟨congrArg (fun b => Ending.returned (.bool b)) HN2.out.symm, HB.out⟩
      · have hil : i = n := by omega
        subst hil
        have HR : Hid (decide (A = B) = true) := Lib.hid (decide_eq_true (eq_at (by rw [HN.out]; exact HLL.out) fun k h1 h2 => HALL.out k h1 h2 (by rw [← HN.out]; exact h1)))
        have k1 : ¬ (i : Int) < (i : Int) := by omega
        go_wp2_with fail
        go_ret
        exact ⟨congrArg (fun b => Ending.returned (.bool b)) HR.out.symm, HB.out⟩
  · have k1 : ¬ (A.length : Int) = (B.length : Int) := by omega
    have HR : Hid (decide (A = B) = false) := Lib.hid (decide_eq_false fun e => hl (by rw [e]))
    clear ha hb hl
    generalize A.length = n at *
    generalize B.length = m at *
    go_enter Tryd.func28, Tryd.ntmps28
    go_wp2_with fail
    go_ret
    exact ⟨congrArg (fun b => Ending.returned (.bool b)) HR.out.symm, Below.refl _ _⟩
set_option maxHeartbeats 8000000 in
set_option maxRecDepth 100000 in
theorem rhas_any (L : List Su) (x : Su) (q : Option Addr) (c : Nat) (hm : L.length ≤ 1000000) (w : World) (hs : Sees w w.heap.size q (rowU L)) :
    Calls Tryd.prog 32 #[.slice q L.length c, .agg (encU x).toArray] w fun e w' => e = .returned (.bool (decide (x ∈ L))) ∧ Below w.heap.size w w' := by
  have HS := Lib.hid hs
  have HW0 := Lib.hid ((Below.refl w.heap.size w).alloc (Nat.le_refl _) (.cells (encU x).toArray 35))
  have HX0 : Hid (Has (w.alloc (.cells (encU x).toArray 35)) w.heap.size 35 (encU x)) := Lib.hid (Has.made' w _ _ _ rfl)
  clear hs
  go_enter Tryd.func32, Tryd.ntmps32
  go_wp2_with fail
  generalize w.alloc (.cells (encU x).toArray 35) = w0 at *
  have HXX : Hid (∀ w', Below w0.heap.size w0 w' → ∀ j u, (encU x)[j]? = some u → w'.cell? ((⟨w.heap.size, 0, none⟩ : Addr).add j) = some u) := Lib.hid (fun w' hb j u hu => by rw [add_lit', Nat.zero_add]; exact (HX0.out.keep hb HX0.out.lt).cellv hu)
  generalize hn : L.length = n at *
  have HN := Lib.hid hn
  clear hn HX0
  go_loopw [5] (fun v wr => ∃ i : Nat, i ≤ n ∧ v = .int .i64 i ∧ (∀ k (h1 : k < L.length), k < i → L[k] ≠ x) ∧ Below w0.heap.size w0 wr) (fun v _ => n - (intOf v).toNat)
  case atStart => exact ⟨0, by omega, rfl, fun k _ h => by omega, Below.refl _ _⟩
  case round =>
    rename_i wr
    obtain ⟨i, hi, rfl, hall, hB⟩ := hrel
    have HALL := Lib.hid hall
    have HB := Lib.hid hB
    clear hall hB
    by_cases hlt : i < n
    · have hiL : i < L.length := by rw [HN.out]; exact hlt
      obtain ⟨a, rfl, _, hc⟩ := Ss.el HS.out hiL
      have HNEW : Hid (L[i] ≠ x → ∀ k (h1 : k < L.length), k < i + 1 → L[k] ≠ x) := Lib.hid (fun h k h1 hk => by
        by_cases e : k = i
        · subst e; exact h
        · exact HALL.out k h1 (by omega))
      have HIN : Hid (L[i] ∈ L) := Lib.hid (List.getElem_mem hiL)
      generalize L[i] = y at *
      have HC : Hid (∀ w', Below w0.heap.size w0 w' → ∀ j u, (encU y)[j]? = some u → w'.cell? ((a.add (i * 32)).add j) = some u) := Lib.hid (fun w' hb => hc w' (HW0.out.trans (hb.mono HW0.out.size)))
      have k1 : (i : Int) < (n : Int) := by omega
      clear hc
      go_wp2_with fail
      refine wp_region_org [(0, true), (1, true), (2, true), (3, true), (4, true), (5, true)] (by kernel_rfl) (by kernel_rfl) (by kernel_rfl) ?_
      replace HB := Lib.hid HB.out.drew
      generalize wr.drew = wd at *
      simp only [pickOrs, List.getElem?_cons_zero, List.getElem?_cons_succ]
      refine org_pure (v := ?_) (by kernel_rfl) ?_ ?_
      rotate_left
      · intro w' hv; clear hv; go_simp; try with_reducible rfl
      try simp only [Act.put, List.setIfInBounds_toArray, List.set_cons_zero, List.set_cons_succ]
      refine org_pure (v := ?_) (by kernel_rfl) ?_ ?_
      rotate_left
      · intro w' hv; clear hv; go_simp; try with_reducible rfl
      try simp only [Act.put, List.setIfInBounds_toArray, List.set_cons_zero, List.set_cons_succ]
      refine org_pure (v := ?_) (by kernel_rfl) ?_ ?_
      rotate_left
      · intro w' hv; clear hv; go_simp; try with_reducible rfl
      try simp only [Act.put, List.setIfInBounds_toArray, List.set_cons_zero, List.set_cons_succ]
      refine org_pure (by kernel_rfl) (fun w' hv => load_su 35 (.tmp 14) rfl _ rfl elRef.2.1 szRef y ((fun w' hv => HC.out w' (HB.out.trans (Below.mono hv HB.out.size))) w' hv)) ?_
      try simp only [Act.put, List.setIfInBounds_toArray, List.set_cons_zero, List.set_cons_succ]
      refine org_pure (by kernel_rfl) (fun w' hv => load_su 35 (.tmp 3) rfl _ rfl elRef.2.1 szRef x ((fun w' hv => HXX.out w' (HB.out.trans (Below.mono hv HB.out.size))) w' hv)) ?_
      try simp only [Act.put, List.setIfInBounds_toArray, List.set_cons_zero, List.set_cons_succ]
      refine org_pure (by kernel_rfl) (fun w' hv => eql_su 35 (.tmp 15) (.tmp 16) _ rfl y x rfl rfl elRef.2.1 gdRef) ?_
      try simp only [Act.put, List.setIfInBounds_toArray, List.set_cons_zero, List.set_cons_succ]
      refine org_nil ?_
      by_cases hxy : y = x
      · have HR : Hid (decide (x ∈ L) = true) := Lib.hid (decide_eq_true (hxy ▸ HIN.out))
        rw [decide_eq_true hxy]
        clear HNEW HIN hxy
        go_wp2_with fail
        go_ret
        exact ⟨congrArg (fun b => Ending.returned (.bool b)) HR.out.symm, HW0.out.trans (HB.out.mono HW0.out.size)⟩
      · have HN2 := Lib.hid (HNEW.out hxy)
        rw [decide_eq_false hxy]
        clear HNEW HIN hxy
        go_wp2_with fail
        go_roundw
        case rel => exact ⟨i + 1, by omega, by go_num, HN2.out, HB.out⟩
        case measure => simp [intOf]; omega
    · have HR : Hid (decide (x ∈ L) = false) := Lib.hid (decide_eq_false fun hm => by
        obtain ⟨k, hk, e⟩ := List.mem_iff_getElem.1 hm
        exact HALL.out k hk (by have := HN.out; omega) e)
      have k1 : ¬ (i : Int) < (n : Int) := by omega
      go_wp2_with fail
      go_ret
      exact ⟨congrArg (fun b => Ending.returned (.bool b)) HR.out.symm, HW0.out.trans (HB.out.mono HW0.out.size)⟩
end Go.Proofs.YtihkbblapfjobaaDoor
/- A drawn region in which three operations interleave (the second behind the first, the third wherever), with pure ones ahead and a chain behind; rows of sums put together so. No condition. -/
namespace Go.Proofs.YtihkbblapfjobaaDoor
open Go.RowKit
section
variable {P : Program} {md : Region.Mode} {ops : Array Oper} {Q : Exit → Act → World → Prop}
theorem wanted_plain {o : Oper} (h : o.guard = none) (y : Nat → Option Bool) : Region.wanted o y = true := by unfold Region.wanted; rw [h]
theorem wpOp_plain {i : Nat} {o : Oper} {K : Act → World → Prop} {a : Act} {w : World} (ho : ops[i]? = some o) (hg : o.guard = none) (h : o.wp P a w K Q) : wpOp P ops Q i K a w := by
  unfold wpOp
  rw [ho]
  show if _ then _ else _
  rw [if_pos (wanted_plain hg _)]
  exact .inl h
/-- An operation leaves these worlds, with this value. -/
def Leaves (P : Program) (Q : Exit → Act → World → Prop) (S : World → Prop) (o : Oper) (a : Act) (w : World) (R : Value → World → Prop) : Prop :=
  ∀ K : Act → World → Prop, (∀ v w1, S w1 → R v w1 → K (a.put o.dst v) w1) → o.wp P a w K Q
theorem wpAnyH_tri {S : World → Prop} {fuel : Nat} {listed : Array Bool} {a : Act} {w : World} (i j k : Nat) (oi oj ok : Oper)
    (hi : ops[i]? = some oi) (hj : ops[j]? = some oj) (hk : ops[k]? = some ok) (gi : oi.guard = none) (gj : oj.guard = none) (gk : ok.guard = none)
    (nik : i ≠ k) (njk : j ≠ k)
    (b0 : Region.ready md ops listed = [i, k]) (b1 : Region.ready md ops (listed.setIfInBounds i true) = [j, k])
    (b2 : Region.ready md ops ((listed.setIfInBounds i true).setIfInBounds j true) = [k]) (b3 : Region.ready md ops ((listed.setIfInBounds i true).setIfInBounds k true) = [j])
    (b4 : Region.ready md ops (listed.setIfInBounds k true) = [i])
    (Si Sk Sj : Value → World → Prop) (Sik F : Value → Value → World → Prop)
    (cik : ∀ v u, (a.put ok.dst u).put oi.dst v = (a.put oi.dst v).put ok.dst u)
    (ckj : ∀ v v' u, (((a.put oi.dst v).put ok.dst u).put oj.dst v') = (((a.put oi.dst v).put oj.dst v').put ok.dst u))
    (h1 : Leaves P Q S oi a w Si) (h2 : Leaves P Q S ok a w Sk)
    (h3 : ∀ v w1, Si v w1 → Leaves P Q S oj (a.put oi.dst v) w1 Sj)
    (h4 : ∀ v w1, Si v w1 → Leaves P Q S ok (a.put oi.dst v) w1 (Sik v))
    (h5 : ∀ u w1, Sk u w1 → Leaves P Q S oi (a.put ok.dst u) w1 (fun v => Sik v u))
    (h6 : ∀ v v' w1, Sj v' w1 → Leaves P Q S ok ((a.put oi.dst v).put oj.dst v') w1 (F v'))
    (h7 : ∀ v u w1, Sik v u w1 → Leaves P Q S oj ((a.put oi.dst v).put ok.dst u) w1 (fun v' => F v' u))
    (h : ∀ v v' u w', S w' → F v' u w' → wpAnyH P md ops Q S fuel (((listed.setIfInBounds i true).setIfInBounds j true).setIfInBounds k true) (((a.put oi.dst v).put oj.dst v').put ok.dst u) w') :
    wpAnyH P md ops Q S (fuel + 3) listed a w := by
  have sjk : (listed.setIfInBounds i true).setIfInBounds k true = (listed.setIfInBounds k true).setIfInBounds i true := Array.setIfInBounds_comm _ _ nik
  have sijk : (((listed.setIfInBounds i true).setIfInBounds k true).setIfInBounds j true) = (((listed.setIfInBounds i true).setIfInBounds j true).setIfInBounds k true) := Array.setIfInBounds_comm _ _ (Ne.symm njk)
  have hikj : ∀ v u w1, Sik v u w1 → wpAnyH P md ops Q S (fuel + 1) ((listed.setIfInBounds i true).setIfInBounds k true) ((a.put oi.dst v).put ok.dst u) w1 := fun v u w1 s => by
    refine wpAnyH_all b3 (by simp) fun x hx => ?_
    obtain rfl : x = j := by simpa using hx
    refine wpOp_plain hj gj (h7 v u w1 s _ fun v' w2 e2 f => ?_)
    rw [ckj, sijk]
    exact ⟨e2, h v v' u w2 e2 f⟩
  refine wpAnyH_all b0 (by simp) fun x hx => ?_
  rcases (show x = i ∨ x = k by simpa using hx) with rfl | rfl
  · refine wpOp_plain hi gi (h1 _ fun v w1 e1 s1 => ⟨e1, ?_⟩)
    refine wpAnyH_all b1 (by simp) fun y hy => ?_
    rcases (show y = j ∨ y = k by simpa using hy) with rfl | rfl
    · refine wpOp_plain hj gj (h3 v w1 s1 _ fun v' w2 e2 s2 => ⟨e2, ?_⟩)
      refine wpAnyH_all b2 (by simp) fun z hz => ?_
      obtain rfl : z = k := by simpa using hz
      exact wpOp_plain hk gk (h6 v v' w2 s2 _ fun u w3 e3 f => ⟨e3, h v v' u w3 e3 f⟩)
    · exact wpOp_plain hk gk (h4 v w1 s1 _ fun u w2 e2 s2 => ⟨e2, hikj v u w2 s2⟩)
  · refine wpOp_plain hk gk (h2 _ fun u w1 e1 s1 => ⟨e1, ?_⟩)
    refine wpAnyH_all b4 (by simp) fun y hy => ?_
    obtain rfl : y = i := by simpa using hy
    refine wpOp_plain hi gi (h5 u w1 s1 _ fun v w2 e2 s2 => ⟨e2, ?_⟩)
    rw [cik, ← sjk]
    exact hikj v u w2 s2
/-- A chain: each operation alone may be next. -/
def chB (md : Region.Mode) (ops : Array Oper) : List Nat → Array Bool → Bool
  | [], listed => (Region.ready md ops listed).isEmpty
  | i :: r, listed => decide (Region.ready md ops listed = [i]) && chB md ops r (listed.setIfInBounds i true)
def wpCh (P : Program) (Q : Exit → Act → World → Prop) (S : World → Prop) : List Oper → Act → World → Prop
  | [], a, w => Q .normal a w
  | o :: r, a, w => o.guard = none ∧ ∃ R : Value → World → Prop, Leaves P Q S o a w R ∧ ∀ v w', S w' → R v w' → wpCh P Q S r (a.put o.dst v) w'
/-- A run of pure operations at a region's head. -/
def purB (md : Region.Mode) (ops : Array Oper) : List Nat → Array Bool → Bool
  | [], _ => true
  | i :: r, listed => Region.free md ops listed i && ((Region.ready md ops listed).contains i && purB md ops r (listed.setIfInBounds i true))
def setAll : List Nat → Array Bool → Array Bool
  | [], l => l
  | i :: r, l => setAll r (l.setIfInBounds i true)
def wpPur (P : Program) (ops : Array Oper) (w : World) (K : Act → Prop) : List Oper → Act → Prop
  | [], a => K a
  | o :: r, a => ∃ v, YieldsIf P ops (Ext w) o v a ∧ wpPur P ops w K r (a.put o.dst v)
def pickPur (l : List Oper) : List Nat → List Oper
  | [] => []
  | i :: r => match l[i]? with
    | some o => o :: pickPur l r
    | none => pickPur l r
theorem wpAnyH_pur (hs : Region.noSelect ops = true) (hQ : ∀ c a d v w, Q (.panic c) (a.put d v) w → Q (.panic c) a w) (fuel : Nat) :
    ∀ (l : List Nat) (listed : Array Bool) (a : Act) (w : World), purB md ops l listed = true → (l.all fun x => decide (x < ops.size)) = true →
      wpPur P ops w (fun a' => wpAnyH P md ops Q (Ext w) fuel (setAll l listed) a' w) (pickPur ops.toList l) a → wpAnyH P md ops Q (Ext w) (fuel + l.length) listed a w
  | [], _, _, _, _, _, h => h
  | i :: r, listed, a, w, hB, hl, h => by
    simp only [List.all_cons, Bool.and_eq_true, decide_eq_true_eq] at hl
    have ho : ops.toList[i]? = some ops[i] := by simp [hl.1]
    have ho' : ops[i]? = some ops[i] := by simp [hl.1]
    rw [pickPur, ho] at h
    obtain ⟨v, hy, hr⟩ := h
    simp only [purB, Bool.and_eq_true] at hB
    exact wpAnyH_take ho' hs hB.1 hB.2.1 (fun c a w => hQ c a _ v w) hy (Ext.refl w) (wpAnyH_pur hs hQ fuel r _ _ _ hB.2.2 hl.2 hr)
theorem wpAnyH_ch {S : World → Prop} : ∀ (l : List Nat) (fuel : Nat) (listed : Array Bool) (a : Act) (w : World), l.length ≤ fuel → chB md ops l listed = true → (l.all fun x => decide (x < ops.size)) = true →
      wpCh P Q S (pickPur ops.toList l) a w → wpAnyH P md ops Q S fuel listed a w
  | [], fuel, listed, a, w, _, hB, _, h => wpAnyH_done (by simpa [chB] using hB) h fuel
  | i :: r, 0, _, _, _, hl, _, _, _ => absurd hl (by simp)
  | i :: r, fuel + 1, listed, a, w, hl, hB, ha, h => by
    simp only [List.all_cons, Bool.and_eq_true, decide_eq_true_eq] at ha
    have ho : ops.toList[i]? = some ops[i] := by simp [ha.1]
    have ho' : ops[i]? = some ops[i] := by simp [ha.1]
    rw [pickPur, ho] at h
    obtain ⟨hg, R, h1, h2⟩ := h
    simp only [chB, Bool.and_eq_true, decide_eq_true_eq] at hB
    refine wpAnyH_all hB.1 (by simp) fun x hx => ?_
    obtain rfl : x = i := by simpa using hx
    exact wpOp_plain ho' hg (h1 _ fun v w' hs hr => ⟨hs, wpAnyH_ch r fuel _ _ _ (by simpa using hl) hB.2 ha.2 (h2 v w' hs hr)⟩)
theorem ch_step {S : World → Prop} {o : Oper} {r : List Oper} {a : Act} {w : World} (hg : o.guard = none) (R : Value → World → Prop) (h1 : Leaves P Q S o a w R) (h2 : ∀ v w', S w' → R v w' → wpCh P Q S r (a.put o.dst v) w') : wpCh P Q S (o :: r) a w := ⟨hg, R, h1, h2⟩
theorem ch_pure {S : World → Prop} {o : Oper} {r : List Oper} {a : Act} {w : World} {v : Value} (hg : o.guard = none) (hS : S w) (hy : (execOp a.eval o).run P w = .ok (.value v) w) (h : wpCh P Q S r (a.put o.dst v) w) : wpCh P Q S (o :: r) a w :=
  ⟨hg, fun u w' => u = v ∧ w' = w, fun K hK => by unfold Oper.wp; rw [hy]; exact hK _ _ hS ⟨rfl, rfl⟩, by rintro _ _ _ ⟨rfl, rfl⟩; exact h⟩
theorem ch_nil {S : World → Prop} {a : Act} {w : World} (h : Q .normal a w) : wpCh P (NoPanic Q) S [] a w := h
theorem pur_step {o : Oper} {r : List Oper} {a : Act} {w : World} {K : Act → Prop} {v : Value} (hw : Region.wanted o (yielded ops a.tmps) = true)
    (hy : ∀ w', Ext w w' → (execOp a.eval o).run P w' = .ok (.value v) w') (h : wpPur P ops w K r (a.put o.dst v)) : wpPur P ops w K (o :: r) a := ⟨v, .inl ⟨hw, hy⟩, h⟩
theorem pur_nil {a : Act} {w : World} {K : Act → Prop} (h : K a) : wpPur P ops w K [] a := h
end
theorem wpPur_mono {P : Program} {ops : Array Oper} {w : World} {K K' : Act → Prop} (hK : ∀ a, K a → K' a) : ∀ (l : List Oper) (a : Act), wpPur P ops w K l a → wpPur P ops w K' l a
  | [], a, h => hK a h
  | _ :: r, _, h => by
    obtain ⟨v, hy, hr⟩ := h
    exact ⟨v, hy, wpPur_mono hK r _ hr⟩
/-- What the three of them ask and leave. -/
def TriGoal (P : Program) (Q : Exit → Act → World → Prop) (oi oj ok : Oper) (S : World → Prop) (C : Act → World → Prop) (w : World) (a : Act) : Prop :=
  ∃ (Si Sk Sj : Value → World → Prop) (Sik F : Value → Value → World → Prop),
    Leaves P Q S oi a w Si ∧ Leaves P Q S ok a w Sk ∧
    (∀ v w1, Si v w1 → Leaves P Q S oj (a.put oi.dst v) w1 Sj) ∧
    (∀ v w1, Si v w1 → Leaves P Q S ok (a.put oi.dst v) w1 (Sik v)) ∧
    (∀ u w1, Sk u w1 → Leaves P Q S oi (a.put ok.dst u) w1 (fun v => Sik v u)) ∧
    (∀ v v' w1, Sj v' w1 → Leaves P Q S ok ((a.put oi.dst v).put oj.dst v') w1 (F v')) ∧
    (∀ v u w1, Sik v u w1 → Leaves P Q S oj ((a.put oi.dst v).put ok.dst u) w1 (fun v' => F v' u)) ∧
    ∀ v v' u w', S w' → F v' u w' → C (((a.put oi.dst v).put oj.dst v').put ok.dst u) w'
def triB (q : Array Oper) (l : List Nat) (i j k : Nat) (l2 : List Nat) : Bool :=
  let l0 := setAll l (Array.replicate q.size false)
  (decide (q.size = l2.length + 3 + l.length) && (purB .any q l (Array.replicate q.size false) && l.all fun x => decide (x < q.size))) &&
  ((decide (Region.ready .any q l0 = [i, k]) && decide (Region.ready .any q (l0.setIfInBounds i true) = [j, k])) &&
  ((decide (Region.ready .any q ((l0.setIfInBounds i true).setIfInBounds j true) = [k]) && decide (Region.ready .any q ((l0.setIfInBounds i true).setIfInBounds k true) = [j])) &&
  (decide (Region.ready .any q (l0.setIfInBounds k true) = [i]) && (chB .any q l2 (((l0.setIfInBounds i true).setIfInBounds j true).setIfInBounds k true) && l2.all fun x => decide (x < q.size)))))
theorem wp_region_tri {P : Program} {Q : Exit → Act → World → Prop} {id : Nat} {a : Act} {w : World} {lo : List Oper} (l : List Nat) (i j k : Nat) (l2 : List Nat) (oi oj ok : Oper)
    (hi : lo[i]? = some oi) (hj : lo[j]? = some oj) (hk : lo[k]? = some ok) (gi : oi.guard = none) (gj : oj.guard = none) (gk : ok.guard = none) (nik : i ≠ k) (njk : j ≠ k)
    (di : ∀ d, ok.dst = some d → oi.dst ≠ some d) (dj : ∀ d, ok.dst = some d → oj.dst ≠ some d)
    (hm : P.follows .mixedOrders = true) (hs : Region.noSelect lo.toArray = true) (q : Array Oper) (hB : triB q l i j k l2 = true) (hq : lo.toArray = q)
    (h : wpPur P lo.toArray w.drew (TriGoal P (NoPanic Q) oi oj ok (Ext w.drew) (wpCh P (NoPanic Q) (Ext w.drew) (pickPur lo l2)) w.drew) (pickPur lo l) a) : (Code.region id lo.toArray true).wp P Q a w := by
  subst hq
  unfold triB at hB
  simp only [Bool.and_eq_true, decide_eq_true_eq] at hB
  obtain ⟨⟨b0, b1, b2⟩, ⟨b3, b4⟩, ⟨b5, b6⟩, b7, b8, b9⟩ := hB
  refine wp_region_noPanic (wp_region_held_drew (S := Ext w.drew) hm (Ext.refl _) fun _ => ?_)
  have hi' : lo.toArray[i]? = some oi := by simpa using hi
  have hj' : lo.toArray[j]? = some oj := by simpa using hj
  have hk' : lo.toArray[k]? = some ok := by simpa using hk
  refine (congrArg (fun n => wpAnyH P .any lo.toArray (NoPanic Q) (Ext w.drew) n (Array.replicate lo.toArray.size false) a w.drew) b0).mpr ?_
  refine wpAnyH_pur hs (fun _ _ _ _ _ h => h) _ l _ _ _ b1 b2 ?_
  refine wpPur_mono (fun a' h' => ?_) _ _ h
  obtain ⟨Si, Sk, Sj, Sik, F, h1, h2, h3, h4, h5, h6, h7, h8⟩ := h'
  exact wpAnyH_tri i j k oi oj ok hi' hj' hk' gi gj gk nik njk b3 b4 b5 b6 b7 Si Sk Sj Sik F (fun v u => Act.put_comm _ u v di) (fun v v' u => Act.put_comm _ u v' dj) h1 h2 h3 h4 h5 h6 h7 fun v v' u w' e f =>
    wpAnyH_ch l2 _ _ _ _ (Nat.le_refl _) b8 b9 (h8 v v' u w' e f)
theorem Has.grown {w w' : World} {g : Nat} {t : TypeId} {l : List Value} {row : Option Nat} (h : Has w g t l) (hg : w.grownBy w' row) (hne : some g ≠ row) : Has w' g t l := (hg.block g h.lt hne).trans h
theorem ext_alloc (w : World) (o : Obj) : Ext w (w.alloc o) := (Below.refl _ _).alloc (Nat.le_refl _) o
theorem ext_grownU {b : Nat} {w w' : World} {v : Value} {E : TypeId} {L : List Su} (hb : b ≤ w.heap.size) (hg : w.grownBy w' v.ownBlock) (ho : OwnU w b E v L) : Below b w w' :=
  (Below.refl b w).grown hg hb (fun k hk => ho.base k hk)
/-- A row of none, some sums put behind it, one sum's own row: in whatever order. -/
theorem tri_goalU {Q : Exit → Act → World → Prop} {oi oj ok : Oper} {C : Act → World → Prop} {a : Act} {w : World} (T E : TypeId) (hT : ElT T E) (s x y : Operand)
    (hoi : oi.op = .buildSlice T 0 #[]) (hoj : oj.op = .call { callee := .builtin .append, args := #[s, x], argTypes := #[T, T] }) (hok : ok.op = .buildSlice T 1 #[(0, y)])
    (q : Option Addr) (l : List Su) (m cap : Nat) (b : Su) (hm : l.length = m) (hq : q = none → cap = 0) (hn : m ≤ 4000000) (hsee : Sees w w.heap.size q (rowU l))
    (es : ∀ v, (a.put oi.dst v).eval s = v) (es2 : ∀ v u, ((a.put oi.dst v).put ok.dst u).eval s = v)
    (ex : ∀ v, (a.put oi.dst v).eval x = .slice q m cap) (ex2 : ∀ v u, ((a.put oi.dst v).put ok.dst u).eval x = .slice q m cap)
    (ey : a.eval y = .agg (encU b).toArray) (ey2 : ∀ v, (a.put oi.dst v).eval y = .agg (encU b).toArray) (ey3 : ∀ v v', ((a.put oi.dst v).put oj.dst v').eval y = .agg (encU b).toArray)
    (h : ∀ v v' u w', Ext w w' → OwnU w' w.heap.size E v' l → (∃ g, u = .slice (some ⟨g, 0, none⟩) 1 1 ∧ Has w' g E (encU b)) → C (((a.put oi.dst v).put oj.dst v').put ok.dst u) w') :
    TriGoal Tryd.prog Q oi oj ok (Ext w) C w a := by
  have new : ∀ (w1 : World), Has (w1.alloc (.cells (encU b).toArray E)) w1.heap.size E (encU b) := fun w1 => Has.made' w1 _ _ _ rfl
  have ext : ∀ (w1 : World) (o : Obj), Ext w w1 → Ext w (w1.alloc o) := fun w1 o h => Below.alloc h h.size o
  refine ⟨fun v w1 => OwnU w1 w.heap.size E v [] ∧ Ext w w1, fun u w1 => (∃ g, u = .slice (some ⟨g, 0, none⟩) 1 1 ∧ Has w1 g E (encU b)) ∧ Ext w w1,
    fun v' w1 => OwnU w1 w.heap.size E v' l ∧ Ext w w1,
    fun v u w1 => OwnU w1 w.heap.size E v [] ∧ (∃ g, u = .slice (some ⟨g, 0, none⟩) 1 1 ∧ Has w1 g E (encU b) ∧ some g ≠ v.ownBlock) ∧ Ext w w1,
    fun v' u w1 => OwnU w1 w.heap.size E v' l ∧ (∃ g, u = .slice (some ⟨g, 0, none⟩) 1 1 ∧ Has w1 g E (encU b)), ?_, ?_, ?_, ?_, ?_, ?_, ?_, ?_⟩
  · exact fun K hK => wp_none_su T E hT hoi (hK _ _ (ext _ _ (Ext.refl w)) ⟨OwnU.empty w _ E (Nat.le_refl _), ext _ _ (Ext.refl w)⟩)
  · exact fun K hK => wp_one_su T E hT y hok b ey (hK _ _ (ext _ _ (Ext.refl w)) ⟨⟨_, rfl, new w⟩, ext _ _ (Ext.refl w)⟩)
  · rintro v w1 ⟨ho, he⟩ K hK
    refine wp_append_su T E hT s x hoj w.heap.size v [] (es v) ho q l m cap w.heap.size hm (ex v) hq (hsee.keep he) (by simpa using hn) he.size fun v' w2 h1 h2 => ?_
    have hb := Below.trans he (ext_grownU he.size h2 ho)
    exact hK _ _ hb ⟨by simpa using h1, hb⟩
  · rintro v w1 ⟨ho, he⟩ K hK
    exact wp_one_su T E hT y hok b (ey2 v) (hK _ _ (ext _ _ he) ⟨World.ownsRow.alloc ho _, ⟨_, rfl, new w1, fun e => by have := (World.ownsRow.lt ho _ e.symm).2; omega⟩, ext _ _ he⟩)
  · rintro u w1 ⟨⟨g, rfl, hc⟩, he⟩ K hK
    have hg := hc.lt
    refine wp_none_su T E hT hoi (hK _ _ (ext _ _ he) ⟨OwnU.empty w1 _ E he.size, ⟨g, rfl, hc.alloc _, fun e => ?_⟩, ext _ _ he⟩)
    injection e with e
    have e2 : g = w1.heap.size := e
    omega
  · rintro v v' w1 ⟨ho, he⟩ K hK
    exact wp_one_su T E hT y hok b (ey3 v v') (hK _ _ (ext _ _ he) ⟨World.ownsRow.alloc ho _, ⟨_, rfl, new w1⟩⟩)
  · rintro v u w1 ⟨ho, ⟨g, rfl, hc, hne⟩, he⟩ K hK
    refine wp_append_su T E hT s x hoj w.heap.size v [] (es2 v _) ho q l m cap w.heap.size hm (ex2 v _) hq (hsee.keep he) (by simpa using hn) he.size fun v' w2 h1 h2 => ?_
    exact hK _ _ (Below.trans he (ext_grownU he.size h2 ho)) ⟨by simpa using h1, ⟨g, rfl, hc.grown h2 hne⟩⟩
  · rintro v v' u w' e ⟨h1, h2⟩
    exact h v v' u w' e h1 h2
/-- Sums put behind a row of the call's own. -/
theorem leaves_moreU {Q : Exit → Act → World → Prop} {o : Oper} {a : Act} {w0 w : World} (T E : TypeId) (hT : ElT T E) (s x : Operand) (ho : o.op = .call { callee := .builtin .append, args := #[s, x], argTypes := #[T, T] })
    (v : Value) (L : List Su) (hs : a.eval s = v) (hown : OwnU w w0.heap.size E v L) (he : Ext w0 w)
    (q : Option Addr) (l : List Su) (m cap b : Nat) (hm : l.length = m) (hx : a.eval x = .slice q m cap) (hq : q = none → cap = 0) (hl : Sees w b q (rowU l)) (hbytes : L.length + m ≤ 4000000) :
    Leaves Tryd.prog Q (Ext w0) o a w (fun v' w' => OwnU w' w0.heap.size E v' (L ++ l)) := fun _ hK =>
  wp_append_su T E hT s x ho w0.heap.size v L hs hown q l m cap b hm hx hq hl hbytes he.size fun _ _ h1 h2 => hK _ _ (Below.trans he (ext_grownU he.size h2 hown)) h1
theorem slice_headU {o : Oper} {a : Act} {w : World} (T E : TypeId) (hT : ElT T E) (x y : Operand) (q : Option Addr) (n c k : Nat) (ho : o.op = .slice T x none (some y) none) (hx : a.eval x = .slice q n c) (hy : a.eval y = .int .i64 (k : Int)) (hk : k ≤ c) :
    (execOp a.eval o).run Tryd.prog w = .ok (.value (.slice q k c)) w := by
  have h := head_su T E hT q n c k hk w
  unfold execOp
  simp [ho, hx, hy, Instr.sliceAt, run_underlying hT.1, h]
theorem slice_tailU {o : Oper} {a : Act} {w : World} (T E : TypeId) (hT : ElT T E) (x y : Operand) (q : Option Addr) (n c k : Nat) (ho : o.op = .slice T x (some y) none none) (hx : a.eval x = .slice q n c) (hy : a.eval y = .int .i64 (k : Int)) (hk : k ≤ n) :
    (execOp a.eval o).run Tryd.prog w = .ok (.value (.slice (if c = k then q else q.map (·.add (k * 32))) (n - k) (c - k))) w := by
  have h := cut_su T E hT q n c k hk w
  unfold execOp
  simp [ho, hx, hy, Instr.sliceAt, run_underlying hT.1, h]
end Go.Proofs.YtihkbblapfjobaaDoor
/- Contract: the document's own Of. Condition: at most 10^5 sums. -/
namespace Go.Proofs.YtihkbblapfjobaaDoor
open Go.RowKit
/-- R is the set of L. -/
def Srtd (L R : List Su) : Prop := AscU R ∧ ∀ x, x ∈ R ↔ x ∈ L
theorem srtd_same {L R : List Su} {x : Su} (h : Srtd L R) (hx : x ∈ R) : Srtd (L ++ [x]) R := ⟨h.1, fun y => by
  rw [List.mem_append, List.mem_singleton]
  constructor
  · intro hy; exact .inl ((h.2 y).1 hy)
  · rintro (h1 | rfl)
    · exact (h.2 y).2 h1
    · exact hx⟩
theorem before_allU {R : List Su} {x : Su} {k : Nat} (h : AscU R) (hk : k < R.length) (h1 : cmpU R[k] x = -1) : ∀ y ∈ R.take (k + 1), cmpU y x = -1 := by
  intro y hy
  obtain ⟨j, hj, rfl⟩ := List.mem_take_iff_getElem.1 hy
  by_cases e : j = k
  · subst e; exact h1
  · have h2 := List.pairwise_iff_getElem.1 h j k (by omega) hk (by omega)
    exact cmpU_ltle h2 (by omega)
theorem after_moreU {R : List Su} {x : Su} {k : Nat} (hk : k < R.length) (h1 : cmpU R[k] x = 1) (h : ∀ y ∈ R.drop (k + 1), cmpU y x = 1) : ∀ y ∈ R.drop k, cmpU y x = 1 := by
  rw [List.drop_eq_getElem_cons hk]
  intro y hy
  rcases List.mem_cons.1 hy with rfl | hy
  · exact h1
  · exact h y hy
theorem srtd_put {L R : List Su} {x : Su} {k : Nat} (h : Srtd L R) (ha : ∀ y ∈ R.drop k, cmpU y x = 1) (hb : ∀ y ∈ R.take k, cmpU y x = -1) : Srtd (L ++ [x]) (R.take k ++ [x] ++ R.drop k) := by
  have hr : AscU (R.take k ++ R.drop k) := by rw [List.take_append_drop]; exact h.1
  obtain ⟨h1, h2, h3⟩ := List.pairwise_append.1 hr
  refine ⟨List.pairwise_append.2 ⟨List.pairwise_append.2 ⟨h1, by simp, fun y hy z hz => ?_⟩, h2, fun y hy z hz => ?_⟩, fun y => ?_⟩
  · rw [List.mem_singleton.1 hz]; exact hb y hy
  · rcases List.mem_append.1 hy with hy | hy
    · exact h3 y hy z hz
    · rw [List.mem_singleton.1 hy]
      have h4 := ha z hz
      have h5 := cmpU_neg x z
      omega
  · have hm : y ∈ R ↔ y ∈ R.take k ∨ y ∈ R.drop k := by rw [← List.mem_append, List.take_append_drop]
    rw [List.mem_append, List.mem_append, List.mem_append, List.mem_singleton]
    constructor
    · rintro ((h4 | rfl) | h4)
      · exact .inl ((h.2 y).1 (hm.2 (.inl h4)))
      · exact .inr rfl
      · exact .inl ((h.2 y).1 (hm.2 (.inr h4)))
    · rintro (h4 | rfl)
      · rcases hm.1 ((h.2 y).2 h4) with h6 | h6
        · exact .inl (.inl h6)
        · exact .inr h6
      · exact .inl (.inr rfl)
noncomputable def ops9r : Array Oper := regOf Tryd.f29.body 9
set_option maxRecDepth 100000 in
theorem chk9r : triB ops9r [1, 2, 3, 5, 6, 7, 8, 11, 12, 13] 0 4 9 [10, 14, 15] = true := by kernel_rfl
set_option maxHeartbeats 16000000 in
set_option maxRecDepth 100000 in
theorem rof0_any (L : List Su) (q : Option Addr) (c : Nat) (hm : L.length ≤ 100000) (w : World) (hs : Sees w w.heap.size q (rowU L)) :
    Calls Tryd.prog 29 #[.slice q L.length c] w fun e w' => (∃ v, e = .returned v ∧ Us w' v (srt L)) ∧ Below w.heap.size w w' := by
  have HS := Lib.hid hs
  have HNIL := Lib.hid (Us.nil w)
  clear hs
  go_enter Tryd.func29, Tryd.ntmps29
  go_wp2_with fail
  go_loopw [3, 4, 5] (fun v vi _ wr => ∃ (R : List Su) (i : Nat), i ≤ L.length ∧ vi = .int .i64 i ∧ Srtd (L.take i) R ∧ R.length ≤ i ∧ Us wr v R ∧ Below w.heap.size w wr) (fun _ vi _ _ => L.length - (intOf vi).toNat)
  case atStart => exact ⟨[], 0, by omega, rfl, ⟨by simp, by simp⟩, Nat.le_refl _, HNIL.out, Below.refl _ _⟩
  case round =>
    rename_i wr
    obtain ⟨w1, hw1⟩ : ∃ w1 : World, w1 = wr := ⟨_, rfl⟩
    rw [← hw1] at hrel ⊢
    clear hw1
    clear wr
    obtain ⟨R, i, hi, rfl, hsrt, hrl, ⟨qr, cr, rfl, hrc, hqr, htn⟩, hB⟩ := hrel
    have HSRT := Lib.hid hsrt
    have HTN := Lib.hid htn
    have HB := Lib.hid hB
    clear hsrt htn hB
    by_cases hlt : i < L.length
    · obtain ⟨ad, rfl, _, hc⟩ := Ss.el HS.out hlt
      have HTK : Hid (L.take (i + 1) = L.take i ++ [L[i]]) := Lib.hid (by rw [List.take_add_one, List.getElem?_eq_getElem hlt]; rfl)
      generalize L[i] = x at *
      have HCX : Hid (∀ w', Below w.heap.size w w' → ∀ j u, (encU x)[j]? = some u → w'.cell? ((ad.add (i * 32)).add j) = some u) := Lib.hid hc
      have kk : (i : Int) < (L.length : Int) := by omega
      clear hc
      go_wp2_with fail
      go_loopw [5] (fun vk wk => ∃ k : Nat, k ≤ R.length ∧ vk = .int .i64 k ∧ (∀ y ∈ R.drop k, cmpU y x = 1) ∧ Below w1.heap.size w1 wk) (fun vk _ => (intOf vk).toNat)
      case atStart => exact ⟨R.length, Nat.le_refl _, rfl, by simp, Below.refl _ _⟩
      case round =>
        obtain ⟨k, hk, rfl, haft, hbk⟩ := hrel
        have HAFT := Lib.hid haft
        have HBK := Lib.hid hbk
        replace HB := Lib.hid (HB.out.trans (hbk.mono HB.out.size))
        clear haft hbk
        by_cases hk0 : k = 0
        · subst hk0
          have HPUT : Hid (Srtd (L.take (i + 1)) (R.take 0 ++ [x] ++ R.drop 0)) := Lib.hid (by rw [HTK.out]; exact srtd_put HSRT.out HAFT.out (by simp))
          go_wp2_with fail
          refine wp_region_org [(0, true), (1, true), (2, true), (3, true), (4, true), (5, true), (6, true), (7, true), (8, true), (9, true), (10, true), (11, true), (12, false), (13, true), (14, true)] (by kernel_rfl) (by kernel_rfl) (by kernel_rfl) ?_
          replace HB := Lib.hid HB.out.drew
          replace HBK := Lib.hid HBK.out.drew
          generalize wr.drew = wd at *
          simp only [pickOrs, List.getElem?_cons_zero, List.getElem?_cons_succ]
          refine org_pure (v := ?_) (by kernel_rfl) ?_ ?_
          rotate_left
          · intro w' hv; clear hv; go_simp; try with_reducible rfl
          try simp only [Act.put, List.setIfInBounds_toArray, List.set_cons_zero, List.set_cons_succ]
          refine org_pure (v := ?_) (by kernel_rfl) ?_ ?_
          rotate_left
          · intro w' hv; clear hv; go_simp; try with_reducible rfl
          try simp only [Act.put, List.setIfInBounds_toArray, List.set_cons_zero, List.set_cons_succ]
          refine org_pure (v := ?_) (by kernel_rfl) ?_ ?_
          rotate_left
          · intro w' hv; clear hv; go_simp; try with_reducible rfl
          try simp only [Act.put, List.setIfInBounds_toArray, List.set_cons_zero, List.set_cons_succ]
          refine org_skip (by kernel_rfl) ?_
          try simp only [Act.put, List.setIfInBounds_toArray, List.set_cons_zero, List.set_cons_succ]
          refine org_skip (by kernel_rfl) ?_
          try simp only [Act.put, List.setIfInBounds_toArray, List.set_cons_zero, List.set_cons_succ]
          refine org_skip (by kernel_rfl) ?_
          try simp only [Act.put, List.setIfInBounds_toArray, List.set_cons_zero, List.set_cons_succ]
          refine org_skip (by kernel_rfl) ?_
          try simp only [Act.put, List.setIfInBounds_toArray, List.set_cons_zero, List.set_cons_succ]
          refine org_skip (by kernel_rfl) ?_
          try simp only [Act.put, List.setIfInBounds_toArray, List.set_cons_zero, List.set_cons_succ]
          refine org_skip (by kernel_rfl) ?_
          try simp only [Act.put, List.setIfInBounds_toArray, List.set_cons_zero, List.set_cons_succ]
          refine org_skip (by kernel_rfl) ?_
          try simp only [Act.put, List.setIfInBounds_toArray, List.set_cons_zero, List.set_cons_succ]
          refine org_skip (by kernel_rfl) ?_
          try simp only [Act.put, List.setIfInBounds_toArray, List.set_cons_zero, List.set_cons_succ]
          refine org_skip (by kernel_rfl) ?_
          try simp only [Act.put, List.setIfInBounds_toArray, List.set_cons_zero, List.set_cons_succ]
          refine org_pass (by kernel_rfl) ?_
          try simp only [Act.put, List.setIfInBounds_toArray, List.set_cons_zero, List.set_cons_succ]
          refine org_skip (by kernel_rfl) ?_
          try simp only [Act.put, List.setIfInBounds_toArray, List.set_cons_zero, List.set_cons_succ]
          refine org_pure (v := ?_) (by kernel_rfl) ?_ ?_
          rotate_left
          · intro w' hv; clear hv; go_simp; try with_reducible rfl
          try simp only [Act.put, List.setIfInBounds_toArray, List.set_cons_zero, List.set_cons_succ]
          refine org_nil ?_
          go_wp2_with fail
          refine wp_region_org [(0, true), (1, true), (2, true), (3, true), (4, true), (5, true), (6, true), (7, true), (8, true), (9, true), (10, true), (11, true), (12, true), (13, true)] (by kernel_rfl) (by kernel_rfl) (by kernel_rfl) ?_
          replace HB := Lib.hid HB.out.drew
          replace HBK := Lib.hid HBK.out.drew
          generalize wd.drew = we at *
          simp only [pickOrs, List.getElem?_cons_zero, List.getElem?_cons_succ]
          refine org_pure (v := ?_) (by kernel_rfl) ?_ ?_
          rotate_left
          · intro w' hv; clear hv; go_simp; try with_reducible rfl
          try simp only [Act.put, List.setIfInBounds_toArray, List.set_cons_zero, List.set_cons_succ]
          refine org_pure (v := ?_) (by kernel_rfl) ?_ ?_
          rotate_left
          · intro w' hv; clear hv; go_simp; try with_reducible rfl
          try simp only [Act.put, List.setIfInBounds_toArray, List.set_cons_zero, List.set_cons_succ]
          refine org_pure (v := ?_) (by kernel_rfl) ?_ ?_
          rotate_left
          · intro w' hv; clear hv; go_simp; try with_reducible rfl
          try simp only [Act.put, List.setIfInBounds_toArray, List.set_cons_zero, List.set_cons_succ]
          refine org_skip (by kernel_rfl) ?_
          try simp only [Act.put, List.setIfInBounds_toArray, List.set_cons_zero, List.set_cons_succ]
          refine org_skip (by kernel_rfl) ?_
          try simp only [Act.put, List.setIfInBounds_toArray, List.set_cons_zero, List.set_cons_succ]
          refine org_skip (by kernel_rfl) ?_
          try simp only [Act.put, List.setIfInBounds_toArray, List.set_cons_zero, List.set_cons_succ]
          refine org_skip (by kernel_rfl) ?_
          try simp only [Act.put, List.setIfInBounds_toArray, List.set_cons_zero, List.set_cons_succ]
          refine org_skip (by kernel_rfl) ?_
          try simp only [Act.put, List.setIfInBounds_toArray, List.set_cons_zero, List.set_cons_succ]
          refine org_skip (by kernel_rfl) ?_
          try simp only [Act.put, List.setIfInBounds_toArray, List.set_cons_zero, List.set_cons_succ]
          refine org_skip (by kernel_rfl) ?_
          try simp only [Act.put, List.setIfInBounds_toArray, List.set_cons_zero, List.set_cons_succ]
          refine org_skip (by kernel_rfl) ?_
          try simp only [Act.put, List.setIfInBounds_toArray, List.set_cons_zero, List.set_cons_succ]
          refine org_skip (by kernel_rfl) ?_
          try simp only [Act.put, List.setIfInBounds_toArray, List.set_cons_zero, List.set_cons_succ]
          refine org_skip (by kernel_rfl) ?_
          try simp only [Act.put, List.setIfInBounds_toArray, List.set_cons_zero, List.set_cons_succ]
          refine org_pure (v := ?_) (by kernel_rfl) ?_ ?_
          rotate_left
          · intro w' hv; clear hv; go_simp; try with_reducible rfl
          try simp only [Act.put, List.setIfInBounds_toArray, List.set_cons_zero, List.set_cons_succ]
          refine org_nil ?_
          go_wp2_with fail
          refine wp_region_tri [1, 2, 3, 5, 6, 7, 8, 11, 12, 13] 0 4 9 [10, 14, 15] _ _ _ rfl rfl rfl rfl rfl rfl (by decide) (by decide) (by intro d h; cases h; decide) (by intro d h; cases h; decide) (by kernel_rfl) (by kernel_rfl) _ chk9r rfl ?_
          replace HB := Lib.hid HB.out.drew
          replace HBK := Lib.hid HBK.out.drew
          generalize we.drew = wf at *
          simp only [pickPur, List.getElem?_cons_zero, List.getElem?_cons_succ]
          refine pur_step (v := ?_) (by kernel_rfl) ?_ ?_
          rotate_left
          · intro w' hv; clear hv; go_simp; try with_reducible rfl
          try simp only [Act.put, List.setIfInBounds_toArray, List.set_cons_zero, List.set_cons_succ]
          refine pur_step (v := ?_) (by kernel_rfl) ?_ ?_
          rotate_left
          · intro w' hv; clear hv; go_simp; try with_reducible rfl
          try simp only [Act.put, List.setIfInBounds_toArray, List.set_cons_zero, List.set_cons_succ]
          refine pur_step (v := .slice qr 0 cr) (by kernel_rfl) (fun w' hv => ?_) ?_
          · exact slice_headU 52 35 elRef (.tmp 46) (.tmp 47) qr R.length cr 0 rfl rfl rfl (by omega)
          try simp only [Act.put, List.setIfInBounds_toArray, List.set_cons_zero, List.set_cons_succ]
          refine pur_step (v := ?_) (by kernel_rfl) ?_ ?_
          rotate_left
          · intro w' hv; clear hv; go_simp; try with_reducible rfl
          try simp only [Act.put, List.setIfInBounds_toArray, List.set_cons_zero, List.set_cons_succ]
          refine pur_step (v := ?_) (by kernel_rfl) ?_ ?_
          rotate_left
          · intro w' hv; clear hv; go_simp; try with_reducible rfl
          try simp only [Act.put, List.setIfInBounds_toArray, List.set_cons_zero, List.set_cons_succ]
          refine pur_step (v := ?_) (by kernel_rfl) ?_ ?_
          rotate_left
          · intro w' hv; clear hv; go_simp; try with_reducible rfl
          try simp only [Act.put, List.setIfInBounds_toArray, List.set_cons_zero, List.set_cons_succ]
          refine pur_step (by kernel_rfl) (fun w' hv => load_su 35 (.tmp 52) rfl _ rfl elRef.2.1 szRef x ((fun w' hv => HCX.out w' (HB.out.trans (Below.mono hv HB.out.size))) w' hv)) ?_
          try simp only [Act.put, List.setIfInBounds_toArray, List.set_cons_zero, List.set_cons_succ]
          refine pur_step (v := ?_) (by kernel_rfl) ?_ ?_
          rotate_left
          · intro w' hv; clear hv; go_simp; try with_reducible rfl
          try simp only [Act.put, List.setIfInBounds_toArray, List.set_cons_zero, List.set_cons_succ]
          refine pur_step (v := ?_) (by kernel_rfl) ?_ ?_
          rotate_left
          · intro w' hv; clear hv; go_simp; try with_reducible rfl
          try simp only [Act.put, List.setIfInBounds_toArray, List.set_cons_zero, List.set_cons_succ]
          refine pur_step (v := .slice (if cr = 0 then qr else qr.map (·.add (0 * 32))) (R.length - 0) (cr - 0)) (by kernel_rfl) (fun w' hv => ?_) ?_
          · exact slice_tailU 52 35 elRef (.tmp 56) (.tmp 57) qr R.length cr 0 rfl rfl rfl (by omega)
          try simp only [Act.put, List.setIfInBounds_toArray, List.set_cons_zero, List.set_cons_succ]
          refine pur_nil ?_
          have HRS : Hid (Sees wf wf.heap.size qr (rowU R)) := Lib.hid ((HTN.out.keep HBK.out).more HBK.out.size)
          refine tri_goalU 52 35 elRef (.tmp 45) (.tmp 48) (.tmp 53) rfl rfl rfl qr (R.take 0) 0 cr x (by rw [List.length_take]; omega) hqr (by omega) (by rw [← rowU_take]; exact HRS.out.head _) (fun _ => rfl) (fun _ _ => rfl) (fun _ => rfl) (fun _ _ => rfl) rfl (fun _ => rfl) (fun _ _ => rfl) ?_
          rintro v0 v4 v9 w4 hE hown ⟨g9, rfl, hc9⟩
          try simp only [Act.put, List.setIfInBounds_toArray, List.set_cons_zero, List.set_cons_succ]
          refine ch_step rfl _ (leaves_moreU 52 35 elRef (.tmp 49) (.tmp 54) rfl v4 _ rfl hown hE (some ⟨g9, 0, none⟩) [x] 1 1 _ rfl rfl (fun h => by cases h) (Ss.one hc9 hc9.lt) (by rw [List.length_take]; omega)) ?_
          intro v5 w5 hE5 ho5
          try simp only [Act.put, List.setIfInBounds_toArray, List.set_cons_zero, List.set_cons_succ]
          refine ch_step rfl _ (leaves_moreU 52 35 elRef (.tmp 55) (.tmp 58) rfl v5 _ rfl ho5 hE5 (if cr = 0 then qr else qr.map (·.add (0 * 32))) (R.drop 0) (R.length - 0) (cr - 0) wf.heap.size (by rw [List.length_drop]) rfl (fun h => cutU_none hqr h) (Sees.cutU (HRS.out.keep hE5) hrc) (by rw [List.length_append, List.length_take]; simp; omega)) ?_
          intro v6 w6 hE6 ho6
          try simp only [Act.put, List.setIfInBounds_toArray, List.set_cons_zero, List.set_cons_succ]
          refine ch_pure (v := v6) rfl hE6 (by go_simp; try with_reducible rfl) ?_
          try simp only [Act.put, List.setIfInBounds_toArray, List.set_cons_zero, List.set_cons_succ]
          refine ch_nil ?_
          replace HB := Lib.hid (HB.out.trans (hE6.mono HB.out.size))
          have HO6 := Lib.hid (OwnU.us ho6)
          clear hE hown hc9 hE5 ho5 hE6 ho6 HRS HBK
          generalize (if cr = 0 then qr else qr.map (·.add (0 * 32))) = qt
          go_wp2_with fail
          go_roundw
          case rel =>
            have hl : (R.take 0 ++ [x] ++ R.drop 0).length = 0 + 1 + (R.length - 0) := by simp; omega
            exact ⟨R.take 0 ++ [x] ++ R.drop 0, i + 1, by omega, by go_num, HPUT.out, by rw [hl]; omega, HO6.out, HB.out⟩
          case measure => simp [intOf]; omega
        · obtain ⟨j, hkj⟩ : ∃ j, k = j + 1 := ⟨k - 1, by omega⟩
          have hjl : j < R.length := by omega
          obtain ⟨ar, hqe, _, hcr⟩ := Ss.el HTN.out hjl
          subst hqe
          have HYE : Hid (R[j] ∈ R) := Lib.hid (List.getElem_mem hjl)
          have HMORE : Hid (cmpU R[j] x = 1 → (∀ z ∈ R.drop (j + 1), cmpU z x = 1) → ∀ z ∈ R.drop j, cmpU z x = 1) := Lib.hid (fun h1 h2 => after_moreU hjl h1 h2)
          have HBEF : Hid (cmpU R[j] x = -1 → ∀ z ∈ R.take (j + 1), cmpU z x = -1) := Lib.hid (fun h1 => before_allU HSRT.out.1 hjl h1)
          generalize R[j] = y at *
          have HCR : Hid (∀ w', Below w1.heap.size w1 w' → ∀ u v, (encU y)[u]? = some v → w'.cell? ((ar.add (j * 32)).add u) = some v) := Lib.hid hcr
          have HCM := Lib.hid (fun w1 => rcmpS_any y x w1)
          have kj : (j : Int) < (R.length : Int) := by omega
          have kp : (0 : Int) < (k : Int) := by omega
          have kpn : 0 < k := by omega
          have kw : IntKind.i64.wrap ((k : Int) - 1) = (j : Int) := by rw [IntWalk.i64_in _ (by omega)]; omega
          have HAFT3 : Hid (∀ z ∈ R.drop (j + 1), cmpU z x = 1) := Lib.hid (by rw [← hkj]; exact HAFT.out)
          have HKJ := Lib.hid hkj
          have HV := Lib.hid (cmpU_vals y x)
          have HZ := Lib.hid (fun h => (cmpU_zero (x := y) (y := x)).1 h)
          have HZ2 := Lib.hid (fun h => (cmpU_zero (x := y) (y := x)).2 h)
          clear hcr hkj hk0
          generalize cmpU y x = V at *
          by_cases hV : 0 < V
          · have HAFT2 : Hid (∀ z ∈ R.drop j, cmpU z x = 1) := Lib.hid (HMORE.out (by have := HV.out; omega) HAFT3.out)
            have hjr : j ≤ R.length := by omega
            have hjk : j < k := by have := HKJ.out; omega
            go_wp2_with fail
            refine wp_region_org [(0, true), (1, true), (2, true), (3, true), (4, true), (5, true), (6, true), (7, true), (8, true), (9, true), (10, true), (11, true), (12, false), (13, true), (14, true)] (by kernel_rfl) (by kernel_rfl) (by kernel_rfl) ?_
            replace HB := Lib.hid HB.out.drew
            replace HBK := Lib.hid HBK.out.drew
            generalize wr.drew = wd at *
            simp only [pickOrs, List.getElem?_cons_zero, List.getElem?_cons_succ]
            refine org_pure (v := ?_) (by kernel_rfl) ?_ ?_
            rotate_left
            · intro w' hv; clear hv; go_simp; try with_reducible rfl
            try simp only [Act.put, List.setIfInBounds_toArray, List.set_cons_zero, List.set_cons_succ]
            refine org_pure (v := ?_) (by kernel_rfl) ?_ ?_
            rotate_left
            · intro w' hv; clear hv; go_simp; try with_reducible rfl
            try simp only [Act.put, List.setIfInBounds_toArray, List.set_cons_zero, List.set_cons_succ]
            refine org_pure (v := ?_) (by kernel_rfl) ?_ ?_
            rotate_left
            · intro w' hv; clear hv; go_simp; try with_reducible rfl
            try simp only [Act.put, List.setIfInBounds_toArray, List.set_cons_zero, List.set_cons_succ]
            refine org_pure (v := ?_) (by kernel_rfl) ?_ ?_
            rotate_left
            · intro w' hv; clear hv; go_simp; try with_reducible rfl
            try simp only [Act.put, List.setIfInBounds_toArray, List.set_cons_zero, List.set_cons_succ]
            refine org_pure (v := ?_) (by kernel_rfl) ?_ ?_
            rotate_left
            · intro w' hv; clear hv; go_simp; try with_reducible rfl
            try simp only [Act.put, List.setIfInBounds_toArray, List.set_cons_zero, List.set_cons_succ]
            refine org_pure (v := ?_) (by kernel_rfl) ?_ ?_
            rotate_left
            · intro w' hv; clear hv; go_simp; try with_reducible rfl
            try simp only [Act.put, List.setIfInBounds_toArray, List.set_cons_zero, List.set_cons_succ]
            refine org_pure (v := ?_) (by kernel_rfl) ?_ ?_
            rotate_left
            · intro w' hv; clear hv; go_simp; try with_reducible rfl
            try simp only [Act.put, List.setIfInBounds_toArray, List.set_cons_zero, List.set_cons_succ]
            refine org_pure (by kernel_rfl) (fun w' hv => load_su 35 (.tmp 20) rfl _ rfl elRef.2.1 szRef y ((fun w' hv => HCR.out w' (HBK.out.trans (Below.mono hv HBK.out.size))) w' hv)) ?_
            try simp only [Act.put, List.setIfInBounds_toArray, List.set_cons_zero, List.set_cons_succ]
            refine org_pure (v := ?_) (by kernel_rfl) ?_ ?_
            rotate_left
            · intro w' hv; clear hv; go_simp; try with_reducible rfl
            try simp only [Act.put, List.setIfInBounds_toArray, List.set_cons_zero, List.set_cons_succ]
            refine org_pure (v := ?_) (by kernel_rfl) ?_ ?_
            rotate_left
            · intro w' hv; clear hv; go_simp; try with_reducible rfl
            try simp only [Act.put, List.setIfInBounds_toArray, List.set_cons_zero, List.set_cons_succ]
            refine org_pure (v := ?_) (by kernel_rfl) ?_ ?_
            rotate_left
            · intro w' hv; clear hv; go_simp; try with_reducible rfl
            try simp only [Act.put, List.setIfInBounds_toArray, List.set_cons_zero, List.set_cons_succ]
            refine org_pure (by kernel_rfl) (fun w' hv => load_su 35 (.tmp 24) rfl _ rfl elRef.2.1 szRef x ((fun w' hv => HCX.out w' (HB.out.trans (Below.mono hv HB.out.size))) w' hv)) ?_
            try simp only [Act.put, List.setIfInBounds_toArray, List.set_cons_zero, List.set_cons_succ]
            refine org_step (by kernel_rfl) (fun K hK => ?_)
            go_wp2_with fail
            refine (HCM.out _).mono ?_
            rintro e wx ⟨rfl, hb⟩
            have HE := Lib.hid hb
            replace HB := Lib.hid (HB.out.trans (hb.mono HB.out.size))
            replace HBK := Lib.hid (HBK.out.trans (hb.mono HBK.out.size))
            clear hb
            refine hK _ _ ⟨HE.out, ?_⟩
            clear hK HE
            try simp only [Act.put, List.setIfInBounds_toArray, List.set_cons_zero, List.set_cons_succ]
            refine org_pure (v := ?_) (by kernel_rfl) ?_ ?_
            rotate_left
            · intro w' hv; clear hv; go_simp; try with_reducible rfl
            try simp only [Act.put, List.setIfInBounds_toArray, List.set_cons_zero, List.set_cons_succ]
            refine org_pure (v := ?_) (by kernel_rfl) ?_ ?_
            rotate_left
            · intro w' hv; clear hv; go_simp; try with_reducible rfl
            try simp only [Act.put, List.setIfInBounds_toArray, List.set_cons_zero, List.set_cons_succ]
            refine org_nil ?_
            go_wp2_with fail
            go_roundw
            case rel => exact ⟨j, hjr, by go_num, HAFT2.out, HBK.out⟩
            case measure => simp [intOf]; omega
          · by_cases hxy : y = x
            · have HNEW : Hid (Srtd (L.take (i + 1)) R) := Lib.hid (by rw [HTK.out]; exact srtd_same HSRT.out (hxy ▸ HYE.out))
              have HBB := Lib.hid (decide_eq_true hxy)
              clear hxy
              go_wp2_with fail
              refine wp_region_org [(0, true), (1, true), (2, true), (3, true), (4, true), (5, true), (6, true), (7, true), (8, true), (9, true), (10, true), (11, true), (12, false), (13, true), (14, true)] (by kernel_rfl) (by kernel_rfl) (by kernel_rfl) ?_
              replace HB := Lib.hid HB.out.drew
              replace HBK := Lib.hid HBK.out.drew
              generalize wr.drew = wd at *
              simp only [pickOrs, List.getElem?_cons_zero, List.getElem?_cons_succ]
              refine org_pure (v := ?_) (by kernel_rfl) ?_ ?_
              rotate_left
              · intro w' hv; clear hv; go_simp; try with_reducible rfl
              try simp only [Act.put, List.setIfInBounds_toArray, List.set_cons_zero, List.set_cons_succ]
              refine org_pure (v := ?_) (by kernel_rfl) ?_ ?_
              rotate_left
              · intro w' hv; clear hv; go_simp; try with_reducible rfl
              try simp only [Act.put, List.setIfInBounds_toArray, List.set_cons_zero, List.set_cons_succ]
              refine org_pure (v := ?_) (by kernel_rfl) ?_ ?_
              rotate_left
              · intro w' hv; clear hv; go_simp; try with_reducible rfl
              try simp only [Act.put, List.setIfInBounds_toArray, List.set_cons_zero, List.set_cons_succ]
              refine org_pure (v := ?_) (by kernel_rfl) ?_ ?_
              rotate_left
              · intro w' hv; clear hv; go_simp; try with_reducible rfl
              try simp only [Act.put, List.setIfInBounds_toArray, List.set_cons_zero, List.set_cons_succ]
              refine org_pure (v := ?_) (by kernel_rfl) ?_ ?_
              rotate_left
              · intro w' hv; clear hv; go_simp; try with_reducible rfl
              try simp only [Act.put, List.setIfInBounds_toArray, List.set_cons_zero, List.set_cons_succ]
              refine org_pure (v := ?_) (by kernel_rfl) ?_ ?_
              rotate_left
              · intro w' hv; clear hv; go_simp; try with_reducible rfl
              try simp only [Act.put, List.setIfInBounds_toArray, List.set_cons_zero, List.set_cons_succ]
              refine org_pure (v := ?_) (by kernel_rfl) ?_ ?_
              rotate_left
              · intro w' hv; clear hv; go_simp; try with_reducible rfl
              try simp only [Act.put, List.setIfInBounds_toArray, List.set_cons_zero, List.set_cons_succ]
              refine org_pure (by kernel_rfl) (fun w' hv => load_su 35 (.tmp 20) rfl _ rfl elRef.2.1 szRef y ((fun w' hv => HCR.out w' (HBK.out.trans (Below.mono hv HBK.out.size))) w' hv)) ?_
              try simp only [Act.put, List.setIfInBounds_toArray, List.set_cons_zero, List.set_cons_succ]
              refine org_pure (v := ?_) (by kernel_rfl) ?_ ?_
              rotate_left
              · intro w' hv; clear hv; go_simp; try with_reducible rfl
              try simp only [Act.put, List.setIfInBounds_toArray, List.set_cons_zero, List.set_cons_succ]
              refine org_pure (v := ?_) (by kernel_rfl) ?_ ?_
              rotate_left
              · intro w' hv; clear hv; go_simp; try with_reducible rfl
              try simp only [Act.put, List.setIfInBounds_toArray, List.set_cons_zero, List.set_cons_succ]
              refine org_pure (v := ?_) (by kernel_rfl) ?_ ?_
              rotate_left
              · intro w' hv; clear hv; go_simp; try with_reducible rfl
              try simp only [Act.put, List.setIfInBounds_toArray, List.set_cons_zero, List.set_cons_succ]
              refine org_pure (by kernel_rfl) (fun w' hv => load_su 35 (.tmp 24) rfl _ rfl elRef.2.1 szRef x ((fun w' hv => HCX.out w' (HB.out.trans (Below.mono hv HB.out.size))) w' hv)) ?_
              try simp only [Act.put, List.setIfInBounds_toArray, List.set_cons_zero, List.set_cons_succ]
              refine org_step (by kernel_rfl) (fun K hK => ?_)
              go_wp2_with fail
              refine (HCM.out _).mono ?_
              rintro e wx ⟨rfl, hb⟩
              have HE := Lib.hid hb
              replace HB := Lib.hid (HB.out.trans (hb.mono HB.out.size))
              replace HBK := Lib.hid (HBK.out.trans (hb.mono HBK.out.size))
              clear hb
              refine hK _ _ ⟨HE.out, ?_⟩
              clear hK HE
              try simp only [Act.put, List.setIfInBounds_toArray, List.set_cons_zero, List.set_cons_succ]
              refine org_pure (v := ?_) (by kernel_rfl) ?_ ?_
              rotate_left
              · intro w' hv; clear hv; go_simp; try with_reducible rfl
              try simp only [Act.put, List.setIfInBounds_toArray, List.set_cons_zero, List.set_cons_succ]
              refine org_pure (v := ?_) (by kernel_rfl) ?_ ?_
              rotate_left
              · intro w' hv; clear hv; go_simp; try with_reducible rfl
              try simp only [Act.put, List.setIfInBounds_toArray, List.set_cons_zero, List.set_cons_succ]
              refine org_nil ?_
              go_wp2_with fail
              refine wp_region_org [(0, true), (1, true), (2, true), (3, true), (4, true), (5, true), (6, true), (7, true), (8, true), (9, true), (10, true), (11, true), (12, true), (13, true)] (by kernel_rfl) (by kernel_rfl) (by kernel_rfl) ?_
              replace HB := Lib.hid HB.out.drew
              replace HBK := Lib.hid HBK.out.drew
              generalize wx.drew = we at *
              simp only [pickOrs, List.getElem?_cons_zero, List.getElem?_cons_succ]
              refine org_pure (v := ?_) (by kernel_rfl) ?_ ?_
              rotate_left
              · intro w' hv; clear hv; go_simp; try with_reducible rfl
              try simp only [Act.put, List.setIfInBounds_toArray, List.set_cons_zero, List.set_cons_succ]
              refine org_pure (v := ?_) (by kernel_rfl) ?_ ?_
              rotate_left
              · intro w' hv; clear hv; go_simp; try with_reducible rfl
              try simp only [Act.put, List.setIfInBounds_toArray, List.set_cons_zero, List.set_cons_succ]
              refine org_pure (v := ?_) (by kernel_rfl) ?_ ?_
              rotate_left
              · intro w' hv; clear hv; go_simp; try with_reducible rfl
              try simp only [Act.put, List.setIfInBounds_toArray, List.set_cons_zero, List.set_cons_succ]
              refine org_pure (v := ?_) (by kernel_rfl) ?_ ?_
              rotate_left
              · intro w' hv; clear hv; go_simp; try with_reducible rfl
              try simp only [Act.put, List.setIfInBounds_toArray, List.set_cons_zero, List.set_cons_succ]
              refine org_pure (v := ?_) (by kernel_rfl) ?_ ?_
              rotate_left
              · intro w' hv; clear hv; go_simp; try with_reducible rfl
              try simp only [Act.put, List.setIfInBounds_toArray, List.set_cons_zero, List.set_cons_succ]
              refine org_pure (v := ?_) (by kernel_rfl) ?_ ?_
              rotate_left
              · intro w' hv; clear hv; go_simp; try with_reducible rfl
              try simp only [Act.put, List.setIfInBounds_toArray, List.set_cons_zero, List.set_cons_succ]
              refine org_pure (v := ?_) (by kernel_rfl) ?_ ?_
              rotate_left
              · intro w' hv; clear hv; go_simp; try with_reducible rfl
              try simp only [Act.put, List.setIfInBounds_toArray, List.set_cons_zero, List.set_cons_succ]
              refine org_pure (by kernel_rfl) (fun w' hv => load_su 35 (.tmp 37) rfl _ rfl elRef.2.1 szRef y ((fun w' hv => HCR.out w' (HBK.out.trans (Below.mono hv HBK.out.size))) w' hv)) ?_
              try simp only [Act.put, List.setIfInBounds_toArray, List.set_cons_zero, List.set_cons_succ]
              refine org_pure (v := ?_) (by kernel_rfl) ?_ ?_
              rotate_left
              · intro w' hv; clear hv; go_simp; try with_reducible rfl
              try simp only [Act.put, List.setIfInBounds_toArray, List.set_cons_zero, List.set_cons_succ]
              refine org_pure (v := ?_) (by kernel_rfl) ?_ ?_
              rotate_left
              · intro w' hv; clear hv; go_simp; try with_reducible rfl
              try simp only [Act.put, List.setIfInBounds_toArray, List.set_cons_zero, List.set_cons_succ]
              refine org_pure (v := ?_) (by kernel_rfl) ?_ ?_
              rotate_left
              · intro w' hv; clear hv; go_simp; try with_reducible rfl
              try simp only [Act.put, List.setIfInBounds_toArray, List.set_cons_zero, List.set_cons_succ]
              refine org_pure (by kernel_rfl) (fun w' hv => load_su 35 (.tmp 41) rfl _ rfl elRef.2.1 szRef x ((fun w' hv => HCX.out w' (HB.out.trans (Below.mono hv HB.out.size))) w' hv)) ?_
              try simp only [Act.put, List.setIfInBounds_toArray, List.set_cons_zero, List.set_cons_succ]
              refine org_pure (by kernel_rfl) (fun w' hv => eql_su 35 (.tmp 38) (.tmp 42) _ rfl y x rfl rfl elRef.2.1 gdRef) ?_
              try simp only [Act.put, List.setIfInBounds_toArray, List.set_cons_zero, List.set_cons_succ]
              rw [HBB.out]
              refine org_pure (v := ?_) (by kernel_rfl) ?_ ?_
              rotate_left
              · intro w' hv; clear hv; go_simp; try with_reducible rfl
              try simp only [Act.put, List.setIfInBounds_toArray, List.set_cons_zero, List.set_cons_succ]
              refine org_nil ?_
              go_wp2_with fail
              go_roundw
              case rel => exact ⟨R, i + 1, by omega, by go_num, HNEW.out, by omega, ⟨_, cr, rfl, hrc, hqr, (HTN.out.keep HBK.out).more HBK.out.size⟩, HB.out⟩
              case measure => simp [intOf]; omega
            · have HPUT : Hid (Srtd (L.take (i + 1)) (R.take k ++ [x] ++ R.drop k)) := Lib.hid (by
                rw [HTK.out, HKJ.out]
                refine srtd_put HSRT.out HAFT3.out (HBEF.out ?_)
                have h1 := HV.out
                have h2 : ¬ V = 0 := fun e => hxy (HZ.out e)
                omega)
              have HBB := Lib.hid (decide_eq_false hxy)
              clear hxy
              go_wp2_with fail
              refine wp_region_org [(0, true), (1, true), (2, true), (3, true), (4, true), (5, true), (6, true), (7, true), (8, true), (9, true), (10, true), (11, true), (12, false), (13, true), (14, true)] (by kernel_rfl) (by kernel_rfl) (by kernel_rfl) ?_
              replace HB := Lib.hid HB.out.drew
              replace HBK := Lib.hid HBK.out.drew
              generalize wr.drew = wd at *
              simp only [pickOrs, List.getElem?_cons_zero, List.getElem?_cons_succ]
              refine org_pure (v := ?_) (by kernel_rfl) ?_ ?_
              rotate_left
              · intro w' hv; clear hv; go_simp; try with_reducible rfl
              try simp only [Act.put, List.setIfInBounds_toArray, List.set_cons_zero, List.set_cons_succ]
              refine org_pure (v := ?_) (by kernel_rfl) ?_ ?_
              rotate_left
              · intro w' hv; clear hv; go_simp; try with_reducible rfl
              try simp only [Act.put, List.setIfInBounds_toArray, List.set_cons_zero, List.set_cons_succ]
              refine org_pure (v := ?_) (by kernel_rfl) ?_ ?_
              rotate_left
              · intro w' hv; clear hv; go_simp; try with_reducible rfl
              try simp only [Act.put, List.setIfInBounds_toArray, List.set_cons_zero, List.set_cons_succ]
              refine org_pure (v := ?_) (by kernel_rfl) ?_ ?_
              rotate_left
              · intro w' hv; clear hv; go_simp; try with_reducible rfl
              try simp only [Act.put, List.setIfInBounds_toArray, List.set_cons_zero, List.set_cons_succ]
              refine org_pure (v := ?_) (by kernel_rfl) ?_ ?_
              rotate_left
              · intro w' hv; clear hv; go_simp; try with_reducible rfl
              try simp only [Act.put, List.setIfInBounds_toArray, List.set_cons_zero, List.set_cons_succ]
              refine org_pure (v := ?_) (by kernel_rfl) ?_ ?_
              rotate_left
              · intro w' hv; clear hv; go_simp; try with_reducible rfl
              try simp only [Act.put, List.setIfInBounds_toArray, List.set_cons_zero, List.set_cons_succ]
              refine org_pure (v := ?_) (by kernel_rfl) ?_ ?_
              rotate_left
              · intro w' hv; clear hv; go_simp; try with_reducible rfl
              try simp only [Act.put, List.setIfInBounds_toArray, List.set_cons_zero, List.set_cons_succ]
              refine org_pure (by kernel_rfl) (fun w' hv => load_su 35 (.tmp 20) rfl _ rfl elRef.2.1 szRef y ((fun w' hv => HCR.out w' (HBK.out.trans (Below.mono hv HBK.out.size))) w' hv)) ?_
              try simp only [Act.put, List.setIfInBounds_toArray, List.set_cons_zero, List.set_cons_succ]
              refine org_pure (v := ?_) (by kernel_rfl) ?_ ?_
              rotate_left
              · intro w' hv; clear hv; go_simp; try with_reducible rfl
              try simp only [Act.put, List.setIfInBounds_toArray, List.set_cons_zero, List.set_cons_succ]
              refine org_pure (v := ?_) (by kernel_rfl) ?_ ?_
              rotate_left
              · intro w' hv; clear hv; go_simp; try with_reducible rfl
              try simp only [Act.put, List.setIfInBounds_toArray, List.set_cons_zero, List.set_cons_succ]
              refine org_pure (v := ?_) (by kernel_rfl) ?_ ?_
              rotate_left
              · intro w' hv; clear hv; go_simp; try with_reducible rfl
              try simp only [Act.put, List.setIfInBounds_toArray, List.set_cons_zero, List.set_cons_succ]
              refine org_pure (by kernel_rfl) (fun w' hv => load_su 35 (.tmp 24) rfl _ rfl elRef.2.1 szRef x ((fun w' hv => HCX.out w' (HB.out.trans (Below.mono hv HB.out.size))) w' hv)) ?_
              try simp only [Act.put, List.setIfInBounds_toArray, List.set_cons_zero, List.set_cons_succ]
              refine org_step (by kernel_rfl) (fun K hK => ?_)
              go_wp2_with fail
              refine (HCM.out _).mono ?_
              rintro e wx ⟨rfl, hb⟩
              have HE := Lib.hid hb
              replace HB := Lib.hid (HB.out.trans (hb.mono HB.out.size))
              replace HBK := Lib.hid (HBK.out.trans (hb.mono HBK.out.size))
              clear hb
              refine hK _ _ ⟨HE.out, ?_⟩
              clear hK HE
              try simp only [Act.put, List.setIfInBounds_toArray, List.set_cons_zero, List.set_cons_succ]
              refine org_pure (v := ?_) (by kernel_rfl) ?_ ?_
              rotate_left
              · intro w' hv; clear hv; go_simp; try with_reducible rfl
              try simp only [Act.put, List.setIfInBounds_toArray, List.set_cons_zero, List.set_cons_succ]
              refine org_pure (v := ?_) (by kernel_rfl) ?_ ?_
              rotate_left
              · intro w' hv; clear hv; go_simp; try with_reducible rfl
              try simp only [Act.put, List.setIfInBounds_toArray, List.set_cons_zero, List.set_cons_succ]
              refine org_nil ?_
              go_wp2_with fail
              refine wp_region_org [(0, true), (1, true), (2, true), (3, true), (4, true), (5, true), (6, true), (7, true), (8, true), (9, true), (10, true), (11, true), (12, true), (13, true)] (by kernel_rfl) (by kernel_rfl) (by kernel_rfl) ?_
              replace HB := Lib.hid HB.out.drew
              replace HBK := Lib.hid HBK.out.drew
              generalize wx.drew = we at *
              simp only [pickOrs, List.getElem?_cons_zero, List.getElem?_cons_succ]
              refine org_pure (v := ?_) (by kernel_rfl) ?_ ?_
              rotate_left
              · intro w' hv; clear hv; go_simp; try with_reducible rfl
              try simp only [Act.put, List.setIfInBounds_toArray, List.set_cons_zero, List.set_cons_succ]
              refine org_pure (v := ?_) (by kernel_rfl) ?_ ?_
              rotate_left
              · intro w' hv; clear hv; go_simp; try with_reducible rfl
              try simp only [Act.put, List.setIfInBounds_toArray, List.set_cons_zero, List.set_cons_succ]
              refine org_pure (v := ?_) (by kernel_rfl) ?_ ?_
              rotate_left
              · intro w' hv; clear hv; go_simp; try with_reducible rfl
              try simp only [Act.put, List.setIfInBounds_toArray, List.set_cons_zero, List.set_cons_succ]
              refine org_pure (v := ?_) (by kernel_rfl) ?_ ?_
              rotate_left
              · intro w' hv; clear hv; go_simp; try with_reducible rfl
              try simp only [Act.put, List.setIfInBounds_toArray, List.set_cons_zero, List.set_cons_succ]
              refine org_pure (v := ?_) (by kernel_rfl) ?_ ?_
              rotate_left
              · intro w' hv; clear hv; go_simp; try with_reducible rfl
              try simp only [Act.put, List.setIfInBounds_toArray, List.set_cons_zero, List.set_cons_succ]
              refine org_pure (v := ?_) (by kernel_rfl) ?_ ?_
              rotate_left
              · intro w' hv; clear hv; go_simp; try with_reducible rfl
              try simp only [Act.put, List.setIfInBounds_toArray, List.set_cons_zero, List.set_cons_succ]
              refine org_pure (v := ?_) (by kernel_rfl) ?_ ?_
              rotate_left
              · intro w' hv; clear hv; go_simp; try with_reducible rfl
              try simp only [Act.put, List.setIfInBounds_toArray, List.set_cons_zero, List.set_cons_succ]
              refine org_pure (by kernel_rfl) (fun w' hv => load_su 35 (.tmp 37) rfl _ rfl elRef.2.1 szRef y ((fun w' hv => HCR.out w' (HBK.out.trans (Below.mono hv HBK.out.size))) w' hv)) ?_
              try simp only [Act.put, List.setIfInBounds_toArray, List.set_cons_zero, List.set_cons_succ]
              refine org_pure (v := ?_) (by kernel_rfl) ?_ ?_
              rotate_left
              · intro w' hv; clear hv; go_simp; try with_reducible rfl
              try simp only [Act.put, List.setIfInBounds_toArray, List.set_cons_zero, List.set_cons_succ]
              refine org_pure (v := ?_) (by kernel_rfl) ?_ ?_
              rotate_left
              · intro w' hv; clear hv; go_simp; try with_reducible rfl
              try simp only [Act.put, List.setIfInBounds_toArray, List.set_cons_zero, List.set_cons_succ]
              refine org_pure (v := ?_) (by kernel_rfl) ?_ ?_
              rotate_left
              · intro w' hv; clear hv; go_simp; try with_reducible rfl
              try simp only [Act.put, List.setIfInBounds_toArray, List.set_cons_zero, List.set_cons_succ]
              refine org_pure (by kernel_rfl) (fun w' hv => load_su 35 (.tmp 41) rfl _ rfl elRef.2.1 szRef x ((fun w' hv => HCX.out w' (HB.out.trans (Below.mono hv HB.out.size))) w' hv)) ?_
              try simp only [Act.put, List.setIfInBounds_toArray, List.set_cons_zero, List.set_cons_succ]
              refine org_pure (by kernel_rfl) (fun w' hv => eql_su 35 (.tmp 38) (.tmp 42) _ rfl y x rfl rfl elRef.2.1 gdRef) ?_
              try simp only [Act.put, List.setIfInBounds_toArray, List.set_cons_zero, List.set_cons_succ]
              rw [HBB.out]
              refine org_pure (v := ?_) (by kernel_rfl) ?_ ?_
              rotate_left
              · intro w' hv; clear hv; go_simp; try with_reducible rfl
              try simp only [Act.put, List.setIfInBounds_toArray, List.set_cons_zero, List.set_cons_succ]
              refine org_nil ?_
              go_wp2_with fail
              refine wp_region_tri [1, 2, 3, 5, 6, 7, 8, 11, 12, 13] 0 4 9 [10, 14, 15] _ _ _ rfl rfl rfl rfl rfl rfl (by decide) (by decide) (by intro d h; cases h; decide) (by intro d h; cases h; decide) (by kernel_rfl) (by kernel_rfl) _ chk9r rfl ?_
              replace HB := Lib.hid HB.out.drew
              replace HBK := Lib.hid HBK.out.drew
              generalize we.drew = wf at *
              simp only [pickPur, List.getElem?_cons_zero, List.getElem?_cons_succ]
              refine pur_step (v := ?_) (by kernel_rfl) ?_ ?_
              rotate_left
              · intro w' hv; clear hv; go_simp; try with_reducible rfl
              try simp only [Act.put, List.setIfInBounds_toArray, List.set_cons_zero, List.set_cons_succ]
              refine pur_step (v := ?_) (by kernel_rfl) ?_ ?_
              rotate_left
              · intro w' hv; clear hv; go_simp; try with_reducible rfl
              try simp only [Act.put, List.setIfInBounds_toArray, List.set_cons_zero, List.set_cons_succ]
              refine pur_step (v := .slice (some ar) k cr) (by kernel_rfl) (fun w' hv => ?_) ?_
              · exact slice_headU 52 35 elRef (.tmp 46) (.tmp 47) (some ar) R.length cr k rfl rfl rfl (by omega)
              try simp only [Act.put, List.setIfInBounds_toArray, List.set_cons_zero, List.set_cons_succ]
              refine pur_step (v := ?_) (by kernel_rfl) ?_ ?_
              rotate_left
              · intro w' hv; clear hv; go_simp; try with_reducible rfl
              try simp only [Act.put, List.setIfInBounds_toArray, List.set_cons_zero, List.set_cons_succ]
              refine pur_step (v := ?_) (by kernel_rfl) ?_ ?_
              rotate_left
              · intro w' hv; clear hv; go_simp; try with_reducible rfl
              try simp only [Act.put, List.setIfInBounds_toArray, List.set_cons_zero, List.set_cons_succ]
              refine pur_step (v := ?_) (by kernel_rfl) ?_ ?_
              rotate_left
              · intro w' hv; clear hv; go_simp; try with_reducible rfl
              try simp only [Act.put, List.setIfInBounds_toArray, List.set_cons_zero, List.set_cons_succ]
              refine pur_step (by kernel_rfl) (fun w' hv => load_su 35 (.tmp 52) rfl _ rfl elRef.2.1 szRef x ((fun w' hv => HCX.out w' (HB.out.trans (Below.mono hv HB.out.size))) w' hv)) ?_
              try simp only [Act.put, List.setIfInBounds_toArray, List.set_cons_zero, List.set_cons_succ]
              refine pur_step (v := ?_) (by kernel_rfl) ?_ ?_
              rotate_left
              · intro w' hv; clear hv; go_simp; try with_reducible rfl
              try simp only [Act.put, List.setIfInBounds_toArray, List.set_cons_zero, List.set_cons_succ]
              refine pur_step (v := ?_) (by kernel_rfl) ?_ ?_
              rotate_left
              · intro w' hv; clear hv; go_simp; try with_reducible rfl
              try simp only [Act.put, List.setIfInBounds_toArray, List.set_cons_zero, List.set_cons_succ]
              refine pur_step (v := .slice (if cr = k then (some ar) else (some ar).map (·.add (k * 32))) (R.length - k) (cr - k)) (by kernel_rfl) (fun w' hv => ?_) ?_
              · exact slice_tailU 52 35 elRef (.tmp 56) (.tmp 57) (some ar) R.length cr k rfl rfl rfl (by omega)
              try simp only [Act.put, List.setIfInBounds_toArray, List.set_cons_zero, List.set_cons_succ]
              refine pur_nil ?_
              have HRS : Hid (Sees wf wf.heap.size (some ar) (rowU R)) := Lib.hid ((HTN.out.keep HBK.out).more HBK.out.size)
              refine tri_goalU 52 35 elRef (.tmp 45) (.tmp 48) (.tmp 53) rfl rfl rfl (some ar) (R.take k) k cr x (by rw [List.length_take]; omega) hqr (by omega) (by rw [← rowU_take]; exact HRS.out.head _) (fun _ => rfl) (fun _ _ => rfl) (fun _ => rfl) (fun _ _ => rfl) rfl (fun _ => rfl) (fun _ _ => rfl) ?_
              rintro v0 v4 v9 w4 hE hown ⟨g9, rfl, hc9⟩
              try simp only [Act.put, List.setIfInBounds_toArray, List.set_cons_zero, List.set_cons_succ]
              refine ch_step rfl _ (leaves_moreU 52 35 elRef (.tmp 49) (.tmp 54) rfl v4 _ rfl hown hE (some ⟨g9, 0, none⟩) [x] 1 1 _ rfl rfl (fun h => by cases h) (Ss.one hc9 hc9.lt) (by rw [List.length_take]; omega)) ?_
              intro v5 w5 hE5 ho5
              try simp only [Act.put, List.setIfInBounds_toArray, List.set_cons_zero, List.set_cons_succ]
              refine ch_step rfl _ (leaves_moreU 52 35 elRef (.tmp 55) (.tmp 58) rfl v5 _ rfl ho5 hE5 (if cr = k then (some ar) else (some ar).map (·.add (k * 32))) (R.drop k) (R.length - k) (cr - k) wf.heap.size (by rw [List.length_drop]) rfl (fun h => cutU_none hqr h) (Sees.cutU (HRS.out.keep hE5) hrc) (by rw [List.length_append, List.length_take]; simp; omega)) ?_
              intro v6 w6 hE6 ho6
              try simp only [Act.put, List.setIfInBounds_toArray, List.set_cons_zero, List.set_cons_succ]
              refine ch_pure (v := v6) rfl hE6 (by go_simp; try with_reducible rfl) ?_
              try simp only [Act.put, List.setIfInBounds_toArray, List.set_cons_zero, List.set_cons_succ]
              refine ch_nil ?_
              replace HB := Lib.hid (HB.out.trans (hE6.mono HB.out.size))
              have HO6 := Lib.hid (OwnU.us ho6)
              clear hE hown hc9 hE5 ho5 hE6 ho6 HRS HBK
              generalize (if cr = k then (some ar) else (some ar).map (·.add (k * 32))) = qt
              go_wp2_with fail
              go_roundw
              case rel =>
                have hl : (R.take k ++ [x] ++ R.drop k).length = k + 1 + (R.length - k) := by simp; omega
                exact ⟨R.take k ++ [x] ++ R.drop k, i + 1, by omega, by go_num, HPUT.out, by rw [hl]; omega, HO6.out, HB.out⟩
              case measure => simp [intOf]; omega
    · have hil : i = L.length := by omega
      subst hil
      rw [List.take_length] at HSRT
      have kk : ¬ (L.length : Int) < (L.length : Int) := by omega
      have HE := Lib.hid (srt_of HSRT.out.1 HSRT.out.2)
      go_wp2_with fail
      go_ret
      refine ⟨⟨_, rfl, ?_⟩, HB.out⟩
      rw [← HE.out]
      exact ⟨qr, cr, rfl, hrc, hqr, HTN.out⟩
end Go.Proofs.YtihkbblapfjobaaDoor
/- Contracts: the document's own Minus, Both, Either. Condition: at most 10^4 sums each. -/
namespace Go.Proofs.YtihkbblapfjobaaDoor
open Go.RowKit
set_option maxHeartbeats 8000000 in
set_option maxRecDepth 100000 in
theorem rminus_any (A B : List Su) (qa qb : Option Addr) (ca cb : Nat) (hA : A.length ≤ 10000) (hB : B.length ≤ 10000) (w : World) (ha : Sees w w.heap.size qa (rowU A)) (hb : Sees w w.heap.size qb (rowU B)) :
    Calls Tryd.prog 35 #[.slice qa A.length ca, .slice qb B.length cb] w fun e w' => (∃ v, e = .returned v ∧ Us w' v (minU A B)) ∧ Below w.heap.size w w' := by
  have HSA := Lib.hid ha
  have HH : Hid (∀ w' x, Below w.heap.size w w' → Calls Tryd.prog 32 #[.slice qb B.length cb, .agg (encU x).toArray] w' fun e w2 => e = .returned (.bool (decide (x ∈ B))) ∧ Below w'.heap.size w' w2) := Lib.hid (fun w' x h => rhas_any B x qb cb (by omega) w' ((hb.keep h).more h.size))
  have HNIL := Lib.hid (OwnU.nil w w.heap.size 35)
  have HOF : Hid (∀ w' v, Us w' v (A.filter fun x => !decide (x ∈ B)) → Calls Tryd.prog 29 #[v] w' fun e w2 => (∃ v2, e = .returned v2 ∧ Us w2 v2 (minU A B)) ∧ Below w'.heap.size w' w2) := Lib.hid (fun w' v h => by
    obtain ⟨q, c, rfl, _, _, h4⟩ := h
    exact rof0_any _ q c (Nat.le_trans (List.length_filter_le _ _) (by omega)) w' h4)
  clear ha hb
  generalize hn : A.length = n at *
  have HN := Lib.hid hn
  clear hn
  go_enter Tryd.func35, Tryd.ntmps35
  go_wp2_with fail
  go_loopw [5, 6] (fun v vi wr => ∃ i : Nat, i ≤ n ∧ vi = .int .i64 i ∧ OwnU wr w.heap.size 35 v ((A.take i).filter fun x => !decide (x ∈ B)) ∧ Below w.heap.size w wr) (fun _ vi _ => n - (intOf vi).toNat)
  case atStart => exact ⟨0, by omega, rfl, HNIL.out, Below.refl _ _⟩
  case round =>
    rename_i wr
    obtain ⟨i, hi, rfl, hrow, hB⟩ := hrel
    have HROW := Lib.hid hrow
    have HB := Lib.hid hB
    clear hrow hB
    by_cases hlt : i < n
    · have hiA : i < A.length := by rw [HN.out]; exact hlt
      obtain ⟨a, rfl, _, hc⟩ := Ss.el HSA.out hiA
      have HTK : Hid ((A.take (i + 1)).filter (fun x => !decide (x ∈ B)) = (A.take i).filter (fun x => !decide (x ∈ B)) ++ [A[i]].filter (fun x => !decide (x ∈ B))) := Lib.hid (by rw [List.take_add_one, List.getElem?_eq_getElem hiA, List.filter_append]; rfl)
      have HLEN : Hid (((A.take i).filter fun x => !decide (x ∈ B)).length + 1 ≤ 4000000) := Lib.hid (by have h := List.length_filter_le (fun x => !decide (x ∈ B)) (A.take i); rw [List.length_take] at h; omega)
      generalize A[i] = x at *
      have HC := Lib.hid hc
      have HC1 := Lib.hid (hc wr HB.out)
      have k1 : (i : Int) < (n : Int) := by omega
      have HHX := Lib.hid (HH.out wr x HB.out)
      clear hc
      by_cases hx : x ∈ B
      · rw [decide_eq_true hx] at HHX
        have HT2 : Hid ([x].filter (fun x => !decide (x ∈ B)) = []) := Lib.hid (by simp [hx])
        clear hx
        go_wp2_with (first
          | (refine wpList_load_su rfl 35 (.tmp 16) rfl _ rfl elRef.2.1 szRef x HC1.out ?_)
          | ((with_reducible refine Calls.mono HHX.out ?_); rintro e w2 ⟨rfl, h2⟩; have HROW2 := Lib.hid (HROW.out.keep h2); have HB2 := Lib.hid (HB.out.trans (h2.mono HB.out.size)); have HC2 := Lib.hid (HC.out w2 HB2.out); clear h2))
        go_roundw
        case rel => exact ⟨i + 1, by omega, by go_num, by rw [HTK.out, HT2.out, List.append_nil]; exact HROW2.out, HB2.out⟩
        case measure => simp [intOf]; omega
      · rw [decide_eq_false hx] at HHX
        have HT2 : Hid ([x].filter (fun x => !decide (x ∈ B)) = [x]) := Lib.hid (by simp [hx])
        clear hx
        go_wp2_with (first
          | (refine wpList_load_su rfl 35 (.tmp 16) rfl _ rfl elRef.2.1 szRef x HC1.out ?_)
          | ((with_reducible refine Calls.mono HHX.out ?_); rintro e w2 ⟨rfl, h2⟩; have HROW2 := Lib.hid (HROW.out.keep h2); have HB2 := Lib.hid (HB.out.trans (h2.mono HB.out.size)); have HC2 := Lib.hid (HC.out w2 HB2.out); clear h2)
          | (refine wpList_load_su rfl 35 (.tmp 23) rfl _ rfl elRef.2.1 szRef x HC2.out ?_)
          | (refine wpList_one_su rfl 52 35 elRef (.tmp 24) rfl x rfl ?_)
          | (refine wpList_append_su rfl 52 35 elRef (.tmp 20) (.tmp 25) rfl w.heap.size _ _ rfl (World.ownsRow.alloc HROW2.out _) (some ⟨w2.heap.size, 0, none⟩) [x] 1 1 (w2.heap.size + 1) rfl rfl (fun h => by cases h) (Ss.one (Has.made' w2 _ _ _ rfl) (Nat.lt_succ_self _)) HLEN.out (by have := HB2.out.size; simp; omega) ?_; intro v3 w3 h1 h2; have HO := Lib.hid h1; have HB3 := Lib.hid h2; clear h1 h2))
        go_roundw
        case rel => exact ⟨i + 1, by omega, by go_num, by rw [HTK.out, HT2.out]; exact HO.out, (HB2.out.alloc HB2.out.size _).trans HB3.out⟩
        case measure => simp [intOf]; omega
    · have hil : i = n := by omega
      subst hil
      have hfull : A.take i = A := List.take_of_length_le (by rw [HN.out]; exact Nat.le_refl _)
      rw [hfull] at HROW
      clear hfull
      have HO := Lib.hid (HOF.out wr _ HROW.out.us)
      have k1 : ¬ (i : Int) < (i : Int) := by omega
      go_wp2_with ((with_reducible refine Calls.mono HO.out ?_); rintro e w2 ⟨⟨v2, rfl, h1⟩, h2⟩; have HU2 := Lib.hid h1; have HB2 := Lib.hid (HB.out.trans (h2.mono HB.out.size)); clear h1 h2)
      go_ret
      exact ⟨⟨_, rfl, HU2.out⟩, HB2.out⟩
set_option maxHeartbeats 8000000 in
set_option maxRecDepth 100000 in
theorem rboth_any (A B : List Su) (qa qb : Option Addr) (ca cb : Nat) (hA : A.length ≤ 10000) (hB : B.length ≤ 10000) (w : World) (ha : Sees w w.heap.size qa (rowU A)) (hb : Sees w w.heap.size qb (rowU B)) :
    Calls Tryd.prog 37 #[.slice qa A.length ca, .slice qb B.length cb] w fun e w' => (∃ v, e = .returned v ∧ Us w' v (botU A B)) ∧ Below w.heap.size w w' := by
  have HSA := Lib.hid ha
  have HH : Hid (∀ w' x, Below w.heap.size w w' → Calls Tryd.prog 32 #[.slice qb B.length cb, .agg (encU x).toArray] w' fun e w2 => e = .returned (.bool (decide (x ∈ B))) ∧ Below w'.heap.size w' w2) := Lib.hid (fun w' x h => rhas_any B x qb cb (by omega) w' ((hb.keep h).more h.size))
  have HNIL := Lib.hid (OwnU.nil w w.heap.size 35)
  have HOF : Hid (∀ w' v, Us w' v (A.filter fun x => decide (x ∈ B)) → Calls Tryd.prog 29 #[v] w' fun e w2 => (∃ v2, e = .returned v2 ∧ Us w2 v2 (botU A B)) ∧ Below w'.heap.size w' w2) := Lib.hid (fun w' v h => by
    obtain ⟨q, c, rfl, _, _, h4⟩ := h
    exact rof0_any _ q c (Nat.le_trans (List.length_filter_le _ _) (by omega)) w' h4)
  clear ha hb
  generalize hn : A.length = n at *
  have HN := Lib.hid hn
  clear hn
  go_enter Tryd.func37, Tryd.ntmps37
  go_wp2_with fail
  go_loopw [5, 6] (fun v vi wr => ∃ i : Nat, i ≤ n ∧ vi = .int .i64 i ∧ OwnU wr w.heap.size 35 v ((A.take i).filter fun x => decide (x ∈ B)) ∧ Below w.heap.size w wr) (fun _ vi _ => n - (intOf vi).toNat)
  case atStart => exact ⟨0, by omega, rfl, HNIL.out, Below.refl _ _⟩
  case round =>
    rename_i wr
    obtain ⟨i, hi, rfl, hrow, hB⟩ := hrel
    have HROW := Lib.hid hrow
    have HB := Lib.hid hB
    clear hrow hB
    by_cases hlt : i < n
    · have hiA : i < A.length := by rw [HN.out]; exact hlt
      obtain ⟨a, rfl, _, hc⟩ := Ss.el HSA.out hiA
      have HTK : Hid ((A.take (i + 1)).filter (fun x => decide (x ∈ B)) = (A.take i).filter (fun x => decide (x ∈ B)) ++ [A[i]].filter (fun x => decide (x ∈ B))) := Lib.hid (by rw [List.take_add_one, List.getElem?_eq_getElem hiA, List.filter_append]; rfl)
      have HLEN : Hid (((A.take i).filter fun x => decide (x ∈ B)).length + 1 ≤ 4000000) := Lib.hid (by have h := List.length_filter_le (fun x => decide (x ∈ B)) (A.take i); rw [List.length_take] at h; omega)
      generalize A[i] = x at *
      have HC := Lib.hid hc
      have HC1 := Lib.hid (hc wr HB.out)
      have k1 : (i : Int) < (n : Int) := by omega
      have HHX := Lib.hid (HH.out wr x HB.out)
      clear hc
      by_cases hx : x ∈ B
      · rw [decide_eq_true hx] at HHX
        have HT2 : Hid ([x].filter (fun x => decide (x ∈ B)) = [x]) := Lib.hid (by simp [hx])
        clear hx
        go_wp2_with (first
          | (refine wpList_load_su rfl 35 (.tmp 16) rfl _ rfl elRef.2.1 szRef x HC1.out ?_)
          | ((with_reducible refine Calls.mono HHX.out ?_); rintro e w2 ⟨rfl, h2⟩; have HROW2 := Lib.hid (HROW.out.keep h2); have HB2 := Lib.hid (HB.out.trans (h2.mono HB.out.size)); have HC2 := Lib.hid (HC.out w2 HB2.out); clear h2)
          | (refine wpList_load_su rfl 35 (.tmp 22) rfl _ rfl elRef.2.1 szRef x HC2.out ?_)
          | (refine wpList_one_su rfl 52 35 elRef (.tmp 23) rfl x rfl ?_)
          | (refine wpList_append_su rfl 52 35 elRef (.tmp 19) (.tmp 24) rfl w.heap.size _ _ rfl (World.ownsRow.alloc HROW2.out _) (some ⟨w2.heap.size, 0, none⟩) [x] 1 1 (w2.heap.size + 1) rfl rfl (fun h => by cases h) (Ss.one (Has.made' w2 _ _ _ rfl) (Nat.lt_succ_self _)) HLEN.out (by have := HB2.out.size; simp; omega) ?_; intro v3 w3 h1 h2; have HO := Lib.hid h1; have HB3 := Lib.hid h2; clear h1 h2))
        go_roundw
        case rel => exact ⟨i + 1, by omega, by go_num, by rw [HTK.out, HT2.out]; exact HO.out, (HB2.out.alloc HB2.out.size _).trans HB3.out⟩
        case measure => simp [intOf]; omega
      · rw [decide_eq_false hx] at HHX
        have HT2 : Hid ([x].filter (fun x => decide (x ∈ B)) = []) := Lib.hid (by simp [hx])
        clear hx
        go_wp2_with (first
          | (refine wpList_load_su rfl 35 (.tmp 16) rfl _ rfl elRef.2.1 szRef x HC1.out ?_)
          | ((with_reducible refine Calls.mono HHX.out ?_); rintro e w2 ⟨rfl, h2⟩; have HROW2 := Lib.hid (HROW.out.keep h2); have HB2 := Lib.hid (HB.out.trans (h2.mono HB.out.size)); have HC2 := Lib.hid (HC.out w2 HB2.out); clear h2))
        go_roundw
        case rel => exact ⟨i + 1, by omega, by go_num, by rw [HTK.out, HT2.out, List.append_nil]; exact HROW2.out, HB2.out⟩
        case measure => simp [intOf]; omega
    · have hil : i = n := by omega
      subst hil
      have hfull : A.take i = A := List.take_of_length_le (by rw [HN.out]; exact Nat.le_refl _)
      rw [hfull] at HROW
      clear hfull
      have HO := Lib.hid (HOF.out wr _ HROW.out.us)
      have k1 : ¬ (i : Int) < (i : Int) := by omega
      go_wp2_with ((with_reducible refine Calls.mono HO.out ?_); rintro e w2 ⟨⟨v2, rfl, h1⟩, h2⟩; have HU2 := Lib.hid h1; have HB2 := Lib.hid (HB.out.trans (h2.mono HB.out.size)); clear h1 h2)
      go_ret
      exact ⟨⟨_, rfl, HU2.out⟩, HB2.out⟩
set_option maxHeartbeats 8000000 in
set_option maxRecDepth 100000 in
theorem reither_any (A B : List Su) (qa qb : Option Addr) (ca cb : Nat) (hA : A.length ≤ 10000) (hB : B.length ≤ 10000) (hqa : qa = none → ca = 0) (hqb : qb = none → cb = 0) (w : World) (ha : Sees w w.heap.size qa (rowU A)) (hb : Sees w w.heap.size qb (rowU B)) :
    Calls Tryd.prog 39 #[.slice qa A.length ca, .slice qb B.length cb] w fun e w' => (∃ v, e = .returned v ∧ Us w' v (eitU A B)) ∧ Below w.heap.size w w' := by
  have HSA := Lib.hid ha
  have HSB := Lib.hid hb
  have HQA := Lib.hid hqa
  have HQB := Lib.hid hqb
  have hrn := run_none_su 52 35 elRef w
  have HO0 := Lib.hid (OwnU.empty w w.heap.size 35 (Nat.le_refl _))
  have HB0 := Lib.hid ((Below.refl w.heap.size w).alloc (Nat.le_refl _) (.cells #[] 35))
  have HL1 : Hid (([] : List Su).length + A.length ≤ 4000000) := Lib.hid (by simp; omega)
  have HL2 : Hid (([] ++ A : List Su).length + B.length ≤ 4000000) := Lib.hid (by simp; omega)
  have HOF : Hid (∀ w' v, Us w' v (A ++ B) → Calls Tryd.prog 29 #[v] w' fun e w2 => (∃ v2, e = .returned v2 ∧ Us w2 v2 (eitU A B)) ∧ Below w'.heap.size w' w2) := Lib.hid (fun w' v h => by
    obtain ⟨q, c, rfl, _, _, h4⟩ := h
    exact rof0_any _ q c (by rw [List.length_append]; omega) w' h4)
  clear ha hb hqa hqb
  go_enter Tryd.func39, Tryd.ntmps39
  go_wp2_with (first
    | (refine wpList_append_su rfl 52 35 elRef (.tmp 5) (.tmp 6) rfl w.heap.size _ [] rfl HO0.out qa A A.length ca w.heap.size rfl rfl HQA.out (HSA.out.keep HB0.out) HL1.out (by simp) ?_; intro v1 w1 h1 h2; have HO1 := Lib.hid h1; have HB1 := Lib.hid (HB0.out.trans h2); clear h1 h2)
    | (refine wpList_append_su rfl 52 35 elRef (.tmp 7) (.tmp 8) rfl w.heap.size _ _ rfl HO1.out qb B B.length cb w.heap.size rfl rfl HQB.out (HSB.out.keep HB1.out) HL2.out HB1.out.size ?_; intro v2 w2 h1 h2; have HO2 : Hid (Us w2 v2 (A ++ B)) := Lib.hid (OwnU.us h1); have HB2 := Lib.hid (HB1.out.trans h2); clear h1 h2)
    | ((with_reducible refine Calls.mono (HOF.out w2 v2 HO2.out) ?_); rintro e w3 ⟨⟨v3, rfl, h1⟩, h2⟩; have HU3 := Lib.hid h1; have HB3 := Lib.hid (HB2.out.trans (h2.mono HB2.out.size)); clear h1 h2))
  go_ret
  exact ⟨⟨_, rfl, HU3.out⟩, HB3.out⟩
end Go.Proofs.YtihkbblapfjobaaDoor
/- Contracts: the document's own Bytes, Tell. Condition: at most 10^4 sums. -/
namespace Go.Proofs.YtihkbblapfjobaaDoor
open Go.RowKit
theorem bytesU_app (A B : List Su) : bytesU (A ++ B) = bytesU A ++ bytesU B := by unfold bytesU; rw [List.map_append, List.flatten_append]
theorem bytesU_one (x : Su) : bytesU [x] = x.1 := by unfold bytesU; simp
/-- The bytes so far, in a row of the call's own. -/
def OwnB (w : World) (b : Nat) (v : Value) (X : List (BitVec 8)) : Prop := w.ownsRow b 5 1 v X.length (X.map u8v)
theorem OwnB.next {w : World} {b : Nat} {v : Value} {X : List (BitVec 8)} {y : BitVec 8} (h : w.ownsRow b 5 1 v (X.length + [y].length) (X.map u8v ++ [y].map u8v)) : OwnB w b v (X ++ [y]) := by
  unfold OwnB; rw [List.length_append, List.map_append]; exact h
theorem rof0_u {w : World} {v : Value} {L : List Su} (h : Us w v L) (hm : L.length ≤ 100000) : Calls Tryd.prog 29 #[v] w fun e w' => (∃ q n c, e = .returned (.slice q n c) ∧ U w' q n c (srt L)) ∧ Below w.heap.size w w' := by
  obtain ⟨q, c, rfl, _, _, h4⟩ := h
  refine (rof0_any L q c hm w h4).mono ?_
  rintro e w' ⟨⟨v, rfl, h1⟩, h2⟩
  obtain ⟨q, n, c, rfl, h3⟩ := U.of h1
  exact ⟨⟨q, n, c, rfl, h3⟩, h2⟩
set_option maxHeartbeats 16000000 in
set_option maxRecDepth 100000 in
theorem rbytes_any {w : World} {v : Value} {L : List Su} (h : Us w v L) (hm : L.length ≤ 10000) : Calls Tryd.prog 63 #[v] w fun e w' => (∃ v2, e = .returned v2 ∧ Bs w' v2 (bytesU (srt L))) ∧ Below w.heap.size w w' := by
  have HO := Lib.hid (rof0_u h (by omega))
  have hln := len_srt_le L
  generalize srt L = M at *
  clear h
  go_enter Tryd.func63, Tryd.ntmps63
  go_upto_region 3 with ((with_reducible refine Calls.mono HO.out ?_); rintro e w1 ⟨⟨q1, n1, c1, rfl, h1⟩, h2⟩; have HU := Lib.hid h1; have HB := Lib.hid h2; clear h1 h2 HO)
  have hn1 : n1 ≤ 10000 := by have := HU.out.1; omega
  have HNIL : Hid (OwnB w1 w1.heap.size (.slice none 0 0) []) := Lib.hid (World.ownsRow_nil w1 w1.heap.size 5 1)
  have HB1 : Hid (Below w1.heap.size w1 w1) := Lib.hid (Below.refl _ _)
  obtain ⟨wl, hwl⟩ : ∃ wl, wl = w1 := ⟨_, rfl⟩
  have HNIL2 : Hid (OwnB wl w1.heap.size (.slice none 0 0) []) := Lib.hid (by rw [hwl]; exact HNIL.out)
  have HB2 : Hid (Below w1.heap.size w1 wl) := Lib.hid (by rw [hwl]; exact HB1.out)
  rw [← hwl]
  clear hwl HNIL HB1
  go_wp2_with fail
  go_loopw [3, 4, 5] (fun vb vi _ wr => ∃ i : Nat, i ≤ n1 ∧ vi = .int .i64 i ∧ OwnB wr w1.heap.size vb (bytesU (M.take i)) ∧ Below w1.heap.size w1 wr) (fun _ vi _ _ => n1 - (intOf vi).toNat)
  case atStart => exact ⟨0, by omega, rfl, HNIL2.out, HB2.out⟩
  case round =>
    clear HNIL2 HB2
    rename_i wr
    obtain ⟨i, hi, rfl, hrow, hB⟩ := hrel
    have HROW := Lib.hid hrow
    have HBI := Lib.hid hB
    clear hrow hB
    by_cases hlt : i < n1
    · have hiM : i < M.length := by rw [HU.out.1]; exact hlt
      obtain ⟨a, rfl, _, hc⟩ := Ss.el HU.out.2.2.2 hiM
      have HTK : Hid (bytesU (M.take (i + 1)) = bytesU (M.take i) ++ M[i].1) := Lib.hid (by rw [List.take_add_one, List.getElem?_eq_getElem hiM, bytesU_app]; congr 1; exact bytesU_one _)
      have HLB : Hid ((bytesU (M.take i)).length ≤ 320000) := Lib.hid (by rw [bytesU_len, List.length_take]; omega)
      generalize M[i] = x at *
      have HC : Hid (∀ w', Below w1.heap.size w1 w' → ∀ j u, (encU x)[j]? = some u → w'.cell? ((a.add (i * 32)).add j) = some u) := Lib.hid hc
      have HXL := Lib.hid x.2
      generalize bytesU (M.take i) = Y at *
      have k1 : (i : Int) < (n1 : Int) := by omega
      have HR0 : Hid (OwnB wr w1.heap.size u3 (Y ++ x.1.take 0)) := Lib.hid (by rw [List.take_zero, List.append_nil]; exact HROW.out)
      clear hc HROW
      go_wp2_with fail
      go_loopw [3, 5] (fun vb vk wr => ∃ k : Nat, k ≤ 32 ∧ vk = .int .i64 k ∧ OwnB wr w1.heap.size vb (Y ++ x.1.take k) ∧ Below w1.heap.size w1 wr) (fun _ vk _ => 32 - (intOf vk).toNat)
      case atStart => exact ⟨0, by omega, rfl, HR0.out, HBI.out⟩
      case round =>
        clear HR0 HBI
        obtain ⟨k, hk, rfl, hrow, hB⟩ := hrel
        have HROW := Lib.hid hrow
        have HBK := Lib.hid hB
        by_cases hk2 : k < 32
        · have hkx : k < x.1.length := by rw [x.2]; exact hk2
          have HTK2 : Hid (x.1.take (k + 1) = x.1.take k ++ [x.1[k]]) := Lib.hid (List.take_succ_eq_append_getElem hkx)
          have cx := HC.out wr hB k (u8v x.1[k]) (by unfold encU; rw [List.getElem?_map, List.getElem?_eq_getElem hkx]; rfl)
          have HLX : Hid ((Y ++ x.1.take k).length ≤ 320032) := Lib.hid (by rw [List.length_append, List.length_take]; have := HLB.out; omega)
          generalize x.1[k] = y at *
          generalize x.1.take k = Z at *
          have k2 : (k : Int) < 32 := by omega
          have HSY := Lib.hid (lit_sees wr y (.int .u8 (B y)) rfl)
          have HBZ := Lib.hid HBK.out.size
          unfold u8v at cx
          clear hrow hB
          go_wp2_with (at_builtin; refine wpList_append_sees rfl _ _ rfl w1.heap.size _ _ _ rfl (HROW.out.alloc _) (some ⟨wr.heap.size, 0, none⟩) [y] 1 (wr.heap.size + 1) rfl (fun h => by cases h) HSY.out (by have := HLX.out; simp; simp at this; omega) (by have := HBZ.out; simp; omega) ?_; intro v3 w3 g1 g2; have HN := Lib.hid (OwnB.next g1); have HB3 := Lib.hid g2; clear g1 g2)
          go_roundw
          case rel => exact ⟨k + 1, by omega, by go_num, by rw [HTK2.out, ← List.append_assoc]; exact HN.out, (HBK.out.alloc HBZ.out _).trans HB3.out⟩
          case measure => simp [intOf]; omega
        · have hk32 : k = 32 := by omega
          subst hk32
          have hfull : x.1.take 32 = x.1 := List.take_of_length_le (by rw [x.2]; exact Nat.le_refl _)
          rw [hfull] at HROW
          clear hrow hB hfull hk2
          go_wp2_with fail
          go_roundw
          case rel => exact ⟨i + 1, by omega, by go_num, by rw [HTK.out]; exact HROW.out, HBK.out⟩
          case measure => simp [intOf]; omega
    · have hil : i = n1 := by omega
      subst hil
      have hfull : M.take i = M := List.take_of_length_le (by rw [HU.out.1]; exact Nat.le_refl _)
      rw [hfull] at HROW
      have k1 : ¬ (i : Int) < (i : Int) := by omega
      clear hfull
      go_wp2_with fail
      go_ret
      exact ⟨⟨_, rfl, Bs.own HROW.out⟩, HB.out.trans (HBI.out.mono HB.out.size)⟩
set_option maxHeartbeats 8000000 in
set_option maxRecDepth 100000 in
theorem rtell_any {w : World} {v : Value} {L : List Su} (h : Us w v L) (hm : L.length ≤ 10000) : Calls Tryd.prog 42 #[v] w fun e w' => e = .returned (.agg (encU (tellU L)).toArray) ∧ Below w.heap.size w w' := by
  have HBY : Hid (∀ w1, Below w.heap.size w w1 → Calls Tryd.prog 63 #[v] w1 fun e w' => (∃ v2, e = .returned v2 ∧ Bs w' v2 (bytesU (srt L))) ∧ Below w1.heap.size w1 w') := Lib.hid (fun w1 hb => rbytes_any (h.keep hb) hm)
  have HOF : Hid (∀ (w1 : World) (v2 : Value), Bs w1 v2 (bytesU (srt L)) → Calls Tryd.prog 47 #[v2] w1 fun e w' => e = .returned (.agg (encU (tellU L)).toArray) ∧ Below w1.heap.size w1 w') := Lib.hid (fun w1 v2 hb => by
    obtain ⟨q, c, rfl, _, hq, hs⟩ := hb
    exact rof_any _ q c w1 hs hq (by rw [bytesU_len]; have := len_srt_le L; omega))
  generalize tellU L = tl at *
  clear h
  go_enter Tryd.func42, Tryd.ntmps42
  go_upto_region 1 with fail
  generalize hw0 : w.alloc _ = w0
  have HW0 : Hid (Below w.heap.size w w0) := Lib.hid (by subst hw0; exact (Below.refl _ _).alloc (Nat.le_refl _) _)
  have HX0 : Hid (Has w0 w.heap.size 35 zr32) := Lib.hid (by subst hw0; exact Has.made' _ _ _ _ rfl)
  clear hw0
  go_wp2_with (first
    | ((with_reducible refine Calls.mono (HBY.out w0 HW0.out) ?_); rintro e w1 ⟨⟨v1, rfl, h1⟩, h2⟩; have HS1 := Lib.hid h1; have HX1 := Lib.hid (HX0.out.keep h2 HX0.out.lt); have HB1 := Lib.hid (HW0.out.trans (h2.mono HW0.out.size)); clear h1 h2)
    | ((with_reducible refine Calls.mono (HOF.out w1 v1 HS1.out) ?_); rintro e w2 ⟨rfl, h2⟩; have HX2 := Lib.hid (HX1.out.keep h2 HX1.out.lt); have HB2 := Lib.hid (HB1.out.trans (h2.mono HB1.out.size)); clear h2)
    | (refine wpList_store_row rfl 35 _ _ rfl w.heap.size (encU tl).toArray rfl rfl 35 _ HX2.out (by rw [encU_size]; exact szRef) (by rw [encU_size]; rfl) (encU_all tl) ?_))
  refine bodyPost_ret (v := .agg (encU tl).toArray) ?_ rfl ⟨rfl, below_row HB2.out (Nat.le_refl _) _⟩
  refine results_cell_row rfl _ _ w.heap.size 35 _ (0, 0) _ rfl ?_ Tryd.underlying35 rfl (by rw [encU_size]; exact szRef)
  exact HX2.out.rowl _
end Go.Proofs.YtihkbblapfjobaaDoor
