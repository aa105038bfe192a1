/- Contracts: slices.BinarySearchFunc, slices.Equal over sums; package set's Has, Same. Condition: at most 10^6 sums. -/
import Derived.Test.YtihkbblapfjobaaDoorGu
import Derived.Test.YtihkbblapfjobaaDoorUq
namespace Go.Proofs.YtihkbblapfjobaaDoor
open Go.RowKit
theorem asc_le {L : List Su} (h : AscU L) {i j : Nat} (hij : i ≤ j) (hj : j < L.length) : cmpU (L[i]'(by omega)) L[j] ≤ 0 := by
  by_cases e : i = j
  · subst e; rw [cmpU_self]; exact Int.le_refl _
  · have := List.pairwise_iff_getElem.1 h i j (by omega) hj (by omega)
    omega
/-- What the search has found so far. -/
def Parted (L : List Su) (x : Su) (lo hi : Nat) : Prop := (∀ k (hk : k < L.length), k < lo → cmpU (L[k]'hk) x = -1) ∧ (∀ k (hk : k < L.length), hi ≤ k → 0 ≤ cmpU (L[k]'hk) x)
theorem parted_up {L : List Su} {x : Su} {lo hi m : Nat} (h : Parted L x lo hi) (hL : AscU L) (hm : m < L.length) (hx : cmpU L[m] x = -1) : Parted L x (m + 1) hi :=
  ⟨fun _ _ hkm => cmpU_lelt (asc_le hL (Nat.le_of_lt_succ hkm) hm) hx, h.2⟩
theorem parted_down {L : List Su} {x : Su} {lo hi m : Nat} (h : Parted L x lo hi) (hL : AscU L) (hm : m < L.length) (hx : 0 ≤ cmpU L[m] x) : Parted L x lo m :=
  ⟨h.1, fun k hk hmk => by
    have h1 := asc_le hL hmk hk
    have h2 := cmpU_neg L[m] x
    have h3 := cmpU_trans (show cmpU x L[m] ≤ 0 by omega) h1
    have h4 := cmpU_neg x L[k]
    omega⟩
theorem parted_found {L : List Su} {x : Su} {i : Nat} (h : Parted L x i i) (hL : AscU L) (hi : i < L.length) : decide (cmpU L[i] x = 0) = decide (x ∈ L) := by
  by_cases e : cmpU L[i] x = 0
  · rw [decide_eq_true e, decide_eq_true (by rw [← cmpU_zero.1 e]; exact List.getElem_mem hi)]
  · rw [decide_eq_false e, decide_eq_false fun hm => ?_]
    obtain ⟨k, hk, rfl⟩ := List.mem_iff_getElem.1 hm
    by_cases hki : k < i
    · have := h.1 k hk hki
      rw [cmpU_self] at this; cases this
    · have h1 := asc_le hL (show i ≤ k by omega) hk
      have h2 := h.2 i hi (Nat.le_refl _)
      exact e (by omega)
theorem parted_none {L : List Su} {x : Su} {i : Nat} (h : Parted L x i i) (hi : ¬ i < L.length) : decide (x ∈ L) = false := decide_eq_false fun hm => by
  obtain ⟨k, hk, rfl⟩ := List.mem_iff_getElem.1 hm
  have := h.1 k hk (by omega)
  rw [cmpU_self] at this; cases this
set_option maxHeartbeats 8000000 in
set_option maxRecDepth 100000 in
theorem bsearch_any (L : List Su) (hL : AscU L) (x : Su) (q : Option Addr) (c : Nat) (hm : L.length ≤ 1000000) (w : World) (hs : Sees w w.heap.size q (rowU L)) :
    Calls Tryd.prog 56 #[.slice q L.length c, .agg (encU x).toArray, .func (.func 52) #[] #[]] w fun e w' => (∃ i : Int, e = .returned (.tuple #[.int .i64 i, .bool (decide (x ∈ L))])) ∧ Below w.heap.size w w' := by
  have HS := Lib.hid hs
  have HA := Lib.hid hL
  have HP0 : Hid (Parted L x 0 L.length) := Lib.hid ⟨fun _ _ h => absurd h (Nat.not_lt_zero _), fun _ hk h => absurd hk (Nat.not_lt.2 h)⟩
  have HW0 := Lib.hid ((Below.refl w.heap.size w).alloc (Nat.le_refl _) (.cells (encU x).toArray 24))
  have HX0 : Hid (Has (w.alloc (.cells (encU x).toArray 24)) w.heap.size 24 (encU x)) := Lib.hid (Has.made' w _ _ _ rfl)
  clear hs hL
  go_enter Tryd.func56, Tryd.ntmps56
  go_wp2_with fail
  generalize w.alloc (.cells (encU x).toArray 24) = w0 at *
  have HXX : Hid (∀ w', Below w0.heap.size w0 w' → ∀ j u, (encU x)[j]? = some u → w'.cell? ((⟨w.heap.size, 0, none⟩ : Addr).add j) = some u) := Lib.hid (fun w' hb j u hu => by rw [add_lit', Nat.zero_add]; exact (HX0.out.keep hb HX0.out.lt).cellv hu)
  generalize hn : L.length = n at *
  have HN := Lib.hid hn
  clear hn HX0
  go_loopw [9, 10] (fun v9 v10 wr => ∃ lo hi : Nat, v9 = .int .i64 lo ∧ v10 = .int .i64 hi ∧ lo ≤ hi ∧ hi ≤ n ∧ Parted L x lo hi ∧ Below w0.heap.size w0 wr) (fun v9 v10 _ => (intOf v10).toNat - (intOf v9).toNat)
  case atStart => exact ⟨0, n, rfl, rfl, by omega, by omega, HP0.out, Below.refl _ _⟩
  case round =>
    clear HP0
    rename_i wr
    obtain ⟨lo, hi, rfl, rfl, hlh, hin, hpar, hB⟩ := hrel
    have HPAR := Lib.hid hpar
    have HB := Lib.hid hB
    clear hpar hB
    by_cases hlt : lo < hi
    · obtain ⟨m, hme⟩ : ∃ m, m = (lo + hi) / 2 := ⟨_, rfl⟩
      have hmi : ((lo : Int) + (hi : Int)) / 2 = (m : Int) := by omega
      have hml : m < n := by omega
      have hmL : m < L.length := by rw [HN.out]; exact hml
      obtain ⟨a, rfl, _, hc⟩ := Ss.el HS.out hmL
      have HUP := Lib.hid (fun hx => parted_up HPAR.out HA.out hmL hx)
      have HDN := Lib.hid (fun hx => parted_down HPAR.out HA.out hmL hx)
      have HV := Lib.hid (cmpU_vals L[m] x)
      generalize hy : L[m] = y at *
      have HC : Hid (∀ w', Below w0.heap.size w0 w' → ∀ j u, (encU y)[j]? = some u → w'.cell? ((a.add (m * 32)).add j) = some u) := Lib.hid (fun w' hb => hc w' (HW0.out.trans (hb.mono HW0.out.size)))
      have hlb : lo ≤ m := by omega
      have hmh : m < hi := by omega
      have HLB := Lib.hid hlb
      have HMH := Lib.hid hmh
      have k1 : (m : Int) < (n : Int) := by omega
      clear hme hc hy hlb hmh
      go_wp2_with fail
      refine wp_region_org [(0, true), (1, true), (2, true), (3, true), (4, true), (5, true), (6, false), (7, true)] (by kernel_rfl) (by kernel_rfl) (by kernel_rfl) ?_
      replace HB := Lib.hid HB.out.drew
      generalize wr.drew = wd at *
      simp only [pickOrs, List.getElem?_cons_zero, List.getElem?_cons_succ]
      refine org_pure (v := ?_) (by kernel_rfl) ?_ ?_
      rotate_left
      · intro w' hv; clear hv; go_simp; try with_reducible rfl
      try simp only [Act.put, List.setIfInBounds_toArray, List.set_cons_zero, List.set_cons_succ]
      refine org_pure (v := ?_) (by kernel_rfl) ?_ ?_
      rotate_left
      · intro w' hv; clear hv; go_simp; try with_reducible rfl
      try simp only [Act.put, List.setIfInBounds_toArray, List.set_cons_zero, List.set_cons_succ]
      refine org_pure (v := ?_) (by kernel_rfl) ?_ ?_
      rotate_left
      · intro w' hv; clear hv; go_simp; try with_reducible rfl
      try simp only [Act.put, List.setIfInBounds_toArray, List.set_cons_zero, List.set_cons_succ]
      refine org_pure (v := ?_) (by kernel_rfl) ?_ ?_
      rotate_left
      · intro w' hv; clear hv; go_simp; try with_reducible rfl
      try simp only [Act.put, List.setIfInBounds_toArray, List.set_cons_zero, List.set_cons_succ]
      refine org_pure (by kernel_rfl) (fun w' hv => load_su 24 (.tmp 27) rfl _ rfl elSum.2.1 szSum y ((fun w' hv => HC.out w' (HB.out.trans (Below.mono hv HB.out.size))) w' hv)) ?_
      try simp only [Act.put, List.setIfInBounds_toArray, List.set_cons_zero, List.set_cons_succ]
      refine org_pure (by kernel_rfl) (fun w' hv => load_su 24 (.tmp 4) rfl _ rfl elSum.2.1 szSum x ((fun w' hv => HXX.out w' (HB.out.trans (Below.mono hv HB.out.size))) w' hv)) ?_
      try simp only [Act.put, List.setIfInBounds_toArray, List.set_cons_zero, List.set_cons_succ]
      refine org_step (by kernel_rfl) (fun K hK => ?_)
      go_wp2_with fail
      refine (cmpS_any y x _).mono ?_
      rintro e wx ⟨rfl, hb⟩
      have HE := Lib.hid hb
      clear hb
      refine hK _ _ ⟨HE.out, ?_⟩
      clear hK
      try simp only [Act.put, List.setIfInBounds_toArray, List.set_cons_zero, List.set_cons_succ]
      replace HB := Lib.hid (HB.out.trans (HE.out.mono HB.out.size))
      clear HE
      rcases HV.out with hv | hv | hv
      · have HNEW := Lib.hid (HUP.out hv)
        rw [hv]
        clear HV hv HUP HDN
        refine org_pure (v := ?_) (by kernel_rfl) ?_ ?_
        rotate_left
        · intro w' hv; clear hv; go_simp; try with_reducible rfl
        try simp only [Act.put, List.setIfInBounds_toArray, List.set_cons_zero, List.set_cons_succ]
        refine org_nil ?_
        go_wp2_with fail
        go_roundw
        case rel => exact ⟨m + 1, hi, by go_num, rfl, by have := HMH.out; omega, hin, HNEW.out, HB.out⟩
        case measure => have h1 := HLB.out; have h2 := HMH.out; simp [intOf]; omega
      · have HNEW := Lib.hid (HDN.out (by rw [hv]; decide))
        rw [hv]
        clear HV hv HUP HDN
        refine org_pure (v := ?_) (by kernel_rfl) ?_ ?_
        rotate_left
        · intro w' hv; clear hv; go_simp; try with_reducible rfl
        try simp only [Act.put, List.setIfInBounds_toArray, List.set_cons_zero, List.set_cons_succ]
        refine org_nil ?_
        go_wp2_with fail
        go_roundw
        case rel => exact ⟨lo, m, rfl, rfl, by have := HLB.out; omega, by omega, HNEW.out, HB.out⟩
        case measure => have h1 := HLB.out; have h2 := HMH.out; simp [intOf]; omega
      · have HNEW := Lib.hid (HDN.out (by rw [hv]; decide))
        rw [hv]
        clear HV hv HUP HDN
        refine org_pure (v := ?_) (by kernel_rfl) ?_ ?_
        rotate_left
        · intro w' hv; clear hv; go_simp; try with_reducible rfl
        try simp only [Act.put, List.setIfInBounds_toArray, List.set_cons_zero, List.set_cons_succ]
        refine org_nil ?_
        go_wp2_with fail
        go_roundw
        case rel => exact ⟨lo, m, rfl, rfl, by have := HLB.out; omega, by omega, HNEW.out, HB.out⟩
        case measure => have h1 := HLB.out; have h2 := HMH.out; simp [intOf]; omega
    · have hee : lo = hi := by omega
      subst hee
      by_cases hln : lo < n
      · have hlL : lo < L.length := by rw [HN.out]; exact hln
        obtain ⟨a, rfl, _, hc⟩ := Ss.el HS.out hlL
        have HF := Lib.hid (parted_found HPAR.out HA.out hlL)
        have HV := Lib.hid (cmpU_vals L[lo] x)
        generalize hy : L[lo] = y at *
        have HC : Hid (∀ w', Below w0.heap.size w0 w' → ∀ j u, (encU y)[j]? = some u → w'.cell? ((a.add (lo * 32)).add j) = some u) := Lib.hid (fun w' hb => hc w' (HW0.out.trans (hb.mono HW0.out.size)))
        have k1 : (lo : Int) < (n : Int) := by omega
        clear hc hy
        go_wp2_with fail
        refine wp_region_org [(0, true), (1, true), (2, true), (3, true), (4, true), (5, true), (6, true), (7, true), (8, true), (9, true), (10, true), (11, false), (12, true), (13, true), (14, true), (15, true)] (by kernel_rfl) (by kernel_rfl) (by kernel_rfl) ?_
        replace HB := Lib.hid HB.out.drew
        generalize wr.drew = wd at *
        simp only [pickOrs, List.getElem?_cons_zero, List.getElem?_cons_succ]
        refine org_pure (v := ?_) (by kernel_rfl) ?_ ?_
        rotate_left
        · intro w' hv; clear hv; go_simp; try with_reducible rfl
        try simp only [Act.put, List.setIfInBounds_toArray, List.set_cons_zero, List.set_cons_succ]
        refine org_pure (v := ?_) (by kernel_rfl) ?_ ?_
        rotate_left
        · intro w' hv; clear hv; go_simp; try with_reducible rfl
        try simp only [Act.put, List.setIfInBounds_toArray, List.set_cons_zero, List.set_cons_succ]
        refine org_pure (v := ?_) (by kernel_rfl) ?_ ?_
        rotate_left
        · intro w' hv; clear hv; go_simp; try with_reducible rfl
        try simp only [Act.put, List.setIfInBounds_toArray, List.set_cons_zero, List.set_cons_succ]
        refine org_pure (v := ?_) (by kernel_rfl) ?_ ?_
        rotate_left
        · intro w' hv; clear hv; go_simp; try with_reducible rfl
        try simp only [Act.put, List.setIfInBounds_toArray, List.set_cons_zero, List.set_cons_succ]
        refine org_pure (v := ?_) (by kernel_rfl) ?_ ?_
        rotate_left
        · intro w' hv; clear hv; go_simp; try with_reducible rfl
        try simp only [Act.put, List.setIfInBounds_toArray, List.set_cons_zero, List.set_cons_succ]
        refine org_pure (v := ?_) (by kernel_rfl) ?_ ?_
        rotate_left
        · intro w' hv; clear hv; go_simp; try with_reducible rfl
        try simp only [Act.put, List.setIfInBounds_toArray, List.set_cons_zero, List.set_cons_succ]
        refine org_pure (v := ?_) (by kernel_rfl) ?_ ?_
        rotate_left
        · intro w' hv; clear hv; go_simp; try with_reducible rfl
        try simp only [Act.put, List.setIfInBounds_toArray, List.set_cons_zero, List.set_cons_succ]
        refine org_pure (v := ?_) (by kernel_rfl) ?_ ?_
        rotate_left
        · intro w' hv; clear hv; go_simp; try with_reducible rfl
        try simp only [Act.put, List.setIfInBounds_toArray, List.set_cons_zero, List.set_cons_succ]
        refine org_pure (v := ?_) (by kernel_rfl) ?_ ?_
        rotate_left
        · intro w' hv; clear hv; go_simp; try with_reducible rfl
        try simp only [Act.put, List.setIfInBounds_toArray, List.set_cons_zero, List.set_cons_succ]
        refine org_pure (by kernel_rfl) (fun w' hv => load_su 24 (.tmp 43) rfl _ rfl elSum.2.1 szSum y ((fun w' hv => HC.out w' (HB.out.trans (Below.mono hv HB.out.size))) w' hv)) ?_
        try simp only [Act.put, List.setIfInBounds_toArray, List.set_cons_zero, List.set_cons_succ]
        refine org_pure (by kernel_rfl) (fun w' hv => load_su 24 (.tmp 4) rfl _ rfl elSum.2.1 szSum x ((fun w' hv => HXX.out w' (HB.out.trans (Below.mono hv HB.out.size))) w' hv)) ?_
        try simp only [Act.put, List.setIfInBounds_toArray, List.set_cons_zero, List.set_cons_succ]
        refine org_step (by kernel_rfl) (fun K hK => ?_)
        go_wp2_with fail
        refine (cmpS_any y x _).mono ?_
        rintro e wx ⟨rfl, hb⟩
        have HE := Lib.hid hb
        clear hb
        refine hK _ _ ⟨HE.out, ?_⟩
        clear hK
        try simp only [Act.put, List.setIfInBounds_toArray, List.set_cons_zero, List.set_cons_succ]
        replace HB := Lib.hid (HB.out.trans (HE.out.mono HB.out.size))
        clear HE
        rcases HV.out with hv | hv | hv
        · rw [hv] at HF ⊢
          have HR : Hid (decide (x ∈ L) = false) := Lib.hid (by rw [← HF.out]; decide)
          clear HV hv HF
          refine org_pure (v := ?_) (by kernel_rfl) ?_ ?_
          rotate_left
          · intro w' hv; clear hv; go_simp; try with_reducible rfl
          try simp only [Act.put, List.setIfInBounds_toArray, List.set_cons_zero, List.set_cons_succ]
          refine org_pure (v := ?_) (by kernel_rfl) ?_ ?_
          rotate_left
          · intro w' hv; clear hv; go_simp; try with_reducible rfl
          try simp only [Act.put, List.setIfInBounds_toArray, List.set_cons_zero, List.set_cons_succ]
          refine org_pure (v := ?_) (by kernel_rfl) ?_ ?_
          rotate_left
          · intro w' hv; clear hv; go_simp; try with_reducible rfl
          try simp only [Act.put, List.setIfInBounds_toArray, List.set_cons_zero, List.set_cons_succ]
          refine org_pure (v := ?_) (by kernel_rfl) ?_ ?_
          rotate_left
          · intro w' hv; clear hv; go_simp; try with_reducible rfl
          try simp only [Act.put, List.setIfInBounds_toArray, List.set_cons_zero, List.set_cons_succ]
          refine org_nil ?_
          go_wp2_with fail
          (try simp only [Exit.inBlock, Exit.then]); refine bodyPost_ret (results_tmp2 rfl _ _ _) rfl ?_
          exact ⟨⟨lo, congrArg (fun b => Ending.returned (.tuple #[.int .i64 lo, .bool b])) HR.out.symm⟩, HW0.out.trans (HB.out.mono HW0.out.size)⟩
        · rw [hv] at HF ⊢
          have HR : Hid (decide (x ∈ L) = true) := Lib.hid (by rw [← HF.out]; decide)
          clear HV hv HF
          refine org_pure (v := ?_) (by kernel_rfl) ?_ ?_
          rotate_left
          · intro w' hv; clear hv; go_simp; try with_reducible rfl
          try simp only [Act.put, List.setIfInBounds_toArray, List.set_cons_zero, List.set_cons_succ]
          refine org_pure (v := ?_) (by kernel_rfl) ?_ ?_
          rotate_left
          · intro w' hv; clear hv; go_simp; try with_reducible rfl
          try simp only [Act.put, List.setIfInBounds_toArray, List.set_cons_zero, List.set_cons_succ]
          refine org_pure (v := ?_) (by kernel_rfl) ?_ ?_
          rotate_left
          · intro w' hv; clear hv; go_simp; try with_reducible rfl
          try simp only [Act.put, List.setIfInBounds_toArray, List.set_cons_zero, List.set_cons_succ]
          refine org_pure (v := ?_) (by kernel_rfl) ?_ ?_
          rotate_left
          · intro w' hv; clear hv; go_simp; try with_reducible rfl
          try simp only [Act.put, List.setIfInBounds_toArray, List.set_cons_zero, List.set_cons_succ]
          refine org_nil ?_
          go_wp2_with fail
          (try simp only [Exit.inBlock, Exit.then]); refine bodyPost_ret (results_tmp2 rfl _ _ _) rfl ?_
          exact ⟨⟨lo, congrArg (fun b => Ending.returned (.tuple #[.int .i64 lo, .bool b])) HR.out.symm⟩, HW0.out.trans (HB.out.mono HW0.out.size)⟩
        · rw [hv] at HF ⊢
          have HR : Hid (decide (x ∈ L) = false) := Lib.hid (by rw [← HF.out]; decide)
          clear HV hv HF
          refine org_pure (v := ?_) (by kernel_rfl) ?_ ?_
          rotate_left
          · intro w' hv; clear hv; go_simp; try with_reducible rfl
          try simp only [Act.put, List.setIfInBounds_toArray, List.set_cons_zero, List.set_cons_succ]
          refine org_pure (v := ?_) (by kernel_rfl) ?_ ?_
          rotate_left
          · intro w' hv; clear hv; go_simp; try with_reducible rfl
          try simp only [Act.put, List.setIfInBounds_toArray, List.set_cons_zero, List.set_cons_succ]
          refine org_pure (v := ?_) (by kernel_rfl) ?_ ?_
          rotate_left
          · intro w' hv; clear hv; go_simp; try with_reducible rfl
          try simp only [Act.put, List.setIfInBounds_toArray, List.set_cons_zero, List.set_cons_succ]
          refine org_pure (v := ?_) (by kernel_rfl) ?_ ?_
          rotate_left
          · intro w' hv; clear hv; go_simp; try with_reducible rfl
          try simp only [Act.put, List.setIfInBounds_toArray, List.set_cons_zero, List.set_cons_succ]
          refine org_nil ?_
          go_wp2_with fail
          (try simp only [Exit.inBlock, Exit.then]); refine bodyPost_ret (results_tmp2 rfl _ _ _) rfl ?_
          exact ⟨⟨lo, congrArg (fun b => Ending.returned (.tuple #[.int .i64 lo, .bool b])) HR.out.symm⟩, HW0.out.trans (HB.out.mono HW0.out.size)⟩
      · have HR := Lib.hid (parted_none HPAR.out (by rw [HN.out]; exact hln))
        have k1 : ¬ (lo : Int) < (n : Int) := by omega
        go_wp2_with fail
        refine wp_region_org [(0, true), (1, true), (2, true), (3, true), (4, true), (5, true), (6, true), (7, true), (8, true), (9, true), (10, true), (11, false), (12, true), (13, true), (14, true), (15, true)] (by kernel_rfl) (by kernel_rfl) (by kernel_rfl) ?_
        replace HB := Lib.hid HB.out.drew
        generalize wr.drew = wd at *
        simp only [pickOrs, List.getElem?_cons_zero, List.getElem?_cons_succ]
        refine org_pure (v := ?_) (by kernel_rfl) ?_ ?_
        rotate_left
        · intro w' hv; clear hv; go_simp; try with_reducible rfl
        try simp only [Act.put, List.setIfInBounds_toArray, List.set_cons_zero, List.set_cons_succ]
        refine org_pure (v := ?_) (by kernel_rfl) ?_ ?_
        rotate_left
        · intro w' hv; clear hv; go_simp; try with_reducible rfl
        try simp only [Act.put, List.setIfInBounds_toArray, List.set_cons_zero, List.set_cons_succ]
        refine org_pure (v := ?_) (by kernel_rfl) ?_ ?_
        rotate_left
        · intro w' hv; clear hv; go_simp; try with_reducible rfl
        try simp only [Act.put, List.setIfInBounds_toArray, List.set_cons_zero, List.set_cons_succ]
        refine org_pure (v := ?_) (by kernel_rfl) ?_ ?_
        rotate_left
        · intro w' hv; clear hv; go_simp; try with_reducible rfl
        try simp only [Act.put, List.setIfInBounds_toArray, List.set_cons_zero, List.set_cons_succ]
        refine org_pure (v := ?_) (by kernel_rfl) ?_ ?_
        rotate_left
        · intro w' hv; clear hv; go_simp; try with_reducible rfl
        try simp only [Act.put, List.setIfInBounds_toArray, List.set_cons_zero, List.set_cons_succ]
        refine org_skip (by kernel_rfl) ?_
        try simp only [Act.put, List.setIfInBounds_toArray, List.set_cons_zero, List.set_cons_succ]
        refine org_skip (by kernel_rfl) ?_
        try simp only [Act.put, List.setIfInBounds_toArray, List.set_cons_zero, List.set_cons_succ]
        refine org_skip (by kernel_rfl) ?_
        try simp only [Act.put, List.setIfInBounds_toArray, List.set_cons_zero, List.set_cons_succ]
        refine org_skip (by kernel_rfl) ?_
        try simp only [Act.put, List.setIfInBounds_toArray, List.set_cons_zero, List.set_cons_succ]
        refine org_skip (by kernel_rfl) ?_
        try simp only [Act.put, List.setIfInBounds_toArray, List.set_cons_zero, List.set_cons_succ]
        refine org_skip (by kernel_rfl) ?_
        try simp only [Act.put, List.setIfInBounds_toArray, List.set_cons_zero, List.set_cons_succ]
        refine org_pass (by kernel_rfl) ?_
        try simp only [Act.put, List.setIfInBounds_toArray, List.set_cons_zero, List.set_cons_succ]
        refine org_skip (by kernel_rfl) ?_
        try simp only [Act.put, List.setIfInBounds_toArray, List.set_cons_zero, List.set_cons_succ]
        refine org_pure (v := ?_) (by kernel_rfl) ?_ ?_
        rotate_left
        · intro w' hv; clear hv; go_simp; try with_reducible rfl
        try simp only [Act.put, List.setIfInBounds_toArray, List.set_cons_zero, List.set_cons_succ]
        refine org_pure (v := ?_) (by kernel_rfl) ?_ ?_
        rotate_left
        · intro w' hv; clear hv; go_simp; try with_reducible rfl
        try simp only [Act.put, List.setIfInBounds_toArray, List.set_cons_zero, List.set_cons_succ]
        refine org_pure (v := ?_) (by kernel_rfl) ?_ ?_
        rotate_left
        · intro w' hv; clear hv; go_simp; try with_reducible rfl
        try simp only [Act.put, List.setIfInBounds_toArray, List.set_cons_zero, List.set_cons_succ]
        refine org_nil ?_
        go_wp2_with fail
        (try simp only [Exit.inBlock, Exit.then]); refine bodyPost_ret (results_tmp2 rfl _ _ _) rfl ?_
        exact ⟨⟨lo, congrArg (fun b => Ending.returned (.tuple #[.int .i64 lo, .bool b])) HR.out.symm⟩, HW0.out.trans (HB.out.mono HW0.out.size)⟩
set_option maxHeartbeats 4000000 in
theorem has_any (L : List Su) (x : Su) (q : Option Addr) (c : Nat) (hm : L.length ≤ 1000000) (w : World) (hs : Sees w w.heap.size q (rowU L)) :
    Calls Tryd.prog 31 #[.slice q L.length c, .agg (encU x).toArray] w fun e w' => e = .returned (.bool (goodU L && decide (x ∈ L))) ∧ Below w.heap.size w w' := by
  have HW0 := Lib.hid ((Below.refl w.heap.size w).alloc (Nat.le_refl _) (.cells (encU x).toArray 24))
  have HX0 : Hid (Has (w.alloc (.cells (encU x).toArray 24)) w.heap.size 24 (encU x)) := Lib.hid (Has.made' w _ _ _ rfl)
  have HG := Lib.hid (fun w1 (hb : Below w.heap.size w w1) => good_any L q c (by omega) w1 ((hs.keep hb).more hb.size))
  cases hg : goodU L with
  | false =>
    have HF : Hid (goodU L = false) := Lib.hid hg
    rw [hg] at HG
    clear hs hg
    go_enter Tryd.func31, Tryd.ntmps31
    go_wp2_with ((with_reducible refine (HG.out _ HW0.out).mono ?_); rintro e w1 ⟨rfl, h1⟩; have HB1 := Lib.hid (HW0.out.trans (h1.mono HW0.out.size)); clear h1)
    go_ret
    exact ⟨rfl, HB1.out⟩
  | true =>
    have hasc : AscU L := by unfold goodU at hg; simp at hg; exact hg.2
    have HS := Lib.hid (fun w1 (hb : Below w.heap.size w w1) => bsearch_any L hasc x q c hm w1 ((hs.keep hb).more hb.size))
    rw [hg] at HG
    clear hs hg hasc
    go_enter Tryd.func31, Tryd.ntmps31
    go_wp2_with (first
      | ((with_reducible refine (HG.out _ HW0.out).mono ?_); rintro e w1 ⟨rfl, h1⟩; have HX1 : Hid (∀ j u, (encU x)[j]? = some u → w1.cell? ((⟨w.heap.size, 0, none⟩ : Addr).add j) = some u) := Lib.hid (fun j u hu => by rw [add_lit', Nat.zero_add]; exact (HX0.out.keep h1 HX0.out.lt).cellv hu); have HB1 := Lib.hid (HW0.out.trans (h1.mono HW0.out.size)); clear h1)
      | (refine wpList_load_su rfl 24 (.tmp 3) rfl _ rfl elSum.2.1 szSum x HX1.out ?_)
      | ((with_reducible refine (HS.out _ HB1.out).mono ?_); rintro e w2 ⟨⟨i, rfl⟩, h1⟩; have HB2 := Lib.hid (HB1.out.trans (h1.mono HB1.out.size)); clear h1))
    go_ret
    exact ⟨(by rw [Bool.true_and]; rfl), HB2.out⟩
theorem eq_at {A B : List Su} (h : A.length = B.length) (ha : ∀ k (h1 : k < A.length) (h2 : k < B.length), A[k] = B[k]) : A = B := List.ext_getElem h ha
set_option maxHeartbeats 8000000 in
set_option maxRecDepth 100000 in
theorem equal_any (A B : List Su) (qa qb : Option Addr) (ca cb : Nat) (hA : A.length ≤ 1000000) (w : World) (ha : Sees w w.heap.size qa (rowU A)) (hb : Sees w w.heap.size qb (rowU B)) :
    Calls Tryd.prog 61 #[.slice qa A.length ca, .slice qb B.length cb] w fun e w' => e = .returned (.bool (decide (A = B))) ∧ Below w.heap.size w w' := by
  by_cases hl : A.length = B.length
  · have HSA := Lib.hid ha
    have HSB := Lib.hid hb
    have HLL := Lib.hid hl
    clear ha hb
    rw [← hl]
    generalize hn : A.length = n at *
    have HN := Lib.hid hn
    clear hn hl
    go_enter Tryd.func61, Tryd.ntmps61
    go_wp2_with fail
    go_loopw [13] (fun v wr => ∃ i : Nat, i ≤ n ∧ v = .int .i64 i ∧ (∀ k (h1 : k < A.length) (h2 : k < B.length), k < i → A[k] = B[k]) ∧ Below w.heap.size w wr) (fun v _ => n - (intOf v).toNat)
    case atStart => exact ⟨0, by omega, rfl, fun k _ _ h => by omega, Below.refl _ _⟩
    case round =>
      rename_i wr
      obtain ⟨i, hi, rfl, hall, hB⟩ := hrel
      have HALL := Lib.hid hall
      have HB := Lib.hid hB
      clear hall hB
      by_cases hlt : i < n
      · have hiA : i < A.length := by rw [HN.out]; exact hlt
        have hiB : i < B.length := by rw [← HLL.out]; exact hlt
        obtain ⟨a, rfl, _, hc⟩ := Ss.el HSA.out hiA
        obtain ⟨b, rfl, _, hc2⟩ := Ss.el HSB.out hiB
        have HNEW : Hid (A[i] = B[i] → ∀ k (h1 : k < A.length) (h2 : k < B.length), k < i + 1 → A[k] = B[k]) := Lib.hid (fun h k h1 h2 hk => by
          by_cases e : k = i
          · subst e; exact h
          · exact HALL.out k h1 h2 (by omega))
        have HBAD : Hid (A[i] ≠ B[i] → decide (A = B) = false) := Lib.hid (fun h => decide_eq_false fun e => h (by subst e; rfl))
        generalize A[i] = x at *
        generalize B[i] = y at *
        have HC := Lib.hid hc
        have HC2 := Lib.hid hc2
        have k1 : (i : Int) < (n : Int) := by omega
        clear hc hc2
        go_wp2_with fail
        refine wp_region_org [(0, true), (1, true), (2, true), (3, true), (4, true), (5, true), (6, true), (7, true), (8, true)] (by kernel_rfl) (by kernel_rfl) (by kernel_rfl) ?_
        replace HB := Lib.hid HB.out.drew
        generalize wr.drew = wd at *
        simp only [pickOrs, List.getElem?_cons_zero, List.getElem?_cons_succ]
        refine org_pure (v := ?_) (by kernel_rfl) ?_ ?_
        rotate_left
        · intro w' hv; clear hv; go_simp; try with_reducible rfl
        try simp only [Act.put, List.setIfInBounds_toArray, List.set_cons_zero, List.set_cons_succ]
        refine org_pure (v := ?_) (by kernel_rfl) ?_ ?_
        rotate_left
        · intro w' hv; clear hv; go_simp; try with_reducible rfl
        try simp only [Act.put, List.setIfInBounds_toArray, List.set_cons_zero, List.set_cons_succ]
        refine org_pure (v := ?_) (by kernel_rfl) ?_ ?_
        rotate_left
        · intro w' hv; clear hv; go_simp; try with_reducible rfl
        try simp only [Act.put, List.setIfInBounds_toArray, List.set_cons_zero, List.set_cons_succ]
        refine org_pure (by kernel_rfl) (fun w' hv => load_su 24 (.tmp 18) rfl _ rfl elSum.2.1 szSum x ((fun w' hv => HC.out w' (HB.out.trans (Below.mono hv HB.out.size))) w' hv)) ?_
        try simp only [Act.put, List.setIfInBounds_toArray, List.set_cons_zero, List.set_cons_succ]
        refine org_pure (v := ?_) (by kernel_rfl) ?_ ?_
        rotate_left
        · intro w' hv; clear hv; go_simp; try with_reducible rfl
        try simp only [Act.put, List.setIfInBounds_toArray, List.set_cons_zero, List.set_cons_succ]
        refine org_pure (v := ?_) (by kernel_rfl) ?_ ?_
        rotate_left
        · intro w' hv; clear hv; go_simp; try with_reducible rfl
        try simp only [Act.put, List.setIfInBounds_toArray, List.set_cons_zero, List.set_cons_succ]
        refine org_pure (v := ?_) (by kernel_rfl) ?_ ?_
        rotate_left
        · intro w' hv; clear hv; go_simp; try with_reducible rfl
        try simp only [Act.put, List.setIfInBounds_toArray, List.set_cons_zero, List.set_cons_succ]
        refine org_pure (by kernel_rfl) (fun w' hv => load_su 24 (.tmp 22) rfl _ rfl elSum.2.1 szSum y ((fun w' hv => HC2.out w' (HB.out.trans (Below.mono hv HB.out.size))) w' hv)) ?_
        try simp only [Act.put, List.setIfInBounds_toArray, List.set_cons_zero, List.set_cons_succ]
        refine org_pure (by kernel_rfl) (fun w' hv => neq_su 24 (.tmp 19) (.tmp 23) _ rfl x y rfl rfl elSum.2.1 gdSum) ?_
        try simp only [Act.put, List.setIfInBounds_toArray, List.set_cons_zero, List.set_cons_succ]
        refine org_nil ?_
        by_cases hxy : x = y
        · have HN2 := Lib.hid (HNEW.out hxy)
          rw [decide_eq_true hxy]
          clear HNEW HBAD hxy
          go_wp2_with fail
          go_roundw
          case rel => exact ⟨i + 1, by omega, by go_num, HN2.out, HB.out⟩
          case measure => simp [intOf]; omega
        · have HN2 := Lib.hid (HBAD.out hxy)
          rw [decide_eq_false hxy]
          clear HNEW HBAD hxy
          go_wp2_with fail
          go_ret
          exact ⟨congrArg (fun b => Ending.returned (.bool b)) HN2.out.symm, HB.out⟩
      · have hil : i = n := by omega
        subst hil
        have HR : Hid (decide (A = B) = true) := Lib.hid (decide_eq_true (eq_at (by rw [HN.out]; exact HLL.out) fun k h1 h2 => HALL.out k h1 h2 (by rw [← HN.out]; exact h1)))
        have k1 : ¬ (i : Int) < (i : Int) := by omega
        go_wp2_with fail
        go_ret
        exact ⟨congrArg (fun b => Ending.returned (.bool b)) HR.out.symm, HB.out⟩
  · have k1 : ¬ (A.length : Int) = (B.length : Int) := by omega
    have HR : Hid (decide (A = B) = false) := Lib.hid (decide_eq_false fun e => hl (by rw [e]))
    clear ha hb hl
    generalize A.length = n at *
    generalize B.length = m at *
    go_enter Tryd.func61, Tryd.ntmps61
    go_wp2_with fail
    go_ret
    exact ⟨congrArg (fun b => Ending.returned (.bool b)) HR.out.symm, Below.refl _ _⟩
set_option maxHeartbeats 4000000 in
theorem same_any (A B : List Su) (qa qb : Option Addr) (ca cb : Nat) (hA : A.length ≤ 1000000) (w : World) (ha : Sees w w.heap.size qa (rowU A)) (hb : Sees w w.heap.size qb (rowU B)) :
    Calls Tryd.prog 40 #[.slice qa A.length ca, .slice qb B.length cb] w fun e w' => e = .returned (.bool (goodU A && decide (A = B))) ∧ Below w.heap.size w w' := by
  have HG := Lib.hid (good_any A qa ca (by omega) w ha)
  have HE := Lib.hid (fun w1 (hw : Below w.heap.size w w1) => equal_any A B qa qb ca cb hA w1 ((ha.keep hw).more hw.size) ((hb.keep hw).more hw.size))
  clear ha hb
  cases hg : goodU A with
  | false =>
    rw [hg] at HG
    clear hg
    go_enter Tryd.func40, Tryd.ntmps40
    go_wp2_with ((with_reducible refine HG.out.mono ?_); rintro e w1 ⟨rfl, h1⟩; have HB1 := Lib.hid h1; clear h1)
    go_ret
    exact ⟨(by rw [Bool.false_and]; rfl), HB1.out⟩
  | true =>
    rw [hg] at HG
    clear hg
    go_enter Tryd.func40, Tryd.ntmps40
    go_wp2_with (first | ((with_reducible refine HG.out.mono ?_); rintro e w1 ⟨rfl, h1⟩; have HB1 := Lib.hid h1; clear h1) | ((with_reducible refine (HE.out _ HB1.out).mono ?_); rintro e w2 ⟨rfl, h1⟩; have HB2 := Lib.hid (HB1.out.trans (h1.mono HB1.out.size)); clear h1))
    go_ret
    exact ⟨(by rw [Bool.true_and]; rfl), HB2.out⟩
end Go.Proofs.YtihkbblapfjobaaDoor
/- Package set's calls over values that are told by what they read as: a slice's place, its length, its room, its sums. Condition: at most 10^6 sums each. -/
namespace Go.Proofs.YtihkbblapfjobaaDoor
open Go.RowKit
/-- The slice of n sums with room c reads as L. -/
def U (w : World) (q : Option Addr) (n c : Nat) (L : List Su) : Prop := L.length = n ∧ n ≤ c ∧ (q = none → c = 0) ∧ Sees w w.heap.size q (rowU L)
theorem U.len {w : World} {q : Option Addr} {n c : Nat} {L : List Su} (h : U w q n c L) : L.length = n := h.1
theorem U.keep {w w' : World} {q : Option Addr} {n c : Nat} {L : List Su} (h : U w q n c L) (hb : Below w.heap.size w w') : U w' q n c L := ⟨h.1, h.2.1, h.2.2.1, (h.2.2.2.keep hb).more hb.size⟩
theorem U.drew {w : World} {q : Option Addr} {n c : Nat} {L : List Su} (h : U w q n c L) : U w.drew q n c L := h
theorem U.of {w : World} {v : Value} {L : List Su} (h : Us w v L) : ∃ q n c, v = .slice q n c ∧ U w q n c L := by
  obtain ⟨q, c, h1, h2, h3, h4⟩ := h
  exact ⟨q, L.length, c, h1, rfl, h2, h3, h4⟩
theorem U.eq {w : World} {q : Option Addr} {n c : Nat} {L M : List Su} (h : U w q n c L) (e : L = M) : U w q n c M := e ▸ h
/-- A call that answers a set. -/
abbrev Ans (P : Program) (f : FuncId) (args : Array Value) (w : World) (L : List Su) : Prop := Calls P f args w fun e w' => (∃ q n c, e = .returned (.slice q n c) ∧ U w' q n c L) ∧ Below w.heap.size w w'
theorem ans_of {f : FuncId} {args : Array Value} {w : World} {L : List Su} {E : TypeId} (h : Calls Tryd.prog f args w fun e w' => (∃ v, e = .returned v ∧ OwnU w' w.heap.size E v L) ∧ Below w.heap.size w w') : Ans Tryd.prog f args w L := by
  refine Calls.mono h ?_
  rintro e w' ⟨⟨v, rfl, h1⟩, h2⟩
  obtain ⟨q, n, c, rfl, h3⟩ := U.of h1.us
  exact ⟨⟨q, n, c, rfl, h3⟩, h2⟩
theorem u_of {w : World} {q : Option Addr} {n c : Nat} {L : List Su} (h : U w q n c L) (hn : n ≤ 1000000) : Ans Tryd.prog 26 #[.slice q n c] w (srt L) := by
  obtain ⟨rfl, h2, h3, h4⟩ := h
  exact ans_of (setOf_any L q c hn w h4)
theorem u_row {w : World} {q : Option Addr} {n c : Nat} {L : List Su} (h : L.length = n ∧ Sees w w.heap.size q (rowU L)) (hn : n ≤ 100000) : Ans Tryd.prog 24 #[.slice q n c] w L := by
  obtain ⟨rfl, h4⟩ := h
  exact ans_of (row_any L q c hn w h4)
theorem u_minus {w : World} {qa qb : Option Addr} {na nb ca cb : Nat} {A B : List Su} (ha : U w qa na ca A) (hb : U w qb nb cb B) (h1 : na ≤ 1000000) (h2 : nb ≤ 1000000) : Ans Tryd.prog 34 #[.slice qa na ca, .slice qb nb cb] w (minU A B) := by
  obtain ⟨rfl, a2, a3, a4⟩ := ha
  obtain ⟨rfl, b2, b3, b4⟩ := hb
  exact ans_of (setMinus_any A B qa qb ca cb h1 h2 a2 b2 a3 b3 w a4 b4)
theorem u_both {w : World} {qa qb : Option Addr} {na nb ca cb : Nat} {A B : List Su} (ha : U w qa na ca A) (hb : U w qb nb cb B) (h1 : na ≤ 1000000) (h2 : nb ≤ 1000000) : Ans Tryd.prog 36 #[.slice qa na ca, .slice qb nb cb] w (botU A B) := by
  obtain ⟨rfl, a2, a3, a4⟩ := ha
  obtain ⟨rfl, b2, b3, b4⟩ := hb
  exact ans_of (setBoth_any A B qa qb ca cb h1 h2 a2 b2 a3 b3 w a4 b4)
theorem u_either {w : World} {qa qb : Option Addr} {na nb ca cb : Nat} {A B : List Su} (ha : U w qa na ca A) (hb : U w qb nb cb B) (h1 : na ≤ 1000000) (h2 : nb ≤ 1000000) : Ans Tryd.prog 38 #[.slice qa na ca, .slice qb nb cb] w (eitU A B) := by
  obtain ⟨rfl, a2, a3, a4⟩ := ha
  obtain ⟨rfl, b2, b3, b4⟩ := hb
  exact ans_of (setEither_any A B qa qb ca cb h1 h2 a2 b2 a3 b3 w a4 b4)
/-- A call that answers yes or no. -/
abbrev Tells (P : Program) (f : FuncId) (args : Array Value) (w : World) (b : Bool) : Prop := Calls P f args w fun e w' => e = .returned (.bool b) ∧ Below w.heap.size w w'
theorem u_same {w : World} {qa qb : Option Addr} {na nb ca cb : Nat} {A B : List Su} (ha : U w qa na ca A) (hb : U w qb nb cb B) (h1 : na ≤ 1000000) (r : Bool) (hr : (goodU A && decide (A = B)) = r) : Tells Tryd.prog 40 #[.slice qa na ca, .slice qb nb cb] w r := by
  obtain ⟨rfl, _, _, a4⟩ := ha
  obtain ⟨rfl, _, _, b4⟩ := hb
  subst hr
  exact same_any A B qa qb ca cb h1 w a4 b4
theorem u_good {w : World} {q : Option Addr} {n c : Nat} {L : List Su} (h : U w q n c L) (hn : n ≤ 1000000) (r : Bool) (hr : goodU L = r) : Tells Tryd.prog 30 #[.slice q n c] w r := by
  obtain ⟨rfl, _, _, h4⟩ := h
  subst hr
  exact good_any L q c (by omega) w h4
theorem u_has {w : World} {q : Option Addr} {n c : Nat} {L : List Su} {x : Su} (h : U w q n c L) (hn : n ≤ 1000000) (r : Bool) (hr : (goodU L && decide (x ∈ L)) = r) : Tells Tryd.prog 31 #[.slice q n c, .agg (encU x).toArray] w r := by
  obtain ⟨rfl, _, _, h4⟩ := h
  subst hr
  exact has_any L x q c hn w h4
theorem goodU_of {L : List Su} (h : AscU L) (hl : L.length ≤ 512) : goodU L = true := by unfold goodU; rw [decide_eq_true h, decide_eq_true hl]; rfl
theorem same_true {A B : List Su} (h : AscU A) (hl : A.length ≤ 512) (e : A = B) : (goodU A && decide (A = B)) = true := by rw [goodU_of h hl, decide_eq_true e]; rfl
end Go.Proofs.YtihkbblapfjobaaDoor
