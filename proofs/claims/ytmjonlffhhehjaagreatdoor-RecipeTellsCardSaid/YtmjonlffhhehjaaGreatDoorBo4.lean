/- The law RecipeTells: it answers true. Conditions: the arguments read as entries, of at most 2^61 bytes in all where there are at most forty; the sums' tables are laid. -/
import Derived.Test.YtmjonlffhhehjaaGreatDoorBo3
import Derived.Test.YtmjonlffhhehjaaGreatDoorRows
import Derived.Test.YtmjonlffhhehjaaGreatDoorBc1
import Derived.Lay
import Derived.Lib.LaidTab
import Derived.ProofKit
import Derived.LaidMore
import Derived.OpenShut
import Derived.Stop.Joined
import Derived.Stop.LaidErr
import Derived.Below
import Derived.ShutString
import Derived.Test.YtmjonlffhhehjaaGreatDoorBa1
import Derived.Test.YtmjonlffhhehjaaGreatDoorBt1
import Derived.SliceStrings
import Derived.ChangeMaps5
import Derived.Lib.SmallJoins
import Derived.SizedLaws
import Derived.Test.YtmjonlffhhehjaaGreatDoorBs1
import Derived.Deep.Slices
import Derived.ChangeSame
namespace Go.Proofs.YtmjonlffhhehjaaGreatDoor
open Go.RowKit
theorem like_lines : ∀ {C D : List Ent}, likeT C D = true → C.map lineP = D.map lineP
  | [], [], _ => rfl
  | [], _ :: _, h => by cases h
  | _ :: _, [], h => by cases h
  | a :: C, b :: D, h => by
    unfold likeT eqE at h
    rw [Bool.and_eq_true, Bool.and_eq_true, Bool.and_eq_true, beq_iff_eq, beq_iff_eq, decide_eq_true_iff] at h
    obtain ⟨⟨h1, h2, h3⟩, h4⟩ := h
    rw [List.map_cons, List.map_cons, like_lines h4]
    congr 1
    obtain ⟨a1, a2, a3, a4⟩ := a
    obtain ⟨b1, b2, b3, b4⟩ := b
    have e1 : a1 = b1 := by
      have h1' : a1.data.toList = b1.data.toList := h1
      cases a1; cases b1
      congr 1
      exact Array.toList_inj.1 h1'
    have e2 : a2 = b2 := h2
    have e3 : a4 = b4 := h3
    subst e1; subst e2; subst e3
    rfl
theorem same_of {A B : List Ent} (hA : goodP A = true) (hB : goodP B = true) (h : sameT (cleanP A) (cleanP B) = true) : ofP A = ofP B := by
  unfold sameT at h
  rw [Bool.and_eq_true, Bool.and_eq_true] at h
  unfold ofP
  rw [if_pos hA, if_pos hB]
  exact like_lines h.2.2
theorem of_good12 {A : List Ent} (hA : goodP A = true) : goodK (ofP A) = true := by
  unfold ofP; rw [if_pos hA]; exact good_of_good hA
theorem good_bytes' {C : List Ent} (h : goodP C = true) : C.length ≤ 40 ∧ bytesT C ≤ 16384 := by
  have h1 := ((goodP_iff C).1 h).1
  unfold fitsT at h1
  rw [Bool.and_eq_true, decide_eq_true_iff, decide_eq_true_iff] at h1
  exact h1
theorem ofP_small {A : List Ent} {R : List Ln} (h : R.map keyL = ofP A) (hA : goodP A = true) : R.length ≤ 40 ∧ ∀ l ∈ R, l.1.size ≤ 68 ∧ l.2.2.2.2.length ≤ 2048 := by
  have hg := of_good12 hA
  rw [← h] at hg
  refine ⟨by have := (goodK_parts hg).1; rwa [List.length_map] at this, fun l hl => ⟨goodK_size hg (keyL l) (List.mem_map_of_mem hl), okLn_names ((goodK_parts hg).2.1 (keyL l) (List.mem_map_of_mem hl))⟩⟩
set_option maxHeartbeats 32000000 in
set_option maxRecDepth 100000 in
theorem recipeTells_any (A B : List Ent) (qa qb : Option Addr) (ca cb : Nat) (hca : A.length ≤ ca) (hcb : B.length ≤ cb) (hqa : qa = none → ca = 0) (hqb : qb = none → cb = 0)
    (hba : A.length ≤ 40 → bytesT A ≤ 2305843009213693952) (hbb : B.length ≤ 40 → bytesT B ≤ 2305843009213693952) (hna : ∀ e ∈ A, e.1.size < 9223372036854775808) (hnb : ∀ e ∈ B, e.1.size < 9223372036854775808) (w : World) (hsa : Sees w w.heap.size qa (rowC A)) (hsb : Sees w w.heap.size qb (rowC B)) (hEA : Ents w A) (hEB : Ents w B) (hL : Laid w) :
    Calls Tryz.prog 6 #[.slice qa A.length ca, .slice qb B.length cb] w fun e w' => e = .returned (.bool true) ∧ Below w.heap.size w w' := by
  have HL := Lib.hid hL
  have HSZ := Lib.hid hL.size
  have HAW := Lib.hid (awake12_any w hL)
  have HGA : Hid (A.length ≤ 40 → ∀ w1, Below w.heap.size w w1 → Calls Tryz.prog 32 #[.agg #[.slice qa A.length ca]] w1 fun e w' => e = .returned (.bool (goodP A)) ∧ Below w1.heap.size w1 w') := Lib.hid (fun h40 w1 h => tgood_any A qa ca (by omega) hca (Nat.le_trans (hba h40) (by omega)) hna w1 ((hsa.keep h).more h.size) (hEA.keep h))
  have HYA : Hid (A.length ≤ 40 → ∀ w1, Below w.heap.size w w1 → Calls Tryz.prog 33 #[.agg #[.slice qa A.length ca]] w1 fun e w' => e = .returned (.int .i64 (bytesP A : Int)) ∧ Below w1.heap.size w1 w') := Lib.hid (fun h40 w1 h => tbytes_any A qa ca (by omega) hca (Nat.le_trans (hba h40) (by omega)) hna w1 ((hsa.keep h).more h.size) (hEA.keep h))
  have HOA : Hid (A.length ≤ 40 → ∀ w1, Below w.heap.size w w1 → Calls Tryz.prog 9 #[.agg #[.slice qa A.length ca]] w1 fun e w' => (∃ v R, e = .returned v ∧ LnV w' v R ∧ LnO w' w1.heap.size 31 R ∧ R.map keyL = ofP A) ∧ Below w1.heap.size w1 w') := Lib.hid (fun h40 w1 h => of12_any A qa ca w1 (by omega) hca hqa (Nat.le_trans (hba h40) (by omega)) hna ((hsa.keep h).more h.size) (hEA.keep h) (hL.keep h hL.size))
  have HCA : Hid (A.length ≤ 40 → ∀ w1, Below w.heap.size w w1 → Calls Tryz.prog 35 #[.agg #[.slice qa A.length ca]] w1 fun e w' => (∃ v, e = .returned (.agg #[v]) ∧ TrV w' v (cleanP A)) ∧ Below w1.heap.size w1 w') := Lib.hid (fun h40 w1 h => tclean_any A qa ca (by omega) hca hqa (Nat.le_trans (hba h40) (by omega)) hna w1 ((hsa.keep h).more h.size) (hEA.keep h))
  have HEA : Hid (∀ w1, Below w.heap.size w w1 → Ents w1 (cleanP A)) := Lib.hid (fun w1 h e he => (hEA.keep h) e (cleanP_mem he))
  have HNA : Hid (∀ e ∈ cleanP A, e.1.size < 9223372036854775808) := Lib.hid (fun e he => hna e (cleanP_mem he))
  have HGB : Hid (B.length ≤ 40 → ∀ w1, Below w.heap.size w w1 → Calls Tryz.prog 32 #[.agg #[.slice qb B.length cb]] w1 fun e w' => e = .returned (.bool (goodP B)) ∧ Below w1.heap.size w1 w') := Lib.hid (fun h40 w1 h => tgood_any B qb cb (by omega) hcb (Nat.le_trans (hbb h40) (by omega)) hnb w1 ((hsb.keep h).more h.size) (hEB.keep h))
  have HYB : Hid (B.length ≤ 40 → ∀ w1, Below w.heap.size w w1 → Calls Tryz.prog 33 #[.agg #[.slice qb B.length cb]] w1 fun e w' => e = .returned (.int .i64 (bytesP B : Int)) ∧ Below w1.heap.size w1 w') := Lib.hid (fun h40 w1 h => tbytes_any B qb cb (by omega) hcb (Nat.le_trans (hbb h40) (by omega)) hnb w1 ((hsb.keep h).more h.size) (hEB.keep h))
  have HOB : Hid (B.length ≤ 40 → ∀ w1, Below w.heap.size w w1 → Calls Tryz.prog 9 #[.agg #[.slice qb B.length cb]] w1 fun e w' => (∃ v R, e = .returned v ∧ LnV w' v R ∧ LnO w' w1.heap.size 31 R ∧ R.map keyL = ofP B) ∧ Below w1.heap.size w1 w') := Lib.hid (fun h40 w1 h => of12_any B qb cb w1 (by omega) hcb hqb (Nat.le_trans (hbb h40) (by omega)) hnb ((hsb.keep h).more h.size) (hEB.keep h) (hL.keep h hL.size))
  have HCB : Hid (B.length ≤ 40 → ∀ w1, Below w.heap.size w w1 → Calls Tryz.prog 35 #[.agg #[.slice qb B.length cb]] w1 fun e w' => (∃ v, e = .returned (.agg #[v]) ∧ TrV w' v (cleanP B)) ∧ Below w1.heap.size w1 w') := Lib.hid (fun h40 w1 h => tclean_any B qb cb (by omega) hcb hqb (Nat.le_trans (hbb h40) (by omega)) hnb w1 ((hsb.keep h).more h.size) (hEB.keep h))
  have HEB : Hid (∀ w1, Below w.heap.size w w1 → Ents w1 (cleanP B)) := Lib.hid (fun w1 h e he => (hEB.keep h) e (cleanP_mem he))
  have HNB : Hid (∀ e ∈ cleanP B, e.1.size < 9223372036854775808) := Lib.hid (fun e he => hnb e (cleanP_mem he))
  clear hL hca hcb hqa hqb hba hbb hna hnb hsa hsb hEA hEB
  go_enter Tryz.func6, Tryz.ntmps6
  go_upto_region 3 with ((with_reducible refine HAW.out.mono ?_); rintro e w0 ⟨rfl, h2⟩; have HB0 := Lib.hid h2; clear h2)
  clear HAW
  have hxa : Has (w0.alloc (.cells #[.slice qa A.length ca] 28)) w0.heap.size 28 [.slice qa A.length ca] := Has.made w0 _ _
  have HXA := Lib.hid (hxa.keepB ((Below.refl _ _).alloc (Nat.le_refl _) (.cells #[.slice qb B.length cb] 28)))
  have HXB : Hid (Has ((w0.alloc (.cells #[.slice qa A.length ca] 28)).alloc (.cells #[.slice qb B.length cb] 28)) (w0.heap.size + 1) 28 [.slice qb B.length cb]) := Lib.hid (Has.made1 w0 _ _ _ _ rfl)
  have HB1 := Lib.hid (HB0.out.trans ((((Below.refl w0.heap.size w0).alloc (Nat.le_refl _) (.cells #[.slice qa A.length ca] 28)).alloc (by simp) (.cells #[.slice qb B.length cb] 28)).mono HB0.out.size))
  clear hxa HB0
  go_upto_region 4 with fail
  generalize (w0.alloc (.cells #[.slice qa A.length ca] 28)).alloc (.cells #[.slice qb B.length cb] 28) = w1 at *
  generalize w0.heap.size = g at *
  by_cases h1 : A.length > 40
  case pos =>
    have k1 : (A.length : Int) > 40 := by omega
    refine wp_region_ors (fun w' => Below w1.drew.heap.size w1.drew w') [(0, true), (1, true), (2, true), (3, true), (4, true), (5, true), (6, true), (7, true), (8, true), (9, true), (10, false), (11, true), (12, true), (13, true), (14, true), (15, false), (16, true), (17, true), (18, true), (19, true), (21, true), (20, false), (22, false), (23, true), (24, true), (25, true)] (by kernel_rfl) (by kernel_rfl) (by kernel_rfl) (Below.refl _ _) ?_
    have HBD := Lib.hid HB1.out.drew
    have HXAD : Hid (Has w1.drew g 28 [.slice qa A.length ca]) := Lib.hid HXA.out.drew
    have HXBD : Hid (Has w1.drew (g + 1) 28 [.slice qb B.length cb]) := Lib.hid HXB.out.drew
    clear HB1 HXA HXB
    generalize w1.drew = wd at *
    simp only [pickOrs, List.getElem?_cons_zero, List.getElem?_cons_succ]
    refine ors_pure (v := ?_) (by kernel_rfl) ?_ ?_
    rotate_left
    · intro w' hv; clear hv; go_simp; try with_reducible rfl
    try simp only [Act.put, List.setIfInBounds_toArray, List.set_cons_zero, List.set_cons_succ]
    refine ors_pure (v := ?_) (by kernel_rfl) ?_ ?_
    rotate_left
    · intro w' hv; clear hv; go_simp; try with_reducible rfl
    try simp only [Act.put, List.setIfInBounds_toArray, List.set_cons_zero, List.set_cons_succ]
    refine ors_pure (v := ?_) (by kernel_rfl) ?_ ?_
    rotate_left
    · intro w' hv; clear hv; go_simp; try with_reducible rfl
    try simp only [Act.put, List.setIfInBounds_toArray, List.set_cons_zero, List.set_cons_succ]
    refine ors_pure (v := ?_) (by kernel_rfl) ?_ ?_
    rotate_left
    · intro w' hv; clear hv; go_simp; try with_reducible rfl
    try simp only [Act.put, List.setIfInBounds_toArray, List.set_cons_zero, List.set_cons_succ]
    refine ors_skip (by kernel_rfl) ?_
    try simp only [Act.put, List.setIfInBounds_toArray, List.set_cons_zero, List.set_cons_succ]
    refine ors_skip (by kernel_rfl) ?_
    try simp only [Act.put, List.setIfInBounds_toArray, List.set_cons_zero, List.set_cons_succ]
    refine ors_skip (by kernel_rfl) ?_
    try simp only [Act.put, List.setIfInBounds_toArray, List.set_cons_zero, List.set_cons_succ]
    refine ors_pure (v := ?_) (by kernel_rfl) ?_ ?_
    rotate_left
    · intro w' hv; clear hv; go_simp; try with_reducible rfl
    try simp only [Act.put, List.setIfInBounds_toArray, List.set_cons_zero, List.set_cons_succ]
    refine ors_pure (v := ?_) (by kernel_rfl) ?_ ?_
    rotate_left
    · intro w' hv; clear hv; go_simp; try with_reducible rfl
    try simp only [Act.put, List.setIfInBounds_toArray, List.set_cons_zero, List.set_cons_succ]
    refine ors_skip (by kernel_rfl) ?_
    try simp only [Act.put, List.setIfInBounds_toArray, List.set_cons_zero, List.set_cons_succ]
    refine ors_pass (by kernel_rfl) (Below.refl _ _) ?_
    try simp only [Act.put, List.setIfInBounds_toArray, List.set_cons_zero, List.set_cons_succ]
    refine ors_skip (by kernel_rfl) ?_
    try simp only [Act.put, List.setIfInBounds_toArray, List.set_cons_zero, List.set_cons_succ]
    refine ors_pure (v := ?_) (by kernel_rfl) ?_ ?_
    rotate_left
    · intro w' hv; clear hv; go_simp; try with_reducible rfl
    try simp only [Act.put, List.setIfInBounds_toArray, List.set_cons_zero, List.set_cons_succ]
    refine ors_pure (v := ?_) (by kernel_rfl) ?_ ?_
    rotate_left
    · intro w' hv; clear hv; go_simp; try with_reducible rfl
    try simp only [Act.put, List.setIfInBounds_toArray, List.set_cons_zero, List.set_cons_succ]
    refine ors_skip (by kernel_rfl) ?_
    try simp only [Act.put, List.setIfInBounds_toArray, List.set_cons_zero, List.set_cons_succ]
    refine ors_pass (by kernel_rfl) (Below.refl _ _) ?_
    try simp only [Act.put, List.setIfInBounds_toArray, List.set_cons_zero, List.set_cons_succ]
    refine ors_skip (by kernel_rfl) ?_
    try simp only [Act.put, List.setIfInBounds_toArray, List.set_cons_zero, List.set_cons_succ]
    refine ors_pure (v := ?_) (by kernel_rfl) ?_ ?_
    rotate_left
    · intro w' hv; clear hv; go_simp; try with_reducible rfl
    try simp only [Act.put, List.setIfInBounds_toArray, List.set_cons_zero, List.set_cons_succ]
    refine ors_pure (v := ?_) (by kernel_rfl) ?_ ?_
    rotate_left
    · intro w' hv; clear hv; go_simp; try with_reducible rfl
    try simp only [Act.put, List.setIfInBounds_toArray, List.set_cons_zero, List.set_cons_succ]
    refine ors_skip (by kernel_rfl) ?_
    try simp only [Act.put, List.setIfInBounds_toArray, List.set_cons_zero, List.set_cons_succ]
    refine ors_skip (by kernel_rfl) ?_
    try simp only [Act.put, List.setIfInBounds_toArray, List.set_cons_zero, List.set_cons_succ]
    refine ors_pass (by kernel_rfl) (Below.refl _ _) ?_
    try simp only [Act.put, List.setIfInBounds_toArray, List.set_cons_zero, List.set_cons_succ]
    refine ors_pass (by kernel_rfl) (Below.refl _ _) ?_
    try simp only [Act.put, List.setIfInBounds_toArray, List.set_cons_zero, List.set_cons_succ]
    refine ors_skip (by kernel_rfl) ?_
    try simp only [Act.put, List.setIfInBounds_toArray, List.set_cons_zero, List.set_cons_succ]
    refine ors_skip (by kernel_rfl) ?_
    try simp only [Act.put, List.setIfInBounds_toArray, List.set_cons_zero, List.set_cons_succ]
    refine ors_pure (v := ?_) (by kernel_rfl) ?_ ?_
    rotate_left
    · intro w' hv; clear hv; go_simp; try with_reducible rfl
    try simp only [Act.put, List.setIfInBounds_toArray, List.set_cons_zero, List.set_cons_succ]
    refine ors_nil ?_
    go_wp2_with fail
    go_ret
    exact ⟨rfl, HBD.out⟩
  have k1 : ¬ (A.length : Int) > 40 := by omega
  by_cases h2 : B.length > 40
  case pos =>
    have k2 : (B.length : Int) > 40 := by omega
    refine wp_region_ors (fun w' => Below w1.drew.heap.size w1.drew w') [(0, true), (1, true), (2, true), (3, true), (4, true), (5, true), (6, true), (7, true), (8, true), (9, true), (10, false), (11, true), (12, true), (13, true), (14, true), (15, false), (16, true), (17, true), (18, true), (19, true), (21, true), (20, false), (22, false), (23, true), (24, true), (25, true)] (by kernel_rfl) (by kernel_rfl) (by kernel_rfl) (Below.refl _ _) ?_
    have HBD := Lib.hid HB1.out.drew
    have HXAD : Hid (Has w1.drew g 28 [.slice qa A.length ca]) := Lib.hid HXA.out.drew
    have HXBD : Hid (Has w1.drew (g + 1) 28 [.slice qb B.length cb]) := Lib.hid HXB.out.drew
    clear HB1 HXA HXB
    generalize w1.drew = wd at *
    simp only [pickOrs, List.getElem?_cons_zero, List.getElem?_cons_succ]
    refine ors_pure (v := ?_) (by kernel_rfl) ?_ ?_
    rotate_left
    · intro w' hv; clear hv; go_simp; try with_reducible rfl
    try simp only [Act.put, List.setIfInBounds_toArray, List.set_cons_zero, List.set_cons_succ]
    refine ors_pure (v := ?_) (by kernel_rfl) ?_ ?_
    rotate_left
    · intro w' hv; clear hv; go_simp; try with_reducible rfl
    try simp only [Act.put, List.setIfInBounds_toArray, List.set_cons_zero, List.set_cons_succ]
    refine ors_pure (v := ?_) (by kernel_rfl) ?_ ?_
    rotate_left
    · intro w' hv; clear hv; go_simp; try with_reducible rfl
    try simp only [Act.put, List.setIfInBounds_toArray, List.set_cons_zero, List.set_cons_succ]
    refine ors_pure (v := ?_) (by kernel_rfl) ?_ ?_
    rotate_left
    · intro w' hv; clear hv; go_simp; try with_reducible rfl
    try simp only [Act.put, List.setIfInBounds_toArray, List.set_cons_zero, List.set_cons_succ]
    refine ors_pure (v := ?_) (by kernel_rfl) ?_ ?_
    rotate_left
    · intro w' hv; clear hv; go_simp; try with_reducible rfl
    try simp only [Act.put, List.setIfInBounds_toArray, List.set_cons_zero, List.set_cons_succ]
    refine ors_pure (v := ?_) (by kernel_rfl) ?_ ?_
    rotate_left
    · intro w' hv; clear hv; go_simp; try with_reducible rfl
    try simp only [Act.put, List.setIfInBounds_toArray, List.set_cons_zero, List.set_cons_succ]
    refine ors_pure (v := ?_) (by kernel_rfl) ?_ ?_
    rotate_left
    · intro w' hv; clear hv; go_simp; try with_reducible rfl
    try simp only [Act.put, List.setIfInBounds_toArray, List.set_cons_zero, List.set_cons_succ]
    refine ors_pure (v := ?_) (by kernel_rfl) ?_ ?_
    rotate_left
    · intro w' hv; clear hv; go_simp; try with_reducible rfl
    try simp only [Act.put, List.setIfInBounds_toArray, List.set_cons_zero, List.set_cons_succ]
    refine ors_pure (v := ?_) (by kernel_rfl) ?_ ?_
    rotate_left
    · intro w' hv; clear hv; go_simp; try with_reducible rfl
    try simp only [Act.put, List.setIfInBounds_toArray, List.set_cons_zero, List.set_cons_succ]
    refine ors_skip (by kernel_rfl) ?_
    try simp only [Act.put, List.setIfInBounds_toArray, List.set_cons_zero, List.set_cons_succ]
    refine ors_pass (by kernel_rfl) (Below.refl _ _) ?_
    try simp only [Act.put, List.setIfInBounds_toArray, List.set_cons_zero, List.set_cons_succ]
    refine ors_skip (by kernel_rfl) ?_
    try simp only [Act.put, List.setIfInBounds_toArray, List.set_cons_zero, List.set_cons_succ]
    refine ors_pure (v := ?_) (by kernel_rfl) ?_ ?_
    rotate_left
    · intro w' hv; clear hv; go_simp; try with_reducible rfl
    try simp only [Act.put, List.setIfInBounds_toArray, List.set_cons_zero, List.set_cons_succ]
    refine ors_pure (v := ?_) (by kernel_rfl) ?_ ?_
    rotate_left
    · intro w' hv; clear hv; go_simp; try with_reducible rfl
    try simp only [Act.put, List.setIfInBounds_toArray, List.set_cons_zero, List.set_cons_succ]
    refine ors_skip (by kernel_rfl) ?_
    try simp only [Act.put, List.setIfInBounds_toArray, List.set_cons_zero, List.set_cons_succ]
    refine ors_pass (by kernel_rfl) (Below.refl _ _) ?_
    try simp only [Act.put, List.setIfInBounds_toArray, List.set_cons_zero, List.set_cons_succ]
    refine ors_skip (by kernel_rfl) ?_
    try simp only [Act.put, List.setIfInBounds_toArray, List.set_cons_zero, List.set_cons_succ]
    refine ors_pure (v := ?_) (by kernel_rfl) ?_ ?_
    rotate_left
    · intro w' hv; clear hv; go_simp; try with_reducible rfl
    try simp only [Act.put, List.setIfInBounds_toArray, List.set_cons_zero, List.set_cons_succ]
    refine ors_pure (v := ?_) (by kernel_rfl) ?_ ?_
    rotate_left
    · intro w' hv; clear hv; go_simp; try with_reducible rfl
    try simp only [Act.put, List.setIfInBounds_toArray, List.set_cons_zero, List.set_cons_succ]
    refine ors_skip (by kernel_rfl) ?_
    try simp only [Act.put, List.setIfInBounds_toArray, List.set_cons_zero, List.set_cons_succ]
    refine ors_skip (by kernel_rfl) ?_
    try simp only [Act.put, List.setIfInBounds_toArray, List.set_cons_zero, List.set_cons_succ]
    refine ors_pass (by kernel_rfl) (Below.refl _ _) ?_
    try simp only [Act.put, List.setIfInBounds_toArray, List.set_cons_zero, List.set_cons_succ]
    refine ors_pass (by kernel_rfl) (Below.refl _ _) ?_
    try simp only [Act.put, List.setIfInBounds_toArray, List.set_cons_zero, List.set_cons_succ]
    refine ors_skip (by kernel_rfl) ?_
    try simp only [Act.put, List.setIfInBounds_toArray, List.set_cons_zero, List.set_cons_succ]
    refine ors_skip (by kernel_rfl) ?_
    try simp only [Act.put, List.setIfInBounds_toArray, List.set_cons_zero, List.set_cons_succ]
    refine ors_pure (v := ?_) (by kernel_rfl) ?_ ?_
    rotate_left
    · intro w' hv; clear hv; go_simp; try with_reducible rfl
    try simp only [Act.put, List.setIfInBounds_toArray, List.set_cons_zero, List.set_cons_succ]
    refine ors_nil ?_
    go_wp2_with fail
    go_ret
    exact ⟨rfl, HBD.out⟩
  have k2 : ¬ (B.length : Int) > 40 := by omega
  have h40a : A.length ≤ 40 := by omega
  have h40b : B.length ≤ 40 := by omega
  cases hga : goodP A
  case false =>
    refine wp_region_ors (fun w' => Below w1.drew.heap.size w1.drew w') [(0, true), (1, true), (2, true), (3, true), (4, true), (5, true), (6, true), (7, true), (8, true), (9, true), (10, false), (11, true), (12, true), (13, true), (14, true), (15, false), (16, true), (17, true), (18, true), (19, true), (21, true), (20, false), (22, false), (23, true), (24, true), (25, true)] (by kernel_rfl) (by kernel_rfl) (by kernel_rfl) (Below.refl _ _) ?_
    have HBD := Lib.hid HB1.out.drew
    have HXAD : Hid (Has w1.drew g 28 [.slice qa A.length ca]) := Lib.hid HXA.out.drew
    have HXBD : Hid (Has w1.drew (g + 1) 28 [.slice qb B.length cb]) := Lib.hid HXB.out.drew
    clear HB1 HXA HXB
    generalize w1.drew = wd at *
    simp only [pickOrs, List.getElem?_cons_zero, List.getElem?_cons_succ]
    refine ors_pure (v := ?_) (by kernel_rfl) ?_ ?_
    rotate_left
    · intro w' hv; clear hv; go_simp; try with_reducible rfl
    try simp only [Act.put, List.setIfInBounds_toArray, List.set_cons_zero, List.set_cons_succ]
    refine ors_pure (v := ?_) (by kernel_rfl) ?_ ?_
    rotate_left
    · intro w' hv; clear hv; go_simp; try with_reducible rfl
    try simp only [Act.put, List.setIfInBounds_toArray, List.set_cons_zero, List.set_cons_succ]
    refine ors_pure (v := ?_) (by kernel_rfl) ?_ ?_
    rotate_left
    · intro w' hv; clear hv; go_simp; try with_reducible rfl
    try simp only [Act.put, List.setIfInBounds_toArray, List.set_cons_zero, List.set_cons_succ]
    refine ors_pure (v := ?_) (by kernel_rfl) ?_ ?_
    rotate_left
    · intro w' hv; clear hv; go_simp; try with_reducible rfl
    try simp only [Act.put, List.setIfInBounds_toArray, List.set_cons_zero, List.set_cons_succ]
    refine ors_pure (v := ?_) (by kernel_rfl) ?_ ?_
    rotate_left
    · intro w' hv; clear hv; go_simp; try with_reducible rfl
    try simp only [Act.put, List.setIfInBounds_toArray, List.set_cons_zero, List.set_cons_succ]
    refine ors_pure (v := ?_) (by kernel_rfl) ?_ ?_
    rotate_left
    · intro w' hv; clear hv; go_simp; try with_reducible rfl
    try simp only [Act.put, List.setIfInBounds_toArray, List.set_cons_zero, List.set_cons_succ]
    refine ors_pure (v := ?_) (by kernel_rfl) ?_ ?_
    rotate_left
    · intro w' hv; clear hv; go_simp; try with_reducible rfl
    try simp only [Act.put, List.setIfInBounds_toArray, List.set_cons_zero, List.set_cons_succ]
    refine ors_pure (v := ?_) (by kernel_rfl) ?_ ?_
    rotate_left
    · intro w' hv; clear hv; go_simp; try with_reducible rfl
    try simp only [Act.put, List.setIfInBounds_toArray, List.set_cons_zero, List.set_cons_succ]
    refine ors_pure (v := ?_) (by kernel_rfl) ?_ ?_
    rotate_left
    · intro w' hv; clear hv; go_simp; try with_reducible rfl
    try simp only [Act.put, List.setIfInBounds_toArray, List.set_cons_zero, List.set_cons_succ]
    refine ors_pure (by kernel_rfl) (fun w' hv => load_tr (.tmp 5) rfl g rfl (.slice qa A.length ca) (HXAD.out.keepB hv)) ?_
    try simp only [Act.put, List.setIfInBounds_toArray, List.set_cons_zero, List.set_cons_succ]
    refine ors_step (by kernel_rfl) (fun K hK => ?_)
    go_wp2_with fail
    refine Calls.mono (HGA.out h40a wd HBD.out) ?_
    rintro e w2 ⟨rfl, hb⟩
    have HD2 : Hid (Below wd.heap.size wd w2) := Lib.hid hb
    clear hb
    refine hK _ _ ⟨HD2.out, ?_⟩
    clear hK
    try simp only [Act.put, List.setIfInBounds_toArray, List.set_cons_zero, List.set_cons_succ]
    simp only [hga]
    refine ors_pure (v := ?_) (by kernel_rfl) ?_ ?_
    rotate_left
    · intro w' hv; clear hv; go_simp; try with_reducible rfl
    try simp only [Act.put, List.setIfInBounds_toArray, List.set_cons_zero, List.set_cons_succ]
    refine ors_pure (v := ?_) (by kernel_rfl) ?_ ?_
    rotate_left
    · intro w' hv; clear hv; go_simp; try with_reducible rfl
    try simp only [Act.put, List.setIfInBounds_toArray, List.set_cons_zero, List.set_cons_succ]
    refine ors_pure (v := ?_) (by kernel_rfl) ?_ ?_
    rotate_left
    · intro w' hv; clear hv; go_simp; try with_reducible rfl
    try simp only [Act.put, List.setIfInBounds_toArray, List.set_cons_zero, List.set_cons_succ]
    refine ors_skip (by kernel_rfl) ?_
    try simp only [Act.put, List.setIfInBounds_toArray, List.set_cons_zero, List.set_cons_succ]
    refine ors_pass (by kernel_rfl) HD2.out ?_
    try simp only [Act.put, List.setIfInBounds_toArray, List.set_cons_zero, List.set_cons_succ]
    refine ors_skip (by kernel_rfl) ?_
    try simp only [Act.put, List.setIfInBounds_toArray, List.set_cons_zero, List.set_cons_succ]
    refine ors_pure (v := ?_) (by kernel_rfl) ?_ ?_
    rotate_left
    · intro w' hv; clear hv; go_simp; try with_reducible rfl
    try simp only [Act.put, List.setIfInBounds_toArray, List.set_cons_zero, List.set_cons_succ]
    refine ors_pure (v := ?_) (by kernel_rfl) ?_ ?_
    rotate_left
    · intro w' hv; clear hv; go_simp; try with_reducible rfl
    try simp only [Act.put, List.setIfInBounds_toArray, List.set_cons_zero, List.set_cons_succ]
    refine ors_skip (by kernel_rfl) ?_
    try simp only [Act.put, List.setIfInBounds_toArray, List.set_cons_zero, List.set_cons_succ]
    refine ors_skip (by kernel_rfl) ?_
    try simp only [Act.put, List.setIfInBounds_toArray, List.set_cons_zero, List.set_cons_succ]
    refine ors_pass (by kernel_rfl) HD2.out ?_
    try simp only [Act.put, List.setIfInBounds_toArray, List.set_cons_zero, List.set_cons_succ]
    refine ors_pass (by kernel_rfl) HD2.out ?_
    try simp only [Act.put, List.setIfInBounds_toArray, List.set_cons_zero, List.set_cons_succ]
    refine ors_skip (by kernel_rfl) ?_
    try simp only [Act.put, List.setIfInBounds_toArray, List.set_cons_zero, List.set_cons_succ]
    refine ors_skip (by kernel_rfl) ?_
    try simp only [Act.put, List.setIfInBounds_toArray, List.set_cons_zero, List.set_cons_succ]
    refine ors_pure (v := ?_) (by kernel_rfl) ?_ ?_
    rotate_left
    · intro w' hv; clear hv; go_simp; try with_reducible rfl
    try simp only [Act.put, List.setIfInBounds_toArray, List.set_cons_zero, List.set_cons_succ]
    refine ors_nil ?_
    go_wp2_with fail
    go_ret
    exact ⟨rfl, HBD.out.trans (HD2.out.mono HBD.out.size)⟩
  cases hgb : goodP B
  case false =>
    refine wp_region_ors (fun w' => Below w1.drew.heap.size w1.drew w') [(0, true), (1, true), (2, true), (3, true), (4, true), (5, true), (6, true), (7, true), (8, true), (9, true), (10, false), (11, true), (12, true), (13, true), (14, true), (15, false), (16, true), (17, true), (18, true), (19, true), (21, true), (20, false), (22, false), (23, true), (24, true), (25, true)] (by kernel_rfl) (by kernel_rfl) (by kernel_rfl) (Below.refl _ _) ?_
    have HBD := Lib.hid HB1.out.drew
    have HXAD : Hid (Has w1.drew g 28 [.slice qa A.length ca]) := Lib.hid HXA.out.drew
    have HXBD : Hid (Has w1.drew (g + 1) 28 [.slice qb B.length cb]) := Lib.hid HXB.out.drew
    clear HB1 HXA HXB
    generalize w1.drew = wd at *
    simp only [pickOrs, List.getElem?_cons_zero, List.getElem?_cons_succ]
    refine ors_pure (v := ?_) (by kernel_rfl) ?_ ?_
    rotate_left
    · intro w' hv; clear hv; go_simp; try with_reducible rfl
    try simp only [Act.put, List.setIfInBounds_toArray, List.set_cons_zero, List.set_cons_succ]
    refine ors_pure (v := ?_) (by kernel_rfl) ?_ ?_
    rotate_left
    · intro w' hv; clear hv; go_simp; try with_reducible rfl
    try simp only [Act.put, List.setIfInBounds_toArray, List.set_cons_zero, List.set_cons_succ]
    refine ors_pure (v := ?_) (by kernel_rfl) ?_ ?_
    rotate_left
    · intro w' hv; clear hv; go_simp; try with_reducible rfl
    try simp only [Act.put, List.setIfInBounds_toArray, List.set_cons_zero, List.set_cons_succ]
    refine ors_pure (v := ?_) (by kernel_rfl) ?_ ?_
    rotate_left
    · intro w' hv; clear hv; go_simp; try with_reducible rfl
    try simp only [Act.put, List.setIfInBounds_toArray, List.set_cons_zero, List.set_cons_succ]
    refine ors_pure (v := ?_) (by kernel_rfl) ?_ ?_
    rotate_left
    · intro w' hv; clear hv; go_simp; try with_reducible rfl
    try simp only [Act.put, List.setIfInBounds_toArray, List.set_cons_zero, List.set_cons_succ]
    refine ors_pure (v := ?_) (by kernel_rfl) ?_ ?_
    rotate_left
    · intro w' hv; clear hv; go_simp; try with_reducible rfl
    try simp only [Act.put, List.setIfInBounds_toArray, List.set_cons_zero, List.set_cons_succ]
    refine ors_pure (v := ?_) (by kernel_rfl) ?_ ?_
    rotate_left
    · intro w' hv; clear hv; go_simp; try with_reducible rfl
    try simp only [Act.put, List.setIfInBounds_toArray, List.set_cons_zero, List.set_cons_succ]
    refine ors_pure (v := ?_) (by kernel_rfl) ?_ ?_
    rotate_left
    · intro w' hv; clear hv; go_simp; try with_reducible rfl
    try simp only [Act.put, List.setIfInBounds_toArray, List.set_cons_zero, List.set_cons_succ]
    refine ors_pure (v := ?_) (by kernel_rfl) ?_ ?_
    rotate_left
    · intro w' hv; clear hv; go_simp; try with_reducible rfl
    try simp only [Act.put, List.setIfInBounds_toArray, List.set_cons_zero, List.set_cons_succ]
    refine ors_pure (by kernel_rfl) (fun w' hv => load_tr (.tmp 5) rfl g rfl (.slice qa A.length ca) (HXAD.out.keepB hv)) ?_
    try simp only [Act.put, List.setIfInBounds_toArray, List.set_cons_zero, List.set_cons_succ]
    refine ors_step (by kernel_rfl) (fun K hK => ?_)
    go_wp2_with fail
    refine Calls.mono (HGA.out h40a wd HBD.out) ?_
    rintro e w2 ⟨rfl, hb⟩
    have HD2 : Hid (Below wd.heap.size wd w2) := Lib.hid hb
    clear hb
    refine hK _ _ ⟨HD2.out, ?_⟩
    clear hK
    try simp only [Act.put, List.setIfInBounds_toArray, List.set_cons_zero, List.set_cons_succ]
    simp only [hga]
    refine ors_pure (v := ?_) (by kernel_rfl) ?_ ?_
    rotate_left
    · intro w' hv; clear hv; go_simp; try with_reducible rfl
    try simp only [Act.put, List.setIfInBounds_toArray, List.set_cons_zero, List.set_cons_succ]
    refine ors_pure (v := ?_) (by kernel_rfl) ?_ ?_
    rotate_left
    · intro w' hv; clear hv; go_simp; try with_reducible rfl
    try simp only [Act.put, List.setIfInBounds_toArray, List.set_cons_zero, List.set_cons_succ]
    refine ors_pure (v := ?_) (by kernel_rfl) ?_ ?_
    rotate_left
    · intro w' hv; clear hv; go_simp; try with_reducible rfl
    try simp only [Act.put, List.setIfInBounds_toArray, List.set_cons_zero, List.set_cons_succ]
    refine ors_pure (by kernel_rfl) (fun w' hv => load_tr (.tmp 6) rfl (g + 1) rfl (.slice qb B.length cb) (HXBD.out.keepB hv)) ?_
    try simp only [Act.put, List.setIfInBounds_toArray, List.set_cons_zero, List.set_cons_succ]
    refine ors_step (by kernel_rfl) (fun K hK => ?_)
    go_wp2_with fail
    refine Calls.mono (HGB.out h40b w2 (HBD.out.trans (HD2.out.mono HBD.out.size))) ?_
    rintro e w3 ⟨rfl, hb⟩
    have HD3 : Hid (Below wd.heap.size wd w3) := Lib.hid (HD2.out.trans (hb.mono HD2.out.size))
    clear hb
    refine hK _ _ ⟨HD3.out, ?_⟩
    clear hK
    try simp only [Act.put, List.setIfInBounds_toArray, List.set_cons_zero, List.set_cons_succ]
    simp only [hgb]
    refine ors_pure (v := ?_) (by kernel_rfl) ?_ ?_
    rotate_left
    · intro w' hv; clear hv; go_simp; try with_reducible rfl
    try simp only [Act.put, List.setIfInBounds_toArray, List.set_cons_zero, List.set_cons_succ]
    refine ors_pure (v := ?_) (by kernel_rfl) ?_ ?_
    rotate_left
    · intro w' hv; clear hv; go_simp; try with_reducible rfl
    try simp only [Act.put, List.setIfInBounds_toArray, List.set_cons_zero, List.set_cons_succ]
    refine ors_pure (v := ?_) (by kernel_rfl) ?_ ?_
    rotate_left
    · intro w' hv; clear hv; go_simp; try with_reducible rfl
    try simp only [Act.put, List.setIfInBounds_toArray, List.set_cons_zero, List.set_cons_succ]
    refine ors_skip (by kernel_rfl) ?_
    try simp only [Act.put, List.setIfInBounds_toArray, List.set_cons_zero, List.set_cons_succ]
    refine ors_skip (by kernel_rfl) ?_
    try simp only [Act.put, List.setIfInBounds_toArray, List.set_cons_zero, List.set_cons_succ]
    refine ors_pass (by kernel_rfl) HD3.out ?_
    try simp only [Act.put, List.setIfInBounds_toArray, List.set_cons_zero, List.set_cons_succ]
    refine ors_pass (by kernel_rfl) HD3.out ?_
    try simp only [Act.put, List.setIfInBounds_toArray, List.set_cons_zero, List.set_cons_succ]
    refine ors_skip (by kernel_rfl) ?_
    try simp only [Act.put, List.setIfInBounds_toArray, List.set_cons_zero, List.set_cons_succ]
    refine ors_skip (by kernel_rfl) ?_
    try simp only [Act.put, List.setIfInBounds_toArray, List.set_cons_zero, List.set_cons_succ]
    refine ors_pure (v := ?_) (by kernel_rfl) ?_ ?_
    rotate_left
    · intro w' hv; clear hv; go_simp; try with_reducible rfl
    try simp only [Act.put, List.setIfInBounds_toArray, List.set_cons_zero, List.set_cons_succ]
    refine ors_nil ?_
    go_wp2_with fail
    go_ret
    exact ⟨rfl, HBD.out.trans (HD3.out.mono HBD.out.size)⟩
  have hya : bytesP A ≤ 16384 := by unfold bytesP; rw [if_pos hga]; exact (good_bytes' hga).2
  have hyb : bytesP B ≤ 16384 := by unfold bytesP; rw [if_pos hgb]; exact (good_bytes' hgb).2
  obtain ⟨na, hna⟩ : ∃ n, n = bytesP A := ⟨_, rfl⟩
  obtain ⟨nb, hnb⟩ : ∃ n, n = bytesP B := ⟨_, rfl⟩
  rw [← hna] at HYA hya
  rw [← hnb] at HYB hyb
  clear hna hnb
  have kw : IntKind.i64.wrap ((na : Int) + (nb : Int)) = (na : Int) + (nb : Int) := wraps_i64 _ (by omega) (by omega)
  by_cases h4 : na + nb > 4000
  case pos =>
    have k4 : (na : Int) + (nb : Int) > 4000 := by omega
    refine wp_region_ors (fun w' => Below w1.drew.heap.size w1.drew w') [(0, true), (1, true), (2, true), (3, true), (4, true), (5, true), (6, true), (7, true), (8, true), (9, true), (10, false), (11, true), (12, true), (13, true), (14, true), (15, false), (16, true), (17, true), (18, true), (19, true), (21, true), (20, false), (22, false), (23, true), (24, true), (25, true)] (by kernel_rfl) (by kernel_rfl) (by kernel_rfl) (Below.refl _ _) ?_
    have HBD := Lib.hid HB1.out.drew
    have HXAD : Hid (Has w1.drew g 28 [.slice qa A.length ca]) := Lib.hid HXA.out.drew
    have HXBD : Hid (Has w1.drew (g + 1) 28 [.slice qb B.length cb]) := Lib.hid HXB.out.drew
    clear HB1 HXA HXB
    generalize w1.drew = wd at *
    simp only [pickOrs, List.getElem?_cons_zero, List.getElem?_cons_succ]
    refine ors_pure (v := ?_) (by kernel_rfl) ?_ ?_
    rotate_left
    · intro w' hv; clear hv; go_simp; try with_reducible rfl
    try simp only [Act.put, List.setIfInBounds_toArray, List.set_cons_zero, List.set_cons_succ]
    refine ors_pure (v := ?_) (by kernel_rfl) ?_ ?_
    rotate_left
    · intro w' hv; clear hv; go_simp; try with_reducible rfl
    try simp only [Act.put, List.setIfInBounds_toArray, List.set_cons_zero, List.set_cons_succ]
    refine ors_pure (v := ?_) (by kernel_rfl) ?_ ?_
    rotate_left
    · intro w' hv; clear hv; go_simp; try with_reducible rfl
    try simp only [Act.put, List.setIfInBounds_toArray, List.set_cons_zero, List.set_cons_succ]
    refine ors_pure (v := ?_) (by kernel_rfl) ?_ ?_
    rotate_left
    · intro w' hv; clear hv; go_simp; try with_reducible rfl
    try simp only [Act.put, List.setIfInBounds_toArray, List.set_cons_zero, List.set_cons_succ]
    refine ors_pure (v := ?_) (by kernel_rfl) ?_ ?_
    rotate_left
    · intro w' hv; clear hv; go_simp; try with_reducible rfl
    try simp only [Act.put, List.setIfInBounds_toArray, List.set_cons_zero, List.set_cons_succ]
    refine ors_pure (v := ?_) (by kernel_rfl) ?_ ?_
    rotate_left
    · intro w' hv; clear hv; go_simp; try with_reducible rfl
    try simp only [Act.put, List.setIfInBounds_toArray, List.set_cons_zero, List.set_cons_succ]
    refine ors_pure (v := ?_) (by kernel_rfl) ?_ ?_
    rotate_left
    · intro w' hv; clear hv; go_simp; try with_reducible rfl
    try simp only [Act.put, List.setIfInBounds_toArray, List.set_cons_zero, List.set_cons_succ]
    refine ors_pure (v := ?_) (by kernel_rfl) ?_ ?_
    rotate_left
    · intro w' hv; clear hv; go_simp; try with_reducible rfl
    try simp only [Act.put, List.setIfInBounds_toArray, List.set_cons_zero, List.set_cons_succ]
    refine ors_pure (v := ?_) (by kernel_rfl) ?_ ?_
    rotate_left
    · intro w' hv; clear hv; go_simp; try with_reducible rfl
    try simp only [Act.put, List.setIfInBounds_toArray, List.set_cons_zero, List.set_cons_succ]
    refine ors_pure (by kernel_rfl) (fun w' hv => load_tr (.tmp 5) rfl g rfl (.slice qa A.length ca) (HXAD.out.keepB hv)) ?_
    try simp only [Act.put, List.setIfInBounds_toArray, List.set_cons_zero, List.set_cons_succ]
    refine ors_step (by kernel_rfl) (fun K hK => ?_)
    go_wp2_with fail
    refine Calls.mono (HGA.out h40a wd HBD.out) ?_
    rintro e w2 ⟨rfl, hb⟩
    have HD2 : Hid (Below wd.heap.size wd w2) := Lib.hid hb
    clear hb
    refine hK _ _ ⟨HD2.out, ?_⟩
    clear hK
    try simp only [Act.put, List.setIfInBounds_toArray, List.set_cons_zero, List.set_cons_succ]
    simp only [hga]
    refine ors_pure (v := ?_) (by kernel_rfl) ?_ ?_
    rotate_left
    · intro w' hv; clear hv; go_simp; try with_reducible rfl
    try simp only [Act.put, List.setIfInBounds_toArray, List.set_cons_zero, List.set_cons_succ]
    refine ors_pure (v := ?_) (by kernel_rfl) ?_ ?_
    rotate_left
    · intro w' hv; clear hv; go_simp; try with_reducible rfl
    try simp only [Act.put, List.setIfInBounds_toArray, List.set_cons_zero, List.set_cons_succ]
    refine ors_pure (v := ?_) (by kernel_rfl) ?_ ?_
    rotate_left
    · intro w' hv; clear hv; go_simp; try with_reducible rfl
    try simp only [Act.put, List.setIfInBounds_toArray, List.set_cons_zero, List.set_cons_succ]
    refine ors_pure (by kernel_rfl) (fun w' hv => load_tr (.tmp 6) rfl (g + 1) rfl (.slice qb B.length cb) (HXBD.out.keepB hv)) ?_
    try simp only [Act.put, List.setIfInBounds_toArray, List.set_cons_zero, List.set_cons_succ]
    refine ors_step (by kernel_rfl) (fun K hK => ?_)
    go_wp2_with fail
    refine Calls.mono (HGB.out h40b w2 (HBD.out.trans (HD2.out.mono HBD.out.size))) ?_
    rintro e w3 ⟨rfl, hb⟩
    have HD3 : Hid (Below wd.heap.size wd w3) := Lib.hid (HD2.out.trans (hb.mono HD2.out.size))
    clear hb
    refine hK _ _ ⟨HD3.out, ?_⟩
    clear hK
    try simp only [Act.put, List.setIfInBounds_toArray, List.set_cons_zero, List.set_cons_succ]
    simp only [hgb]
    refine ors_pure (v := ?_) (by kernel_rfl) ?_ ?_
    rotate_left
    · intro w' hv; clear hv; go_simp; try with_reducible rfl
    try simp only [Act.put, List.setIfInBounds_toArray, List.set_cons_zero, List.set_cons_succ]
    refine ors_pure (v := ?_) (by kernel_rfl) ?_ ?_
    rotate_left
    · intro w' hv; clear hv; go_simp; try with_reducible rfl
    try simp only [Act.put, List.setIfInBounds_toArray, List.set_cons_zero, List.set_cons_succ]
    refine ors_pure (v := ?_) (by kernel_rfl) ?_ ?_
    rotate_left
    · intro w' hv; clear hv; go_simp; try with_reducible rfl
    try simp only [Act.put, List.setIfInBounds_toArray, List.set_cons_zero, List.set_cons_succ]
    refine ors_pure (by kernel_rfl) (fun w' hv => load_tr (.tmp 5) rfl g rfl (.slice qa A.length ca) (HXAD.out.keepB hv)) ?_
    try simp only [Act.put, List.setIfInBounds_toArray, List.set_cons_zero, List.set_cons_succ]
    refine ors_pure (by kernel_rfl) (fun w' hv => load_tr (.tmp 6) rfl (g + 1) rfl (.slice qb B.length cb) (HXBD.out.keepB hv)) ?_
    try simp only [Act.put, List.setIfInBounds_toArray, List.set_cons_zero, List.set_cons_succ]
    refine ors_step (by kernel_rfl) (fun K hK => ?_)
    go_wp2_with fail
    refine Calls.mono (HYA.out h40a w3 (HBD.out.trans (HD3.out.mono HBD.out.size))) ?_
    rintro e w4 ⟨rfl, hb⟩
    have HD4 : Hid (Below wd.heap.size wd w4) := Lib.hid (HD3.out.trans (hb.mono HD3.out.size))
    clear hb
    refine hK _ _ ⟨HD4.out, ?_⟩
    clear hK
    try simp only [Act.put, List.setIfInBounds_toArray, List.set_cons_zero, List.set_cons_succ]
    refine ors_step (by kernel_rfl) (fun K hK => ?_)
    go_wp2_with fail
    refine Calls.mono (HYB.out h40b w4 (HBD.out.trans (HD4.out.mono HBD.out.size))) ?_
    rintro e w5 ⟨rfl, hb⟩
    have HD5 : Hid (Below wd.heap.size wd w5) := Lib.hid (HD4.out.trans (hb.mono HD4.out.size))
    clear hb
    refine hK _ _ ⟨HD5.out, ?_⟩
    clear hK
    try simp only [Act.put, List.setIfInBounds_toArray, List.set_cons_zero, List.set_cons_succ]
    refine ors_pure (v := ?_) (by kernel_rfl) ?_ ?_
    rotate_left
    · intro w' hv; clear hv; go_simp; try with_reducible rfl
    try simp only [Act.put, List.setIfInBounds_toArray, List.set_cons_zero, List.set_cons_succ]
    refine ors_pure (v := ?_) (by kernel_rfl) ?_ ?_
    rotate_left
    · intro w' hv; clear hv; go_simp; try with_reducible rfl
    try simp only [Act.put, List.setIfInBounds_toArray, List.set_cons_zero, List.set_cons_succ]
    refine ors_pure (v := ?_) (by kernel_rfl) ?_ ?_
    rotate_left
    · intro w' hv; clear hv; go_simp; try with_reducible rfl
    try simp only [Act.put, List.setIfInBounds_toArray, List.set_cons_zero, List.set_cons_succ]
    refine ors_nil ?_
    go_wp2_with fail
    go_ret
    exact ⟨rfl, HBD.out.trans (HD5.out.mono HBD.out.size)⟩
  have k4 : ¬ ((na : Int) + (nb : Int) > 4000) := by omega
  refine wp_region_ors (fun w' => Below w1.drew.heap.size w1.drew w') [(0, true), (1, true), (2, true), (3, true), (4, true), (5, true), (6, true), (7, true), (8, true), (9, true), (10, false), (11, true), (12, true), (13, true), (14, true), (15, false), (16, true), (17, true), (18, true), (19, true), (21, true), (20, false), (22, false), (23, true), (24, true), (25, true)] (by kernel_rfl) (by kernel_rfl) (by kernel_rfl) (Below.refl _ _) ?_
  have HBD := Lib.hid HB1.out.drew
  have HXAD : Hid (Has w1.drew g 28 [.slice qa A.length ca]) := Lib.hid HXA.out.drew
  have HXBD : Hid (Has w1.drew (g + 1) 28 [.slice qb B.length cb]) := Lib.hid HXB.out.drew
  clear HB1 HXA HXB
  generalize w1.drew = wd at *
  simp only [pickOrs, List.getElem?_cons_zero, List.getElem?_cons_succ]
  refine ors_pure (v := ?_) (by kernel_rfl) ?_ ?_
  rotate_left
  · intro w' hv; clear hv; go_simp; try with_reducible rfl
  try simp only [Act.put, List.setIfInBounds_toArray, List.set_cons_zero, List.set_cons_succ]
  refine ors_pure (v := ?_) (by kernel_rfl) ?_ ?_
  rotate_left
  · intro w' hv; clear hv; go_simp; try with_reducible rfl
  try simp only [Act.put, List.setIfInBounds_toArray, List.set_cons_zero, List.set_cons_succ]
  refine ors_pure (v := ?_) (by kernel_rfl) ?_ ?_
  rotate_left
  · intro w' hv; clear hv; go_simp; try with_reducible rfl
  try simp only [Act.put, List.setIfInBounds_toArray, List.set_cons_zero, List.set_cons_succ]
  refine ors_pure (v := ?_) (by kernel_rfl) ?_ ?_
  rotate_left
  · intro w' hv; clear hv; go_simp; try with_reducible rfl
  try simp only [Act.put, List.setIfInBounds_toArray, List.set_cons_zero, List.set_cons_succ]
  refine ors_pure (v := ?_) (by kernel_rfl) ?_ ?_
  rotate_left
  · intro w' hv; clear hv; go_simp; try with_reducible rfl
  try simp only [Act.put, List.setIfInBounds_toArray, List.set_cons_zero, List.set_cons_succ]
  refine ors_pure (v := ?_) (by kernel_rfl) ?_ ?_
  rotate_left
  · intro w' hv; clear hv; go_simp; try with_reducible rfl
  try simp only [Act.put, List.setIfInBounds_toArray, List.set_cons_zero, List.set_cons_succ]
  refine ors_pure (v := ?_) (by kernel_rfl) ?_ ?_
  rotate_left
  · intro w' hv; clear hv; go_simp; try with_reducible rfl
  try simp only [Act.put, List.setIfInBounds_toArray, List.set_cons_zero, List.set_cons_succ]
  refine ors_pure (v := ?_) (by kernel_rfl) ?_ ?_
  rotate_left
  · intro w' hv; clear hv; go_simp; try with_reducible rfl
  try simp only [Act.put, List.setIfInBounds_toArray, List.set_cons_zero, List.set_cons_succ]
  refine ors_pure (v := ?_) (by kernel_rfl) ?_ ?_
  rotate_left
  · intro w' hv; clear hv; go_simp; try with_reducible rfl
  try simp only [Act.put, List.setIfInBounds_toArray, List.set_cons_zero, List.set_cons_succ]
  refine ors_pure (by kernel_rfl) (fun w' hv => load_tr (.tmp 5) rfl g rfl (.slice qa A.length ca) (HXAD.out.keepB hv)) ?_
  try simp only [Act.put, List.setIfInBounds_toArray, List.set_cons_zero, List.set_cons_succ]
  refine ors_step (by kernel_rfl) (fun K hK => ?_)
  go_wp2_with fail
  refine Calls.mono (HGA.out h40a wd HBD.out) ?_
  rintro e w2 ⟨rfl, hb⟩
  have HD2 : Hid (Below wd.heap.size wd w2) := Lib.hid hb
  clear hb
  refine hK _ _ ⟨HD2.out, ?_⟩
  clear hK
  try simp only [Act.put, List.setIfInBounds_toArray, List.set_cons_zero, List.set_cons_succ]
  simp only [hga]
  refine ors_pure (v := ?_) (by kernel_rfl) ?_ ?_
  rotate_left
  · intro w' hv; clear hv; go_simp; try with_reducible rfl
  try simp only [Act.put, List.setIfInBounds_toArray, List.set_cons_zero, List.set_cons_succ]
  refine ors_pure (v := ?_) (by kernel_rfl) ?_ ?_
  rotate_left
  · intro w' hv; clear hv; go_simp; try with_reducible rfl
  try simp only [Act.put, List.setIfInBounds_toArray, List.set_cons_zero, List.set_cons_succ]
  refine ors_pure (v := ?_) (by kernel_rfl) ?_ ?_
  rotate_left
  · intro w' hv; clear hv; go_simp; try with_reducible rfl
  try simp only [Act.put, List.setIfInBounds_toArray, List.set_cons_zero, List.set_cons_succ]
  refine ors_pure (by kernel_rfl) (fun w' hv => load_tr (.tmp 6) rfl (g + 1) rfl (.slice qb B.length cb) (HXBD.out.keepB hv)) ?_
  try simp only [Act.put, List.setIfInBounds_toArray, List.set_cons_zero, List.set_cons_succ]
  refine ors_step (by kernel_rfl) (fun K hK => ?_)
  go_wp2_with fail
  refine Calls.mono (HGB.out h40b w2 (HBD.out.trans (HD2.out.mono HBD.out.size))) ?_
  rintro e w3 ⟨rfl, hb⟩
  have HD3 : Hid (Below wd.heap.size wd w3) := Lib.hid (HD2.out.trans (hb.mono HD2.out.size))
  clear hb
  refine hK _ _ ⟨HD3.out, ?_⟩
  clear hK
  try simp only [Act.put, List.setIfInBounds_toArray, List.set_cons_zero, List.set_cons_succ]
  simp only [hgb]
  refine ors_pure (v := ?_) (by kernel_rfl) ?_ ?_
  rotate_left
  · intro w' hv; clear hv; go_simp; try with_reducible rfl
  try simp only [Act.put, List.setIfInBounds_toArray, List.set_cons_zero, List.set_cons_succ]
  refine ors_pure (v := ?_) (by kernel_rfl) ?_ ?_
  rotate_left
  · intro w' hv; clear hv; go_simp; try with_reducible rfl
  try simp only [Act.put, List.setIfInBounds_toArray, List.set_cons_zero, List.set_cons_succ]
  refine ors_pure (v := ?_) (by kernel_rfl) ?_ ?_
  rotate_left
  · intro w' hv; clear hv; go_simp; try with_reducible rfl
  try simp only [Act.put, List.setIfInBounds_toArray, List.set_cons_zero, List.set_cons_succ]
  refine ors_pure (by kernel_rfl) (fun w' hv => load_tr (.tmp 5) rfl g rfl (.slice qa A.length ca) (HXAD.out.keepB hv)) ?_
  try simp only [Act.put, List.setIfInBounds_toArray, List.set_cons_zero, List.set_cons_succ]
  refine ors_pure (by kernel_rfl) (fun w' hv => load_tr (.tmp 6) rfl (g + 1) rfl (.slice qb B.length cb) (HXBD.out.keepB hv)) ?_
  try simp only [Act.put, List.setIfInBounds_toArray, List.set_cons_zero, List.set_cons_succ]
  refine ors_step (by kernel_rfl) (fun K hK => ?_)
  go_wp2_with fail
  refine Calls.mono (HYA.out h40a w3 (HBD.out.trans (HD3.out.mono HBD.out.size))) ?_
  rintro e w4 ⟨rfl, hb⟩
  have HD4 : Hid (Below wd.heap.size wd w4) := Lib.hid (HD3.out.trans (hb.mono HD3.out.size))
  clear hb
  refine hK _ _ ⟨HD4.out, ?_⟩
  clear hK
  try simp only [Act.put, List.setIfInBounds_toArray, List.set_cons_zero, List.set_cons_succ]
  refine ors_step (by kernel_rfl) (fun K hK => ?_)
  go_wp2_with fail
  refine Calls.mono (HYB.out h40b w4 (HBD.out.trans (HD4.out.mono HBD.out.size))) ?_
  rintro e w5 ⟨rfl, hb⟩
  have HD5 : Hid (Below wd.heap.size wd w5) := Lib.hid (HD4.out.trans (hb.mono HD4.out.size))
  clear hb
  refine hK _ _ ⟨HD5.out, ?_⟩
  clear hK
  try simp only [Act.put, List.setIfInBounds_toArray, List.set_cons_zero, List.set_cons_succ]
  refine ors_pure (v := ?_) (by kernel_rfl) ?_ ?_
  rotate_left
  · intro w' hv; clear hv; go_simp; try with_reducible rfl
  try simp only [Act.put, List.setIfInBounds_toArray, List.set_cons_zero, List.set_cons_succ]
  refine ors_pure (v := ?_) (by kernel_rfl) ?_ ?_
  rotate_left
  · intro w' hv; clear hv; go_simp; try with_reducible rfl
  try simp only [Act.put, List.setIfInBounds_toArray, List.set_cons_zero, List.set_cons_succ]
  refine ors_pure (v := ?_) (by kernel_rfl) ?_ ?_
  rotate_left
  · intro w' hv; clear hv; go_simp; try with_reducible rfl
  try simp only [Act.put, List.setIfInBounds_toArray, List.set_cons_zero, List.set_cons_succ]
  refine ors_nil ?_
  have HB5 := Lib.hid (HBD.out.trans (HD5.out.mono HBD.out.size))
  have HXA5 := Lib.hid (HXAD.out.keepB HD5.out)
  have HXB5 := Lib.hid (HXBD.out.keepB HD5.out)
  clear HD2 HD3 HD4 HD5 HBD HXAD HXBD HGA HGB HYA HYB k1 k2 kw
  go_upto_region 6 with fail
  clear k4 hya hyb h4
  refine wp_region_ors (fun w' => Below w5.drew.heap.size w5.drew w') [(0, true), (2, true), (1, false), (3, false), (4, true), (5, true)] (by kernel_rfl) (by kernel_rfl) (by kernel_rfl) (Below.refl _ _) ?_
  have HBD := Lib.hid HB5.out.drew
  have HXAD : Hid (Has w5.drew g 28 [.slice qa A.length ca]) := Lib.hid HXA5.out.drew
  have HXBD : Hid (Has w5.drew (g + 1) 28 [.slice qb B.length cb]) := Lib.hid HXB5.out.drew
  clear HB5 HXA5 HXB5
  generalize w5.drew = wd at *
  simp only [pickOrs, List.getElem?_cons_zero, List.getElem?_cons_succ]
  refine ors_pure (by kernel_rfl) (fun w' hv => load_tr (.tmp 5) rfl g rfl (.slice qa A.length ca) (HXAD.out.keepB hv)) ?_
  try simp only [Act.put, List.setIfInBounds_toArray, List.set_cons_zero, List.set_cons_succ]
  refine ors_pure (by kernel_rfl) (fun w' hv => load_tr (.tmp 6) rfl (g + 1) rfl (.slice qb B.length cb) (HXBD.out.keepB hv)) ?_
  try simp only [Act.put, List.setIfInBounds_toArray, List.set_cons_zero, List.set_cons_succ]
  refine ors_step (by kernel_rfl) (fun K hK => ?_)
  go_wp2_with fail
  refine Calls.mono (HOA.out h40a wd HBD.out) ?_
  rintro e w2 ⟨⟨vx, X, rfl, ⟨qx, cx, rfl, hcx, hqx, hsx⟩, hlx, hkx⟩, hb⟩
  have HD2 : Hid (Below wd.heap.size wd w2) := Lib.hid hb
  have HSX2 := Lib.hid hsx
  have HLX2 := Lib.hid hlx.lnb
  have HKX := Lib.hid hkx
  refine hK _ _ ⟨hb, ?_⟩
  clear hK
  try simp only [Act.put, List.setIfInBounds_toArray, List.set_cons_zero, List.set_cons_succ]
  clear hb hsx hlx hkx hcx hqx
  refine ors_step (by kernel_rfl) (fun K hK => ?_)
  go_wp2_with fail
  refine Calls.mono (HOB.out h40b w2 (HBD.out.trans (HD2.out.mono HBD.out.size))) ?_
  rintro e w3 ⟨⟨vy, Y, rfl, ⟨qy, cy, rfl, hcy, hqy, hsy⟩, hly, hky⟩, hb⟩
  have HD3 : Hid (Below wd.heap.size wd w3) := Lib.hid (HD2.out.trans (hb.mono HD2.out.size))
  have HSX3 := Lib.hid ((HSX2.out.keep hb).more hb.size)
  have HLX3 := Lib.hid (HLX2.out.keep hb)
  have HSY3 := Lib.hid hsy
  have HLY3 := Lib.hid hly.lnb
  have HKY := Lib.hid hky
  clear hb hsy hly hky hcy hqy HSX2 HLX2 HOA HOB
  refine hK _ _ ⟨HD3.out, ?_⟩
  clear hK
  try simp only [Act.put, List.setIfInBounds_toArray, List.set_cons_zero, List.set_cons_succ]
  refine ors_pure (v := ?_) (by kernel_rfl) ?_ ?_
  rotate_left
  · intro w' hv; clear hv; go_simp; try with_reducible rfl
  try simp only [Act.put, List.setIfInBounds_toArray, List.set_cons_zero, List.set_cons_succ]
  refine ors_pure (v := ?_) (by kernel_rfl) ?_ ?_
  rotate_left
  · intro w' hv; clear hv; go_simp; try with_reducible rfl
  try simp only [Act.put, List.setIfInBounds_toArray, List.set_cons_zero, List.set_cons_succ]
  refine ors_nil ?_
  have HB3 := Lib.hid (HBD.out.trans (HD3.out.mono HBD.out.size))
  have HXA3 := Lib.hid (HXAD.out.keepB HD3.out)
  have HXB3 := Lib.hid (HXBD.out.keepB HD3.out)
  clear HD2 HD3 HBD HXAD HXBD
  have hsmx := ofP_small HKX.out hga
  have hsmy := ofP_small HKY.out hgb
  obtain ⟨PX, hPX⟩ : ∃ P, P = putR (X.map keyL) := ⟨_, rfl⟩
  obtain ⟨PY, hPY⟩ : ∃ P, P = putR (Y.map keyL) := ⟨_, rfl⟩
  obtain ⟨s, hs⟩ : ∃ s, s = decide (PX = PY) := ⟨_, rfl⟩
  have HSS : Hid (s = true ↔ X.map keyL = Y.map keyL) := Lib.hid (by
    rw [hs, decide_eq_true_iff, hPX, hPY]
    exact putR_apart (by rw [HKX.out]; exact of_good12 hga) (by rw [HKY.out]; exact of_good12 hgb))
  have HPS : Hid (s = true → PX = PY) := Lib.hid (fun h => by rw [hs, decide_eq_true_iff] at h; exact h)
  have hbq : ((strB PX).toList == (strB PY).toList) = s := (strB_beq PX PY).trans hs.symm
  have HPX : Hid (∀ w1, Below w3.heap.size w3 w1 → Calls Tryz.prog 13 #[.slice qx X.length cx] w1 (GiveO w1 PX)) := Lib.hid (fun w1 h => by rw [hPX]; exact put12_any X qx cx w1 (by omega) (fun l hl => ⟨by have := (hsmx.2 l hl).1; omega, by have := (hsmx.2 l hl).2; omega⟩) ((HSX3.out.keep h).more h.size) (HLX3.out.keep h))
  have HPY : Hid (∀ w1, Below w3.heap.size w3 w1 → Calls Tryz.prog 13 #[.slice qy Y.length cy] w1 (GiveO w1 PY)) := Lib.hid (fun w1 h => by rw [hPY]; exact put12_any Y qy cy w1 (by omega) (fun l hl => ⟨by have := (hsmy.2 l hl).1; omega, by have := (hsmy.2 l hl).2; omega⟩) ((HSY3.out.keep h).more h.size) (HLY3.out.keep h))
  have HTX : Hid (∀ w1, Below w3.heap.size w3 w1 → Calls Tryz.prog 18 #[.slice qx X.length cx] w1 fun e w' => e = .returned (.agg (encU (shaU PX)).toArray) ∧ Below w1.heap.size w1 w') := Lib.hid (fun w1 h => by rw [hPX]; exact tell12_any X qx cx w1 (by omega) (fun l hl => ⟨by have := (hsmx.2 l hl).1; omega, by have := (hsmx.2 l hl).2; omega⟩) ((HSX3.out.keep h).more h.size) (HLX3.out.keep h) (HL.out.keep (HB3.out.trans (h.mono HB3.out.size)) HSZ.out))
  have HTY : Hid (∀ w1, Below w3.heap.size w3 w1 → Calls Tryz.prog 18 #[.slice qy Y.length cy] w1 fun e w' => e = .returned (.agg (encU (shaU PY)).toArray) ∧ Below w1.heap.size w1 w') := Lib.hid (fun w1 h => by rw [hPY]; exact tell12_any Y qy cy w1 (by omega) (fun l hl => ⟨by have := (hsmy.2 l hl).1; omega, by have := (hsmy.2 l hl).2; omega⟩) ((HSY3.out.keep h).more h.size) (HLY3.out.keep h) (HL.out.keep (HB3.out.trans (h.mono HB3.out.size)) HSZ.out))
  have HRX : Hid (∀ w1, Below w3.heap.size w3 w1 → Calls Tryz.prog 17 #[.slice qx X.length cx] w1 fun e w' => (∃ v R, e = .returned v ∧ LnV w' v R ∧ LnO w' w1.heap.size 72 R ∧ R.map keyL = X.map keyL) ∧ Below w1.heap.size w1 w') := Lib.hid (fun w1 h => recipeOf_any X qx cx w1 (by omega) (fun l hl => by have := (hsmx.2 l hl).2; omega) ((HSX3.out.keep h).more h.size) (HLX3.out.keep h))
  have HRY : Hid (∀ w1, Below w3.heap.size w3 w1 → Calls Tryz.prog 17 #[.slice qy Y.length cy] w1 fun e w' => (∃ v R, e = .returned v ∧ LnV w' v R ∧ LnO w' w1.heap.size 72 R ∧ R.map keyL = Y.map keyL) ∧ Below w1.heap.size w1 w') := Lib.hid (fun w1 h => recipeOf_any Y qy cy w1 (by omega) (fun l hl => by have := (hsmy.2 l hl).2; omega) ((HSY3.out.keep h).more h.size) (HLY3.out.keep h))
  have HSMX := Lib.hid hsmx
  have HSMY := Lib.hid hsmy
  clear hsmx hsmy hPX hPY hs HSX3 HLX3 HSY3 HLY3
  go_upto_region 7 with fail
  refine wp_region_org [(0, true), (3, true), (1, false), (2, true), (4, false), (5, true), (6, true), (7, true)] (by kernel_rfl) (by kernel_rfl) (by kernel_rfl) ?_
  have HD : Hid (Below w3.heap.size w3 w3.drew) := Lib.hid (Below.refl _ _).drew
  generalize w3.drew = wd at *
  simp only [pickOrs, List.getElem?_cons_zero, List.getElem?_cons_succ]
  refine org_pure (v := ?_) (by kernel_rfl) ?_ ?_
  rotate_left
  · intro w' hv; clear hv; go_simp; try with_reducible rfl
  try simp only [Act.put, List.setIfInBounds_toArray, List.set_cons_zero, List.set_cons_succ]
  refine org_pure (v := ?_) (by kernel_rfl) ?_ ?_
  rotate_left
  · intro w' hv; clear hv; go_simp; try with_reducible rfl
  try simp only [Act.put, List.setIfInBounds_toArray, List.set_cons_zero, List.set_cons_succ]
  refine org_step (by kernel_rfl) (fun K hK => ?_)
  go_wp2_with fail
  refine Calls.mono (HPX.out wd HD.out) ?_
  rintro e w8 ⟨v8, rfl, how, hb⟩
  have HD8 : Hid (Below w3.heap.size w3 w8) := Lib.hid (HD.out.trans (hb.mono HD.out.size))
  obtain ⟨q8, c8, hv8, _, _, hs8⟩ := how.bs
  subst hv8
  have HST8 : Hid (∀ w', Ext w8 w' → (convert 40 9 (.slice q8 PX.length c8)).run Tryz.prog w' = .ok (.string (strB PX)) w') := Lib.hid (fun w' h => str_run PX q8 c8 _ w' (hs8.keep h))
  refine hK _ _ ⟨hb, ?_⟩
  clear hK hb how hs8
  try simp only [Act.put, List.setIfInBounds_toArray, List.set_cons_zero, List.set_cons_succ]
  refine org_pure (v := ?_) (by kernel_rfl) ?_ ?_
  rotate_left
  · intro w' hv; have hst := HST8.out w' hv; clear hv; go_simp; try with_reducible rfl
  try simp only [Act.put, List.setIfInBounds_toArray, List.set_cons_zero, List.set_cons_succ]
  refine org_step (by kernel_rfl) (fun K hK => ?_)
  go_wp2_with fail
  refine Calls.mono (HPY.out w8 HD8.out) ?_
  rintro e w9 ⟨v9, rfl, how, hb⟩
  have HD9 : Hid (Below w3.heap.size w3 w9) := Lib.hid (HD8.out.trans (hb.mono HD8.out.size))
  obtain ⟨q9, c9, hv9, _, _, hs9⟩ := how.bs
  subst hv9
  have HST9 : Hid (∀ w', Ext w9 w' → (convert 40 9 (.slice q9 PY.length c9)).run Tryz.prog w' = .ok (.string (strB PY)) w') := Lib.hid (fun w' h => str_run PY q9 c9 _ w' (hs9.keep h))
  refine hK _ _ ⟨hb, ?_⟩
  clear hK hb how hs9
  try simp only [Act.put, List.setIfInBounds_toArray, List.set_cons_zero, List.set_cons_succ]
  refine org_pure (v := ?_) (by kernel_rfl) ?_ ?_
  rotate_left
  · intro w' hv; have hst := HST9.out w' hv; clear hv; go_simp; try with_reducible rfl
  try simp only [Act.put, List.setIfInBounds_toArray, List.set_cons_zero, List.set_cons_succ]
  refine org_pure (v := ?_) (by kernel_rfl) ?_ ?_
  rotate_left
  · intro w' hv; clear hv; go_simp; try with_reducible rfl
  try simp only [Act.put, List.setIfInBounds_toArray, List.set_cons_zero, List.set_cons_succ]
  refine org_pure (v := ?_) (by kernel_rfl) ?_ ?_
  rotate_left
  · intro w' hv; clear hv; go_simp; try with_reducible rfl
  try simp only [Act.put, List.setIfInBounds_toArray, List.set_cons_zero, List.set_cons_succ]
  refine org_nil ?_
  have HB9 := Lib.hid (HB3.out.trans (HD9.out.mono HB3.out.size))
  have HXA9 := Lib.hid (HXA3.out.keepB HD9.out)
  have HXB9 := Lib.hid (HXB3.out.keepB HD9.out)
  clear HB3 HXA3 HXB3 hbq HST8 HST9 HD HD8 HPX HPY
  have hba : bytesT (cleanP A) ≤ 16384 := by unfold cleanP; rw [if_pos hga]; exact Nat.le_trans (bytesT_filter _ _) (good_bytes' hga).2
  have hbb : bytesT (cleanP B) ≤ 16384 := by unfold cleanP; rw [if_pos hgb]; exact Nat.le_trans (bytesT_filter _ _) (good_bytes' hgb).2
  have hla' := cleanP_len A
  have hlb' := cleanP_len B
  obtain ⟨cs, hcs⟩ : ∃ c, c = sameT (cleanP A) (cleanP B) := ⟨_, rfl⟩
  have HCS : Hid (cs = true → s = true) := Lib.hid (fun h => HSS.out.2 (by rw [HKX.out, HKY.out]; exact same_of hga hgb (hcs.symm.trans h)))
  have HSAM : Hid (∀ (q1 q2 : Option Addr) (c1 c2 : Nat) (w1 : World), Below w.heap.size w w1 → (cleanP A).length ≤ c1 → (cleanP B).length ≤ c2 → Sees w1 w1.heap.size q1 (rowC (cleanP A)) → Sees w1 w1.heap.size q2 (rowC (cleanP B)) → Calls Tryz.prog 34 #[.agg #[.slice q1 (cleanP A).length c1], .agg #[.slice q2 (cleanP B).length c2]] w1 fun e w' => e = .returned (.bool cs) ∧ Below w1.heap.size w1 w') := Lib.hid (fun q1 q2 c1 c2 w1 h h1 h2 h3 h4 => by rw [hcs]; exact tsame_any (cleanP A) (cleanP B) q1 q2 c1 c2 (by omega) (by omega) h1 h2 (by omega) (by omega) HNA.out HNB.out w1 h3 h4 (HEA.out w1 h) (HEB.out w1 h))
  clear hba hbb hla' hlb' hcs hga hgb HEA HEB HNA HNB
  generalize cleanP A = DA at *
  generalize cleanP B = DB at *
  go_upto_region 8 with fail
  cases cs with
  | true =>
    have hst := HCS.out rfl
    subst hst
    have he : shaU PX = shaU PY := congrArg shaU (HPS.out rfl)
    refine wp_region_ors (fun w' => Below w9.drew.heap.size w9.drew w') [(0, true), (2, true), (1, false), (3, false), (4, false), (5, true), (6, true), (7, true), (8, true), (9, true), (10, true), (12, true), (11, false), (13, false), (14, true), (15, true), (16, true), (17, true), (18, true), (19, true), (20, true), (21, true), (23, true), (26, true), (22, false), (24, false), (25, false), (27, true), (28, true), (29, true)] (by kernel_rfl) (by kernel_rfl) (by kernel_rfl) (Below.refl _ _) ?_
    have HBD := Lib.hid HB9.out.drew
    have HD : Hid (Below w3.heap.size w3 w9.drew) := Lib.hid HD9.out.drew
    have HXAD : Hid (Has w9.drew g 28 [.slice qa A.length ca]) := Lib.hid HXA9.out.drew
    have HXBD : Hid (Has w9.drew (g + 1) 28 [.slice qb B.length cb]) := Lib.hid HXB9.out.drew
    clear HB9 HXA9 HXB9 HD9
    generalize w9.drew = wd at *
    simp only [pickOrs, List.getElem?_cons_zero, List.getElem?_cons_succ]
    refine ors_pure (by kernel_rfl) (fun w' hv => load_tr (.tmp 5) rfl g rfl (.slice qa A.length ca) (HXAD.out.keepB hv)) ?_
    try simp only [Act.put, List.setIfInBounds_toArray, List.set_cons_zero, List.set_cons_succ]
    refine ors_pure (by kernel_rfl) (fun w' hv => load_tr (.tmp 6) rfl (g + 1) rfl (.slice qb B.length cb) (HXBD.out.keepB hv)) ?_
    try simp only [Act.put, List.setIfInBounds_toArray, List.set_cons_zero, List.set_cons_succ]
    refine ors_step (by kernel_rfl) (fun K hK => ?_)
    go_wp2_with fail
    refine Calls.mono (HCA.out h40a wd HBD.out) ?_
    rintro e w10 ⟨⟨vc, rfl, ⟨q10, c10, rfl, hc10, _, hs10⟩⟩, hb⟩
    have HE10 : Hid (Below wd.heap.size wd w10) := Lib.hid hb
    have HC10 := Lib.hid hc10
    have HS10 := Lib.hid hs10
    refine hK _ _ ⟨hb, ?_⟩
    clear hK
    try simp only [Act.put, List.setIfInBounds_toArray, List.set_cons_zero, List.set_cons_succ]
    clear hb hc10 hs10
    refine ors_step (by kernel_rfl) (fun K hK => ?_)
    go_wp2_with fail
    refine Calls.mono (HCB.out h40b w10 (HBD.out.trans (HE10.out.mono HBD.out.size))) ?_
    rintro e w11 ⟨⟨vc, rfl, ⟨q11, c11, rfl, hc11, _, hs11⟩⟩, hb⟩
    have HE11 : Hid (Below wd.heap.size wd w11) := Lib.hid (HE10.out.trans (hb.mono HE10.out.size))
    have HSQ := Lib.hid (HSAM.out q10 q11 c10 c11 w11 (HBD.out.trans (HE11.out.mono HBD.out.size)) HC10.out hc11 ((HS10.out.keep hb).more hb.size) hs11)
    clear hb hc11 hs11 HE10 HC10 HS10
    refine hK _ _ ⟨HE11.out, ?_⟩
    clear hK
    try simp only [Act.put, List.setIfInBounds_toArray, List.set_cons_zero, List.set_cons_succ]
    refine ors_step (by kernel_rfl) (fun K hK => ?_)
    go_wp2_with fail
    refine Calls.mono (HSQ.out) ?_
    rintro e w12 ⟨rfl, hb⟩
    have HE12 : Hid (Below wd.heap.size wd w12) := Lib.hid (HE11.out.trans (hb.mono HE11.out.size))
    clear hb HSQ HE11
    refine hK _ _ ⟨HE12.out, ?_⟩
    clear hK
    try simp only [Act.put, List.setIfInBounds_toArray, List.set_cons_zero, List.set_cons_succ]
    refine ors_pure (v := ?_) (by kernel_rfl) ?_ ?_
    rotate_left
    · intro w' hv; clear hv; go_simp; try with_reducible rfl
    try simp only [Act.put, List.setIfInBounds_toArray, List.set_cons_zero, List.set_cons_succ]
    refine ors_pure (v := ?_) (by kernel_rfl) ?_ ?_
    rotate_left
    · intro w' hv; clear hv; go_simp; try with_reducible rfl
    try simp only [Act.put, List.setIfInBounds_toArray, List.set_cons_zero, List.set_cons_succ]
    refine ors_pure (v := ?_) (by kernel_rfl) ?_ ?_
    rotate_left
    · intro w' hv; clear hv; go_simp; try with_reducible rfl
    try simp only [Act.put, List.setIfInBounds_toArray, List.set_cons_zero, List.set_cons_succ]
    refine ors_pure (v := ?_) (by kernel_rfl) ?_ ?_
    rotate_left
    · intro w' hv; clear hv; go_simp; try with_reducible rfl
    try simp only [Act.put, List.setIfInBounds_toArray, List.set_cons_zero, List.set_cons_succ]
    refine ors_pure (v := ?_) (by kernel_rfl) ?_ ?_
    rotate_left
    · intro w' hv; clear hv; go_simp; try with_reducible rfl
    try simp only [Act.put, List.setIfInBounds_toArray, List.set_cons_zero, List.set_cons_succ]
    refine ors_pure (v := ?_) (by kernel_rfl) ?_ ?_
    rotate_left
    · intro w' hv; clear hv; go_simp; try with_reducible rfl
    try simp only [Act.put, List.setIfInBounds_toArray, List.set_cons_zero, List.set_cons_succ]
    refine ors_pure (v := ?_) (by kernel_rfl) ?_ ?_
    rotate_left
    · intro w' hv; clear hv; go_simp; try with_reducible rfl
    try simp only [Act.put, List.setIfInBounds_toArray, List.set_cons_zero, List.set_cons_succ]
    refine ors_step (by kernel_rfl) (fun K hK => ?_)
    go_wp2_with fail
    refine Calls.mono (HTX.out w12 (HD.out.trans (HE12.out.mono HD.out.size))) ?_
    rintro e w13 ⟨rfl, hb⟩
    have HE13 : Hid (Below wd.heap.size wd w13) := Lib.hid (HE12.out.trans (hb.mono HE12.out.size))
    clear hb HE12
    refine hK _ _ ⟨HE13.out, ?_⟩
    clear hK
    try simp only [Act.put, List.setIfInBounds_toArray, List.set_cons_zero, List.set_cons_succ]
    refine ors_step (by kernel_rfl) (fun K hK => ?_)
    go_wp2_with fail
    refine Calls.mono (HTY.out w13 (HD.out.trans (HE13.out.mono HD.out.size))) ?_
    rintro e w14 ⟨rfl, hb⟩
    have HE14 : Hid (Below wd.heap.size wd w14) := Lib.hid (HE13.out.trans (hb.mono HE13.out.size))
    clear hb HE13
    refine hK _ _ ⟨HE14.out, ?_⟩
    clear hK
    try simp only [Act.put, List.setIfInBounds_toArray, List.set_cons_zero, List.set_cons_succ]
    refine ors_pure (by kernel_rfl) (fun w' hv => eql_su 31 (.tmp 64) (.tmp 66) _ rfl (shaU PX) (shaU PY) rfl rfl elSum.2.1 gdSumZ) ?_
    try simp only [Act.put, List.setIfInBounds_toArray, List.set_cons_zero, List.set_cons_succ]
    rw [decide_eq_true he]
    refine ors_pure (v := ?_) (by kernel_rfl) ?_ ?_
    rotate_left
    · intro w' hv; clear hv; go_simp; try with_reducible rfl
    try simp only [Act.put, List.setIfInBounds_toArray, List.set_cons_zero, List.set_cons_succ]
    refine ors_skip (by kernel_rfl) ?_
    try simp only [Act.put, List.setIfInBounds_toArray, List.set_cons_zero, List.set_cons_succ]
    refine ors_skip (by kernel_rfl) ?_
    try simp only [Act.put, List.setIfInBounds_toArray, List.set_cons_zero, List.set_cons_succ]
    refine ors_pure (v := ?_) (by kernel_rfl) ?_ ?_
    rotate_left
    · intro w' hv; clear hv; go_simp; try with_reducible rfl
    try simp only [Act.put, List.setIfInBounds_toArray, List.set_cons_zero, List.set_cons_succ]
    refine ors_pure (v := ?_) (by kernel_rfl) ?_ ?_
    rotate_left
    · intro w' hv; clear hv; go_simp; try with_reducible rfl
    try simp only [Act.put, List.setIfInBounds_toArray, List.set_cons_zero, List.set_cons_succ]
    refine ors_pure (v := ?_) (by kernel_rfl) ?_ ?_
    rotate_left
    · intro w' hv; clear hv; go_simp; try with_reducible rfl
    try simp only [Act.put, List.setIfInBounds_toArray, List.set_cons_zero, List.set_cons_succ]
    refine ors_pure (v := ?_) (by kernel_rfl) ?_ ?_
    rotate_left
    · intro w' hv; clear hv; go_simp; try with_reducible rfl
    try simp only [Act.put, List.setIfInBounds_toArray, List.set_cons_zero, List.set_cons_succ]
    refine ors_pure (v := ?_) (by kernel_rfl) ?_ ?_
    rotate_left
    · intro w' hv; clear hv; go_simp; try with_reducible rfl
    try simp only [Act.put, List.setIfInBounds_toArray, List.set_cons_zero, List.set_cons_succ]
    refine ors_pure (v := ?_) (by kernel_rfl) ?_ ?_
    rotate_left
    · intro w' hv; clear hv; go_simp; try with_reducible rfl
    try simp only [Act.put, List.setIfInBounds_toArray, List.set_cons_zero, List.set_cons_succ]
    refine ors_step (by kernel_rfl) (fun K hK => ?_)
    go_wp2_with fail
    refine Calls.mono (HRX.out w14 (HD.out.trans (HE14.out.mono HD.out.size))) ?_
    rintro e w15 ⟨⟨vr, R1, rfl, ⟨q15, c15, rfl, hc15, _, hs15⟩, hl15, hk15⟩, hb⟩
    have HE15 : Hid (Below wd.heap.size wd w15) := Lib.hid (HE14.out.trans (hb.mono HE14.out.size))
    have HS15 := Lib.hid hs15
    have HL15 := Lib.hid hl15.lnb
    have HK15 := Lib.hid hk15
    clear hb hc15 hs15 hl15 hk15 HE14
    refine hK _ _ ⟨HE15.out, ?_⟩
    clear hK
    try simp only [Act.put, List.setIfInBounds_toArray, List.set_cons_zero, List.set_cons_succ]
    refine ors_step (by kernel_rfl) (fun K hK => ?_)
    go_wp2_with fail
    refine Calls.mono (HRY.out w15 (HD.out.trans (HE15.out.mono HD.out.size))) ?_
    rintro e w16 ⟨⟨vr, R2, rfl, ⟨q16, c16, rfl, hc16, _, hs16⟩, hl16, hk16⟩, hb⟩
    have HE16 : Hid (Below wd.heap.size wd w16) := Lib.hid (HE15.out.trans (hb.mono HE15.out.size))
    have hlr : R1.length = X.length := by have := congrArg List.length HK15.out; simpa using this
    have HSR := Lib.hid (sameR_any R1 R2 q15 q16 c15 c16 w16 (by have := HSMX.out.1; omega) (fun l hl => by
      have h1 : keyL l ∈ X.map keyL := by rw [← HK15.out]; exact List.mem_map_of_mem hl
      obtain ⟨m, hm, he'⟩ := List.mem_map.1 h1
      have h2 : m.2.2.2.2 = l.2.2.2.2 := congrArg (fun z : Lk => z.2.2.2) he'
      rw [← h2]; have := (HSMX.out.2 m hm).2; omega) ((HS15.out.keep hb).more hb.size) hs16 (HL15.out.keep hb) hl16.lnb true (by rw [HK15.out, hk16]; first | exact HSS.out | simpa using HSS.out))
    clear hb hc16 hs16 hl16 hk16 HE15 HS15 HL15 HK15 hlr
    refine hK _ _ ⟨HE16.out, ?_⟩
    clear hK
    try simp only [Act.put, List.setIfInBounds_toArray, List.set_cons_zero, List.set_cons_succ]
    refine ors_step (by kernel_rfl) (fun K hK => ?_)
    go_wp2_with fail
    refine Calls.mono (HSR.out) ?_
    rintro e w17 ⟨rfl, hb⟩
    have HE17 : Hid (Below wd.heap.size wd w17) := Lib.hid (HE16.out.trans (hb.mono HE16.out.size))
    clear hb HSR HE16
    refine hK _ _ ⟨HE17.out, ?_⟩
    clear hK
    try simp only [Act.put, List.setIfInBounds_toArray, List.set_cons_zero, List.set_cons_succ]
    refine ors_pure (v := ?_) (by kernel_rfl) ?_ ?_
    rotate_left
    · intro w' hv; clear hv; go_simp; try with_reducible rfl
    try simp only [Act.put, List.setIfInBounds_toArray, List.set_cons_zero, List.set_cons_succ]
    refine ors_pure (v := ?_) (by kernel_rfl) ?_ ?_
    rotate_left
    · intro w' hv; clear hv; go_simp; try with_reducible rfl
    try simp only [Act.put, List.setIfInBounds_toArray, List.set_cons_zero, List.set_cons_succ]
    refine ors_pure (v := ?_) (by kernel_rfl) ?_ ?_
    rotate_left
    · intro w' hv; clear hv; go_simp; try with_reducible rfl
    try simp only [Act.put, List.setIfInBounds_toArray, List.set_cons_zero, List.set_cons_succ]
    refine ors_nil ?_
    go_wp2_with fail
    go_ret
    exact ⟨rfl, HBD.out.trans (HE17.out.mono HBD.out.size)⟩
  | false =>
    cases s with
    | true =>
      have he : shaU PX = shaU PY := congrArg shaU (HPS.out rfl)
      refine wp_region_ors (fun w' => Below w9.drew.heap.size w9.drew w') [(0, true), (2, true), (1, false), (3, false), (4, false), (5, true), (6, true), (7, true), (8, true), (9, true), (10, true), (12, true), (11, false), (13, false), (14, true), (15, true), (16, true), (17, true), (18, true), (19, true), (20, true), (21, true), (23, true), (26, true), (22, false), (24, false), (25, false), (27, true), (28, true), (29, true)] (by kernel_rfl) (by kernel_rfl) (by kernel_rfl) (Below.refl _ _) ?_
      have HBD := Lib.hid HB9.out.drew
      have HD : Hid (Below w3.heap.size w3 w9.drew) := Lib.hid HD9.out.drew
      have HXAD : Hid (Has w9.drew g 28 [.slice qa A.length ca]) := Lib.hid HXA9.out.drew
      have HXBD : Hid (Has w9.drew (g + 1) 28 [.slice qb B.length cb]) := Lib.hid HXB9.out.drew
      clear HB9 HXA9 HXB9 HD9
      generalize w9.drew = wd at *
      simp only [pickOrs, List.getElem?_cons_zero, List.getElem?_cons_succ]
      refine ors_pure (by kernel_rfl) (fun w' hv => load_tr (.tmp 5) rfl g rfl (.slice qa A.length ca) (HXAD.out.keepB hv)) ?_
      try simp only [Act.put, List.setIfInBounds_toArray, List.set_cons_zero, List.set_cons_succ]
      refine ors_pure (by kernel_rfl) (fun w' hv => load_tr (.tmp 6) rfl (g + 1) rfl (.slice qb B.length cb) (HXBD.out.keepB hv)) ?_
      try simp only [Act.put, List.setIfInBounds_toArray, List.set_cons_zero, List.set_cons_succ]
      refine ors_step (by kernel_rfl) (fun K hK => ?_)
      go_wp2_with fail
      refine Calls.mono (HCA.out h40a wd HBD.out) ?_
      rintro e w10 ⟨⟨vc, rfl, ⟨q10, c10, rfl, hc10, _, hs10⟩⟩, hb⟩
      have HE10 : Hid (Below wd.heap.size wd w10) := Lib.hid hb
      have HC10 := Lib.hid hc10
      have HS10 := Lib.hid hs10
      refine hK _ _ ⟨hb, ?_⟩
      clear hK
      try simp only [Act.put, List.setIfInBounds_toArray, List.set_cons_zero, List.set_cons_succ]
      clear hb hc10 hs10
      refine ors_step (by kernel_rfl) (fun K hK => ?_)
      go_wp2_with fail
      refine Calls.mono (HCB.out h40b w10 (HBD.out.trans (HE10.out.mono HBD.out.size))) ?_
      rintro e w11 ⟨⟨vc, rfl, ⟨q11, c11, rfl, hc11, _, hs11⟩⟩, hb⟩
      have HE11 : Hid (Below wd.heap.size wd w11) := Lib.hid (HE10.out.trans (hb.mono HE10.out.size))
      have HSQ := Lib.hid (HSAM.out q10 q11 c10 c11 w11 (HBD.out.trans (HE11.out.mono HBD.out.size)) HC10.out hc11 ((HS10.out.keep hb).more hb.size) hs11)
      clear hb hc11 hs11 HE10 HC10 HS10
      refine hK _ _ ⟨HE11.out, ?_⟩
      clear hK
      try simp only [Act.put, List.setIfInBounds_toArray, List.set_cons_zero, List.set_cons_succ]
      refine ors_step (by kernel_rfl) (fun K hK => ?_)
      go_wp2_with fail
      refine Calls.mono (HSQ.out) ?_
      rintro e w12 ⟨rfl, hb⟩
      have HE12 : Hid (Below wd.heap.size wd w12) := Lib.hid (HE11.out.trans (hb.mono HE11.out.size))
      clear hb HSQ HE11
      refine hK _ _ ⟨HE12.out, ?_⟩
      clear hK
      try simp only [Act.put, List.setIfInBounds_toArray, List.set_cons_zero, List.set_cons_succ]
      refine ors_pure (v := ?_) (by kernel_rfl) ?_ ?_
      rotate_left
      · intro w' hv; clear hv; go_simp; try with_reducible rfl
      try simp only [Act.put, List.setIfInBounds_toArray, List.set_cons_zero, List.set_cons_succ]
      refine ors_pure (v := ?_) (by kernel_rfl) ?_ ?_
      rotate_left
      · intro w' hv; clear hv; go_simp; try with_reducible rfl
      try simp only [Act.put, List.setIfInBounds_toArray, List.set_cons_zero, List.set_cons_succ]
      refine ors_skip (by kernel_rfl) ?_
      try simp only [Act.put, List.setIfInBounds_toArray, List.set_cons_zero, List.set_cons_succ]
      refine ors_pure (v := ?_) (by kernel_rfl) ?_ ?_
      rotate_left
      · intro w' hv; clear hv; go_simp; try with_reducible rfl
      try simp only [Act.put, List.setIfInBounds_toArray, List.set_cons_zero, List.set_cons_succ]
      refine ors_pure (v := ?_) (by kernel_rfl) ?_ ?_
      rotate_left
      · intro w' hv; clear hv; go_simp; try with_reducible rfl
      try simp only [Act.put, List.setIfInBounds_toArray, List.set_cons_zero, List.set_cons_succ]
      refine ors_pure (v := ?_) (by kernel_rfl) ?_ ?_
      rotate_left
      · intro w' hv; clear hv; go_simp; try with_reducible rfl
      try simp only [Act.put, List.setIfInBounds_toArray, List.set_cons_zero, List.set_cons_succ]
      refine ors_pure (v := ?_) (by kernel_rfl) ?_ ?_
      rotate_left
      · intro w' hv; clear hv; go_simp; try with_reducible rfl
      try simp only [Act.put, List.setIfInBounds_toArray, List.set_cons_zero, List.set_cons_succ]
      refine ors_step (by kernel_rfl) (fun K hK => ?_)
      go_wp2_with fail
      refine Calls.mono (HTX.out w12 (HD.out.trans (HE12.out.mono HD.out.size))) ?_
      rintro e w13 ⟨rfl, hb⟩
      have HE13 : Hid (Below wd.heap.size wd w13) := Lib.hid (HE12.out.trans (hb.mono HE12.out.size))
      clear hb HE12
      refine hK _ _ ⟨HE13.out, ?_⟩
      clear hK
      try simp only [Act.put, List.setIfInBounds_toArray, List.set_cons_zero, List.set_cons_succ]
      refine ors_step (by kernel_rfl) (fun K hK => ?_)
      go_wp2_with fail
      refine Calls.mono (HTY.out w13 (HD.out.trans (HE13.out.mono HD.out.size))) ?_
      rintro e w14 ⟨rfl, hb⟩
      have HE14 : Hid (Below wd.heap.size wd w14) := Lib.hid (HE13.out.trans (hb.mono HE13.out.size))
      clear hb HE13
      refine hK _ _ ⟨HE14.out, ?_⟩
      clear hK
      try simp only [Act.put, List.setIfInBounds_toArray, List.set_cons_zero, List.set_cons_succ]
      refine ors_pure (by kernel_rfl) (fun w' hv => eql_su 31 (.tmp 64) (.tmp 66) _ rfl (shaU PX) (shaU PY) rfl rfl elSum.2.1 gdSumZ) ?_
      try simp only [Act.put, List.setIfInBounds_toArray, List.set_cons_zero, List.set_cons_succ]
      rw [decide_eq_true he]
      refine ors_pure (v := ?_) (by kernel_rfl) ?_ ?_
      rotate_left
      · intro w' hv; clear hv; go_simp; try with_reducible rfl
      try simp only [Act.put, List.setIfInBounds_toArray, List.set_cons_zero, List.set_cons_succ]
      refine ors_skip (by kernel_rfl) ?_
      try simp only [Act.put, List.setIfInBounds_toArray, List.set_cons_zero, List.set_cons_succ]
      refine ors_skip (by kernel_rfl) ?_
      try simp only [Act.put, List.setIfInBounds_toArray, List.set_cons_zero, List.set_cons_succ]
      refine ors_pure (v := ?_) (by kernel_rfl) ?_ ?_
      rotate_left
      · intro w' hv; clear hv; go_simp; try with_reducible rfl
      try simp only [Act.put, List.setIfInBounds_toArray, List.set_cons_zero, List.set_cons_succ]
      refine ors_pure (v := ?_) (by kernel_rfl) ?_ ?_
      rotate_left
      · intro w' hv; clear hv; go_simp; try with_reducible rfl
      try simp only [Act.put, List.setIfInBounds_toArray, List.set_cons_zero, List.set_cons_succ]
      refine ors_pure (v := ?_) (by kernel_rfl) ?_ ?_
      rotate_left
      · intro w' hv; clear hv; go_simp; try with_reducible rfl
      try simp only [Act.put, List.setIfInBounds_toArray, List.set_cons_zero, List.set_cons_succ]
      refine ors_pure (v := ?_) (by kernel_rfl) ?_ ?_
      rotate_left
      · intro w' hv; clear hv; go_simp; try with_reducible rfl
      try simp only [Act.put, List.setIfInBounds_toArray, List.set_cons_zero, List.set_cons_succ]
      refine ors_pure (v := ?_) (by kernel_rfl) ?_ ?_
      rotate_left
      · intro w' hv; clear hv; go_simp; try with_reducible rfl
      try simp only [Act.put, List.setIfInBounds_toArray, List.set_cons_zero, List.set_cons_succ]
      refine ors_pure (v := ?_) (by kernel_rfl) ?_ ?_
      rotate_left
      · intro w' hv; clear hv; go_simp; try with_reducible rfl
      try simp only [Act.put, List.setIfInBounds_toArray, List.set_cons_zero, List.set_cons_succ]
      refine ors_step (by kernel_rfl) (fun K hK => ?_)
      go_wp2_with fail
      refine Calls.mono (HRX.out w14 (HD.out.trans (HE14.out.mono HD.out.size))) ?_
      rintro e w15 ⟨⟨vr, R1, rfl, ⟨q15, c15, rfl, hc15, _, hs15⟩, hl15, hk15⟩, hb⟩
      have HE15 : Hid (Below wd.heap.size wd w15) := Lib.hid (HE14.out.trans (hb.mono HE14.out.size))
      have HS15 := Lib.hid hs15
      have HL15 := Lib.hid hl15.lnb
      have HK15 := Lib.hid hk15
      clear hb hc15 hs15 hl15 hk15 HE14
      refine hK _ _ ⟨HE15.out, ?_⟩
      clear hK
      try simp only [Act.put, List.setIfInBounds_toArray, List.set_cons_zero, List.set_cons_succ]
      refine ors_step (by kernel_rfl) (fun K hK => ?_)
      go_wp2_with fail
      refine Calls.mono (HRY.out w15 (HD.out.trans (HE15.out.mono HD.out.size))) ?_
      rintro e w16 ⟨⟨vr, R2, rfl, ⟨q16, c16, rfl, hc16, _, hs16⟩, hl16, hk16⟩, hb⟩
      have HE16 : Hid (Below wd.heap.size wd w16) := Lib.hid (HE15.out.trans (hb.mono HE15.out.size))
      have hlr : R1.length = X.length := by have := congrArg List.length HK15.out; simpa using this
      have HSR := Lib.hid (sameR_any R1 R2 q15 q16 c15 c16 w16 (by have := HSMX.out.1; omega) (fun l hl => by
        have h1 : keyL l ∈ X.map keyL := by rw [← HK15.out]; exact List.mem_map_of_mem hl
        obtain ⟨m, hm, he'⟩ := List.mem_map.1 h1
        have h2 : m.2.2.2.2 = l.2.2.2.2 := congrArg (fun z : Lk => z.2.2.2) he'
        rw [← h2]; have := (HSMX.out.2 m hm).2; omega) ((HS15.out.keep hb).more hb.size) hs16 (HL15.out.keep hb) hl16.lnb true (by rw [HK15.out, hk16]; first | exact HSS.out | simpa using HSS.out))
      clear hb hc16 hs16 hl16 hk16 HE15 HS15 HL15 HK15 hlr
      refine hK _ _ ⟨HE16.out, ?_⟩
      clear hK
      try simp only [Act.put, List.setIfInBounds_toArray, List.set_cons_zero, List.set_cons_succ]
      refine ors_step (by kernel_rfl) (fun K hK => ?_)
      go_wp2_with fail
      refine Calls.mono (HSR.out) ?_
      rintro e w17 ⟨rfl, hb⟩
      have HE17 : Hid (Below wd.heap.size wd w17) := Lib.hid (HE16.out.trans (hb.mono HE16.out.size))
      clear hb HSR HE16
      refine hK _ _ ⟨HE17.out, ?_⟩
      clear hK
      try simp only [Act.put, List.setIfInBounds_toArray, List.set_cons_zero, List.set_cons_succ]
      refine ors_pure (v := ?_) (by kernel_rfl) ?_ ?_
      rotate_left
      · intro w' hv; clear hv; go_simp; try with_reducible rfl
      try simp only [Act.put, List.setIfInBounds_toArray, List.set_cons_zero, List.set_cons_succ]
      refine ors_pure (v := ?_) (by kernel_rfl) ?_ ?_
      rotate_left
      · intro w' hv; clear hv; go_simp; try with_reducible rfl
      try simp only [Act.put, List.setIfInBounds_toArray, List.set_cons_zero, List.set_cons_succ]
      refine ors_pure (v := ?_) (by kernel_rfl) ?_ ?_
      rotate_left
      · intro w' hv; clear hv; go_simp; try with_reducible rfl
      try simp only [Act.put, List.setIfInBounds_toArray, List.set_cons_zero, List.set_cons_succ]
      refine ors_nil ?_
      go_wp2_with fail
      go_ret
      exact ⟨rfl, HBD.out.trans (HE17.out.mono HBD.out.size)⟩
    | false =>
      by_cases he : shaU PX = shaU PY
      · skip
        refine wp_region_ors (fun w' => Below w9.drew.heap.size w9.drew w') [(0, true), (2, true), (1, false), (3, false), (4, false), (5, true), (6, true), (7, true), (8, true), (9, true), (10, true), (12, true), (11, false), (13, false), (14, true), (15, true), (16, true), (17, true), (18, true), (19, true), (20, true), (21, true), (23, true), (26, true), (22, false), (24, false), (25, false), (27, true), (28, true), (29, true)] (by kernel_rfl) (by kernel_rfl) (by kernel_rfl) (Below.refl _ _) ?_
        have HBD := Lib.hid HB9.out.drew
        have HD : Hid (Below w3.heap.size w3 w9.drew) := Lib.hid HD9.out.drew
        have HXAD : Hid (Has w9.drew g 28 [.slice qa A.length ca]) := Lib.hid HXA9.out.drew
        have HXBD : Hid (Has w9.drew (g + 1) 28 [.slice qb B.length cb]) := Lib.hid HXB9.out.drew
        clear HB9 HXA9 HXB9 HD9
        generalize w9.drew = wd at *
        simp only [pickOrs, List.getElem?_cons_zero, List.getElem?_cons_succ]
        refine ors_pure (by kernel_rfl) (fun w' hv => load_tr (.tmp 5) rfl g rfl (.slice qa A.length ca) (HXAD.out.keepB hv)) ?_
        try simp only [Act.put, List.setIfInBounds_toArray, List.set_cons_zero, List.set_cons_succ]
        refine ors_pure (by kernel_rfl) (fun w' hv => load_tr (.tmp 6) rfl (g + 1) rfl (.slice qb B.length cb) (HXBD.out.keepB hv)) ?_
        try simp only [Act.put, List.setIfInBounds_toArray, List.set_cons_zero, List.set_cons_succ]
        refine ors_step (by kernel_rfl) (fun K hK => ?_)
        go_wp2_with fail
        refine Calls.mono (HCA.out h40a wd HBD.out) ?_
        rintro e w10 ⟨⟨vc, rfl, ⟨q10, c10, rfl, hc10, _, hs10⟩⟩, hb⟩
        have HE10 : Hid (Below wd.heap.size wd w10) := Lib.hid hb
        have HC10 := Lib.hid hc10
        have HS10 := Lib.hid hs10
        refine hK _ _ ⟨hb, ?_⟩
        clear hK
        try simp only [Act.put, List.setIfInBounds_toArray, List.set_cons_zero, List.set_cons_succ]
        clear hb hc10 hs10
        refine ors_step (by kernel_rfl) (fun K hK => ?_)
        go_wp2_with fail
        refine Calls.mono (HCB.out h40b w10 (HBD.out.trans (HE10.out.mono HBD.out.size))) ?_
        rintro e w11 ⟨⟨vc, rfl, ⟨q11, c11, rfl, hc11, _, hs11⟩⟩, hb⟩
        have HE11 : Hid (Below wd.heap.size wd w11) := Lib.hid (HE10.out.trans (hb.mono HE10.out.size))
        have HSQ := Lib.hid (HSAM.out q10 q11 c10 c11 w11 (HBD.out.trans (HE11.out.mono HBD.out.size)) HC10.out hc11 ((HS10.out.keep hb).more hb.size) hs11)
        clear hb hc11 hs11 HE10 HC10 HS10
        refine hK _ _ ⟨HE11.out, ?_⟩
        clear hK
        try simp only [Act.put, List.setIfInBounds_toArray, List.set_cons_zero, List.set_cons_succ]
        refine ors_step (by kernel_rfl) (fun K hK => ?_)
        go_wp2_with fail
        refine Calls.mono (HSQ.out) ?_
        rintro e w12 ⟨rfl, hb⟩
        have HE12 : Hid (Below wd.heap.size wd w12) := Lib.hid (HE11.out.trans (hb.mono HE11.out.size))
        clear hb HSQ HE11
        refine hK _ _ ⟨HE12.out, ?_⟩
        clear hK
        try simp only [Act.put, List.setIfInBounds_toArray, List.set_cons_zero, List.set_cons_succ]
        refine ors_pure (v := ?_) (by kernel_rfl) ?_ ?_
        rotate_left
        · intro w' hv; clear hv; go_simp; try with_reducible rfl
        try simp only [Act.put, List.setIfInBounds_toArray, List.set_cons_zero, List.set_cons_succ]
        refine ors_pure (v := ?_) (by kernel_rfl) ?_ ?_
        rotate_left
        · intro w' hv; clear hv; go_simp; try with_reducible rfl
        try simp only [Act.put, List.setIfInBounds_toArray, List.set_cons_zero, List.set_cons_succ]
        refine ors_skip (by kernel_rfl) ?_
        try simp only [Act.put, List.setIfInBounds_toArray, List.set_cons_zero, List.set_cons_succ]
        refine ors_pure (v := ?_) (by kernel_rfl) ?_ ?_
        rotate_left
        · intro w' hv; clear hv; go_simp; try with_reducible rfl
        try simp only [Act.put, List.setIfInBounds_toArray, List.set_cons_zero, List.set_cons_succ]
        refine ors_pure (v := ?_) (by kernel_rfl) ?_ ?_
        rotate_left
        · intro w' hv; clear hv; go_simp; try with_reducible rfl
        try simp only [Act.put, List.setIfInBounds_toArray, List.set_cons_zero, List.set_cons_succ]
        refine ors_pure (v := ?_) (by kernel_rfl) ?_ ?_
        rotate_left
        · intro w' hv; clear hv; go_simp; try with_reducible rfl
        try simp only [Act.put, List.setIfInBounds_toArray, List.set_cons_zero, List.set_cons_succ]
        refine ors_pure (v := ?_) (by kernel_rfl) ?_ ?_
        rotate_left
        · intro w' hv; clear hv; go_simp; try with_reducible rfl
        try simp only [Act.put, List.setIfInBounds_toArray, List.set_cons_zero, List.set_cons_succ]
        refine ors_step (by kernel_rfl) (fun K hK => ?_)
        go_wp2_with fail
        refine Calls.mono (HTX.out w12 (HD.out.trans (HE12.out.mono HD.out.size))) ?_
        rintro e w13 ⟨rfl, hb⟩
        have HE13 : Hid (Below wd.heap.size wd w13) := Lib.hid (HE12.out.trans (hb.mono HE12.out.size))
        clear hb HE12
        refine hK _ _ ⟨HE13.out, ?_⟩
        clear hK
        try simp only [Act.put, List.setIfInBounds_toArray, List.set_cons_zero, List.set_cons_succ]
        refine ors_step (by kernel_rfl) (fun K hK => ?_)
        go_wp2_with fail
        refine Calls.mono (HTY.out w13 (HD.out.trans (HE13.out.mono HD.out.size))) ?_
        rintro e w14 ⟨rfl, hb⟩
        have HE14 : Hid (Below wd.heap.size wd w14) := Lib.hid (HE13.out.trans (hb.mono HE13.out.size))
        clear hb HE13
        refine hK _ _ ⟨HE14.out, ?_⟩
        clear hK
        try simp only [Act.put, List.setIfInBounds_toArray, List.set_cons_zero, List.set_cons_succ]
        refine ors_pure (by kernel_rfl) (fun w' hv => eql_su 31 (.tmp 64) (.tmp 66) _ rfl (shaU PX) (shaU PY) rfl rfl elSum.2.1 gdSumZ) ?_
        try simp only [Act.put, List.setIfInBounds_toArray, List.set_cons_zero, List.set_cons_succ]
        rw [decide_eq_true he]
        refine ors_pure (v := ?_) (by kernel_rfl) ?_ ?_
        rotate_left
        · intro w' hv; clear hv; go_simp; try with_reducible rfl
        try simp only [Act.put, List.setIfInBounds_toArray, List.set_cons_zero, List.set_cons_succ]
        refine ors_skip (by kernel_rfl) ?_
        try simp only [Act.put, List.setIfInBounds_toArray, List.set_cons_zero, List.set_cons_succ]
        refine ors_skip (by kernel_rfl) ?_
        try simp only [Act.put, List.setIfInBounds_toArray, List.set_cons_zero, List.set_cons_succ]
        refine ors_pure (v := ?_) (by kernel_rfl) ?_ ?_
        rotate_left
        · intro w' hv; clear hv; go_simp; try with_reducible rfl
        try simp only [Act.put, List.setIfInBounds_toArray, List.set_cons_zero, List.set_cons_succ]
        refine ors_pure (v := ?_) (by kernel_rfl) ?_ ?_
        rotate_left
        · intro w' hv; clear hv; go_simp; try with_reducible rfl
        try simp only [Act.put, List.setIfInBounds_toArray, List.set_cons_zero, List.set_cons_succ]
        refine ors_pure (v := ?_) (by kernel_rfl) ?_ ?_
        rotate_left
        · intro w' hv; clear hv; go_simp; try with_reducible rfl
        try simp only [Act.put, List.setIfInBounds_toArray, List.set_cons_zero, List.set_cons_succ]
        refine ors_pure (v := ?_) (by kernel_rfl) ?_ ?_
        rotate_left
        · intro w' hv; clear hv; go_simp; try with_reducible rfl
        try simp only [Act.put, List.setIfInBounds_toArray, List.set_cons_zero, List.set_cons_succ]
        refine ors_pure (v := ?_) (by kernel_rfl) ?_ ?_
        rotate_left
        · intro w' hv; clear hv; go_simp; try with_reducible rfl
        try simp only [Act.put, List.setIfInBounds_toArray, List.set_cons_zero, List.set_cons_succ]
        refine ors_pure (v := ?_) (by kernel_rfl) ?_ ?_
        rotate_left
        · intro w' hv; clear hv; go_simp; try with_reducible rfl
        try simp only [Act.put, List.setIfInBounds_toArray, List.set_cons_zero, List.set_cons_succ]
        refine ors_step (by kernel_rfl) (fun K hK => ?_)
        go_wp2_with fail
        refine Calls.mono (HRX.out w14 (HD.out.trans (HE14.out.mono HD.out.size))) ?_
        rintro e w15 ⟨⟨vr, R1, rfl, ⟨q15, c15, rfl, hc15, _, hs15⟩, hl15, hk15⟩, hb⟩
        have HE15 : Hid (Below wd.heap.size wd w15) := Lib.hid (HE14.out.trans (hb.mono HE14.out.size))
        have HS15 := Lib.hid hs15
        have HL15 := Lib.hid hl15.lnb
        have HK15 := Lib.hid hk15
        clear hb hc15 hs15 hl15 hk15 HE14
        refine hK _ _ ⟨HE15.out, ?_⟩
        clear hK
        try simp only [Act.put, List.setIfInBounds_toArray, List.set_cons_zero, List.set_cons_succ]
        refine ors_step (by kernel_rfl) (fun K hK => ?_)
        go_wp2_with fail
        refine Calls.mono (HRY.out w15 (HD.out.trans (HE15.out.mono HD.out.size))) ?_
        rintro e w16 ⟨⟨vr, R2, rfl, ⟨q16, c16, rfl, hc16, _, hs16⟩, hl16, hk16⟩, hb⟩
        have HE16 : Hid (Below wd.heap.size wd w16) := Lib.hid (HE15.out.trans (hb.mono HE15.out.size))
        have hlr : R1.length = X.length := by have := congrArg List.length HK15.out; simpa using this
        have HSR := Lib.hid (sameR_any R1 R2 q15 q16 c15 c16 w16 (by have := HSMX.out.1; omega) (fun l hl => by
          have h1 : keyL l ∈ X.map keyL := by rw [← HK15.out]; exact List.mem_map_of_mem hl
          obtain ⟨m, hm, he'⟩ := List.mem_map.1 h1
          have h2 : m.2.2.2.2 = l.2.2.2.2 := congrArg (fun z : Lk => z.2.2.2) he'
          rw [← h2]; have := (HSMX.out.2 m hm).2; omega) ((HS15.out.keep hb).more hb.size) hs16 (HL15.out.keep hb) hl16.lnb false (by rw [HK15.out, hk16]; first | exact HSS.out | simpa using HSS.out))
        clear hb hc16 hs16 hl16 hk16 HE15 HS15 HL15 HK15 hlr
        refine hK _ _ ⟨HE16.out, ?_⟩
        clear hK
        try simp only [Act.put, List.setIfInBounds_toArray, List.set_cons_zero, List.set_cons_succ]
        refine ors_step (by kernel_rfl) (fun K hK => ?_)
        go_wp2_with fail
        refine Calls.mono (HSR.out) ?_
        rintro e w17 ⟨rfl, hb⟩
        have HE17 : Hid (Below wd.heap.size wd w17) := Lib.hid (HE16.out.trans (hb.mono HE16.out.size))
        clear hb HSR HE16
        refine hK _ _ ⟨HE17.out, ?_⟩
        clear hK
        try simp only [Act.put, List.setIfInBounds_toArray, List.set_cons_zero, List.set_cons_succ]
        refine ors_pure (v := ?_) (by kernel_rfl) ?_ ?_
        rotate_left
        · intro w' hv; clear hv; go_simp; try with_reducible rfl
        try simp only [Act.put, List.setIfInBounds_toArray, List.set_cons_zero, List.set_cons_succ]
        refine ors_pure (v := ?_) (by kernel_rfl) ?_ ?_
        rotate_left
        · intro w' hv; clear hv; go_simp; try with_reducible rfl
        try simp only [Act.put, List.setIfInBounds_toArray, List.set_cons_zero, List.set_cons_succ]
        refine ors_pure (v := ?_) (by kernel_rfl) ?_ ?_
        rotate_left
        · intro w' hv; clear hv; go_simp; try with_reducible rfl
        try simp only [Act.put, List.setIfInBounds_toArray, List.set_cons_zero, List.set_cons_succ]
        refine ors_nil ?_
        go_wp2_with fail
        go_ret
        exact ⟨rfl, HBD.out.trans (HE17.out.mono HBD.out.size)⟩
      · skip
        refine wp_region_ors (fun w' => Below w9.drew.heap.size w9.drew w') [(0, true), (2, true), (1, false), (3, false), (4, false), (5, true), (6, true), (7, true), (8, true), (9, true), (10, true), (12, true), (11, false), (13, false), (14, true), (15, true), (16, true), (17, true), (18, true), (19, true), (20, true), (21, true), (23, true), (26, true), (22, false), (24, false), (25, false), (27, true), (28, true), (29, true)] (by kernel_rfl) (by kernel_rfl) (by kernel_rfl) (Below.refl _ _) ?_
        have HBD := Lib.hid HB9.out.drew
        have HD : Hid (Below w3.heap.size w3 w9.drew) := Lib.hid HD9.out.drew
        have HXAD : Hid (Has w9.drew g 28 [.slice qa A.length ca]) := Lib.hid HXA9.out.drew
        have HXBD : Hid (Has w9.drew (g + 1) 28 [.slice qb B.length cb]) := Lib.hid HXB9.out.drew
        clear HB9 HXA9 HXB9 HD9
        generalize w9.drew = wd at *
        simp only [pickOrs, List.getElem?_cons_zero, List.getElem?_cons_succ]
        refine ors_pure (by kernel_rfl) (fun w' hv => load_tr (.tmp 5) rfl g rfl (.slice qa A.length ca) (HXAD.out.keepB hv)) ?_
        try simp only [Act.put, List.setIfInBounds_toArray, List.set_cons_zero, List.set_cons_succ]
        refine ors_pure (by kernel_rfl) (fun w' hv => load_tr (.tmp 6) rfl (g + 1) rfl (.slice qb B.length cb) (HXBD.out.keepB hv)) ?_
        try simp only [Act.put, List.setIfInBounds_toArray, List.set_cons_zero, List.set_cons_succ]
        refine ors_step (by kernel_rfl) (fun K hK => ?_)
        go_wp2_with fail
        refine Calls.mono (HCA.out h40a wd HBD.out) ?_
        rintro e w10 ⟨⟨vc, rfl, ⟨q10, c10, rfl, hc10, _, hs10⟩⟩, hb⟩
        have HE10 : Hid (Below wd.heap.size wd w10) := Lib.hid hb
        have HC10 := Lib.hid hc10
        have HS10 := Lib.hid hs10
        refine hK _ _ ⟨hb, ?_⟩
        clear hK
        try simp only [Act.put, List.setIfInBounds_toArray, List.set_cons_zero, List.set_cons_succ]
        clear hb hc10 hs10
        refine ors_step (by kernel_rfl) (fun K hK => ?_)
        go_wp2_with fail
        refine Calls.mono (HCB.out h40b w10 (HBD.out.trans (HE10.out.mono HBD.out.size))) ?_
        rintro e w11 ⟨⟨vc, rfl, ⟨q11, c11, rfl, hc11, _, hs11⟩⟩, hb⟩
        have HE11 : Hid (Below wd.heap.size wd w11) := Lib.hid (HE10.out.trans (hb.mono HE10.out.size))
        have HSQ := Lib.hid (HSAM.out q10 q11 c10 c11 w11 (HBD.out.trans (HE11.out.mono HBD.out.size)) HC10.out hc11 ((HS10.out.keep hb).more hb.size) hs11)
        clear hb hc11 hs11 HE10 HC10 HS10
        refine hK _ _ ⟨HE11.out, ?_⟩
        clear hK
        try simp only [Act.put, List.setIfInBounds_toArray, List.set_cons_zero, List.set_cons_succ]
        refine ors_step (by kernel_rfl) (fun K hK => ?_)
        go_wp2_with fail
        refine Calls.mono (HSQ.out) ?_
        rintro e w12 ⟨rfl, hb⟩
        have HE12 : Hid (Below wd.heap.size wd w12) := Lib.hid (HE11.out.trans (hb.mono HE11.out.size))
        clear hb HSQ HE11
        refine hK _ _ ⟨HE12.out, ?_⟩
        clear hK
        try simp only [Act.put, List.setIfInBounds_toArray, List.set_cons_zero, List.set_cons_succ]
        refine ors_pure (v := ?_) (by kernel_rfl) ?_ ?_
        rotate_left
        · intro w' hv; clear hv; go_simp; try with_reducible rfl
        try simp only [Act.put, List.setIfInBounds_toArray, List.set_cons_zero, List.set_cons_succ]
        refine ors_pure (v := ?_) (by kernel_rfl) ?_ ?_
        rotate_left
        · intro w' hv; clear hv; go_simp; try with_reducible rfl
        try simp only [Act.put, List.setIfInBounds_toArray, List.set_cons_zero, List.set_cons_succ]
        refine ors_skip (by kernel_rfl) ?_
        try simp only [Act.put, List.setIfInBounds_toArray, List.set_cons_zero, List.set_cons_succ]
        refine ors_pure (v := ?_) (by kernel_rfl) ?_ ?_
        rotate_left
        · intro w' hv; clear hv; go_simp; try with_reducible rfl
        try simp only [Act.put, List.setIfInBounds_toArray, List.set_cons_zero, List.set_cons_succ]
        refine ors_pure (v := ?_) (by kernel_rfl) ?_ ?_
        rotate_left
        · intro w' hv; clear hv; go_simp; try with_reducible rfl
        try simp only [Act.put, List.setIfInBounds_toArray, List.set_cons_zero, List.set_cons_succ]
        refine ors_pure (v := ?_) (by kernel_rfl) ?_ ?_
        rotate_left
        · intro w' hv; clear hv; go_simp; try with_reducible rfl
        try simp only [Act.put, List.setIfInBounds_toArray, List.set_cons_zero, List.set_cons_succ]
        refine ors_pure (v := ?_) (by kernel_rfl) ?_ ?_
        rotate_left
        · intro w' hv; clear hv; go_simp; try with_reducible rfl
        try simp only [Act.put, List.setIfInBounds_toArray, List.set_cons_zero, List.set_cons_succ]
        refine ors_step (by kernel_rfl) (fun K hK => ?_)
        go_wp2_with fail
        refine Calls.mono (HTX.out w12 (HD.out.trans (HE12.out.mono HD.out.size))) ?_
        rintro e w13 ⟨rfl, hb⟩
        have HE13 : Hid (Below wd.heap.size wd w13) := Lib.hid (HE12.out.trans (hb.mono HE12.out.size))
        clear hb HE12
        refine hK _ _ ⟨HE13.out, ?_⟩
        clear hK
        try simp only [Act.put, List.setIfInBounds_toArray, List.set_cons_zero, List.set_cons_succ]
        refine ors_step (by kernel_rfl) (fun K hK => ?_)
        go_wp2_with fail
        refine Calls.mono (HTY.out w13 (HD.out.trans (HE13.out.mono HD.out.size))) ?_
        rintro e w14 ⟨rfl, hb⟩
        have HE14 : Hid (Below wd.heap.size wd w14) := Lib.hid (HE13.out.trans (hb.mono HE13.out.size))
        clear hb HE13
        refine hK _ _ ⟨HE14.out, ?_⟩
        clear hK
        try simp only [Act.put, List.setIfInBounds_toArray, List.set_cons_zero, List.set_cons_succ]
        refine ors_pure (by kernel_rfl) (fun w' hv => eql_su 31 (.tmp 64) (.tmp 66) _ rfl (shaU PX) (shaU PY) rfl rfl elSum.2.1 gdSumZ) ?_
        try simp only [Act.put, List.setIfInBounds_toArray, List.set_cons_zero, List.set_cons_succ]
        rw [decide_eq_false he]
        refine ors_pure (v := ?_) (by kernel_rfl) ?_ ?_
        rotate_left
        · intro w' hv; clear hv; go_simp; try with_reducible rfl
        try simp only [Act.put, List.setIfInBounds_toArray, List.set_cons_zero, List.set_cons_succ]
        refine ors_pure (v := ?_) (by kernel_rfl) ?_ ?_
        rotate_left
        · intro w' hv; clear hv; go_simp; try with_reducible rfl
        try simp only [Act.put, List.setIfInBounds_toArray, List.set_cons_zero, List.set_cons_succ]
        refine ors_pure (v := ?_) (by kernel_rfl) ?_ ?_
        rotate_left
        · intro w' hv; clear hv; go_simp; try with_reducible rfl
        try simp only [Act.put, List.setIfInBounds_toArray, List.set_cons_zero, List.set_cons_succ]
        refine ors_pure (v := ?_) (by kernel_rfl) ?_ ?_
        rotate_left
        · intro w' hv; clear hv; go_simp; try with_reducible rfl
        try simp only [Act.put, List.setIfInBounds_toArray, List.set_cons_zero, List.set_cons_succ]
        refine ors_pure (v := ?_) (by kernel_rfl) ?_ ?_
        rotate_left
        · intro w' hv; clear hv; go_simp; try with_reducible rfl
        try simp only [Act.put, List.setIfInBounds_toArray, List.set_cons_zero, List.set_cons_succ]
        refine ors_pure (v := ?_) (by kernel_rfl) ?_ ?_
        rotate_left
        · intro w' hv; clear hv; go_simp; try with_reducible rfl
        try simp only [Act.put, List.setIfInBounds_toArray, List.set_cons_zero, List.set_cons_succ]
        refine ors_pure (v := ?_) (by kernel_rfl) ?_ ?_
        rotate_left
        · intro w' hv; clear hv; go_simp; try with_reducible rfl
        try simp only [Act.put, List.setIfInBounds_toArray, List.set_cons_zero, List.set_cons_succ]
        refine ors_pure (v := ?_) (by kernel_rfl) ?_ ?_
        rotate_left
        · intro w' hv; clear hv; go_simp; try with_reducible rfl
        try simp only [Act.put, List.setIfInBounds_toArray, List.set_cons_zero, List.set_cons_succ]
        refine ors_pure (v := ?_) (by kernel_rfl) ?_ ?_
        rotate_left
        · intro w' hv; clear hv; go_simp; try with_reducible rfl
        try simp only [Act.put, List.setIfInBounds_toArray, List.set_cons_zero, List.set_cons_succ]
        refine ors_step (by kernel_rfl) (fun K hK => ?_)
        go_wp2_with fail
        refine Calls.mono (HRX.out w14 (HD.out.trans (HE14.out.mono HD.out.size))) ?_
        rintro e w15 ⟨⟨vr, R1, rfl, ⟨q15, c15, rfl, hc15, _, hs15⟩, hl15, hk15⟩, hb⟩
        have HE15 : Hid (Below wd.heap.size wd w15) := Lib.hid (HE14.out.trans (hb.mono HE14.out.size))
        have HS15 := Lib.hid hs15
        have HL15 := Lib.hid hl15.lnb
        have HK15 := Lib.hid hk15
        clear hb hc15 hs15 hl15 hk15 HE14
        refine hK _ _ ⟨HE15.out, ?_⟩
        clear hK
        try simp only [Act.put, List.setIfInBounds_toArray, List.set_cons_zero, List.set_cons_succ]
        refine ors_step (by kernel_rfl) (fun K hK => ?_)
        go_wp2_with fail
        refine Calls.mono (HRY.out w15 (HD.out.trans (HE15.out.mono HD.out.size))) ?_
        rintro e w16 ⟨⟨vr, R2, rfl, ⟨q16, c16, rfl, hc16, _, hs16⟩, hl16, hk16⟩, hb⟩
        have HE16 : Hid (Below wd.heap.size wd w16) := Lib.hid (HE15.out.trans (hb.mono HE15.out.size))
        have hlr : R1.length = X.length := by have := congrArg List.length HK15.out; simpa using this
        have HSR := Lib.hid (sameR_any R1 R2 q15 q16 c15 c16 w16 (by have := HSMX.out.1; omega) (fun l hl => by
          have h1 : keyL l ∈ X.map keyL := by rw [← HK15.out]; exact List.mem_map_of_mem hl
          obtain ⟨m, hm, he'⟩ := List.mem_map.1 h1
          have h2 : m.2.2.2.2 = l.2.2.2.2 := congrArg (fun z : Lk => z.2.2.2) he'
          rw [← h2]; have := (HSMX.out.2 m hm).2; omega) ((HS15.out.keep hb).more hb.size) hs16 (HL15.out.keep hb) hl16.lnb false (by rw [HK15.out, hk16]; first | exact HSS.out | simpa using HSS.out))
        clear hb hc16 hs16 hl16 hk16 HE15 HS15 HL15 HK15 hlr
        refine hK _ _ ⟨HE16.out, ?_⟩
        clear hK
        try simp only [Act.put, List.setIfInBounds_toArray, List.set_cons_zero, List.set_cons_succ]
        refine ors_step (by kernel_rfl) (fun K hK => ?_)
        go_wp2_with fail
        refine Calls.mono (HSR.out) ?_
        rintro e w17 ⟨rfl, hb⟩
        have HE17 : Hid (Below wd.heap.size wd w17) := Lib.hid (HE16.out.trans (hb.mono HE16.out.size))
        clear hb HSR HE16
        refine hK _ _ ⟨HE17.out, ?_⟩
        clear hK
        try simp only [Act.put, List.setIfInBounds_toArray, List.set_cons_zero, List.set_cons_succ]
        refine ors_pure (v := ?_) (by kernel_rfl) ?_ ?_
        rotate_left
        · intro w' hv; clear hv; go_simp; try with_reducible rfl
        try simp only [Act.put, List.setIfInBounds_toArray, List.set_cons_zero, List.set_cons_succ]
        refine ors_pure (v := ?_) (by kernel_rfl) ?_ ?_
        rotate_left
        · intro w' hv; clear hv; go_simp; try with_reducible rfl
        try simp only [Act.put, List.setIfInBounds_toArray, List.set_cons_zero, List.set_cons_succ]
        refine ors_pure (v := ?_) (by kernel_rfl) ?_ ?_
        rotate_left
        · intro w' hv; clear hv; go_simp; try with_reducible rfl
        try simp only [Act.put, List.setIfInBounds_toArray, List.set_cons_zero, List.set_cons_succ]
        refine ors_nil ?_
        go_wp2_with fail
        go_ret
        exact ⟨rfl, HBD.out.trans (HE17.out.mono HBD.out.size)⟩
end Go.Proofs.YtmjonlffhhehjaaGreatDoor
/- What the rows' condition on the four listed variables gives the walks; that a start meets it. -/
namespace Go.Proofs.YtmjonlffhhehjaaGreatDoor
open Go.ChangeShapes Go.WideShapes Go.ChangeAt Go.RowKit
theorem own : ownKnob Tryz.prog.godebug = none := by kernel_rfl
theorem gFirst : Tryz.prog.globalNamed "tallyman/sum.first" = some 0 := by kernel_rfl
theorem gRounds : Tryz.prog.globalNamed "tallyman/sum.rounds" = some 1 := by kernel_rfl
theorem tFirst : (Tryz.prog.globals[0]?).map (·.type) = some 106 := by kernel_rfl
theorem tRounds : (Tryz.prog.globals[1]?).map (·.type) = some 167 := by kernel_rfl
def laidVars : List (String × DataW Unit) := [("unicode/utf8.acceptRanges", Rows.laid_unicode_utf8_acceptRanges), ("tallyman/sum.first", Rows.laid_tallyman_sum_first), ("tallyman/sum.rounds", Rows.laid_tallyman_sum_rounds), ("unicode/utf8.first", Rows.laid_unicode_utf8_first)]
/-- Those of them that package sum reads. -/
def sumVars : List (String × DataW Unit) := [("tallyman/sum.first", Rows.laid_tallyman_sum_first), ("tallyman/sum.rounds", Rows.laid_tallyman_sum_rounds)]
def firstInts : List Int := start.list.map N
def roundInts : List Int := keys.map N
theorem laidVars_eq : sumVars = [("tallyman/sum.first", Lib.tabData .u32 firstInts), ("tallyman/sum.rounds", Lib.tabData .u32 roundInts)] := by kernel_rfl
theorem of_laid {W : World} (h0 : laidMetH Tryz.prog laidVars W) : Laid W := by
  rw [MakeChecks.laidMetH_plain _ _ _ (by kernel_rfl)] at h0
  have h : laidMet Tryz.prog (sumVars ++ [("unicode/utf8.first", Rows.laid_unicode_utf8_first)]) W := h0.tail
  rw [laidVars_eq] at h
  have h1 := Lib.tabIs_of_head gFirst tFirst Tryz.underlying106 Tryz.underlying105 (by kernel_rfl) (by kernel_rfl) h
  have h2 := Lib.tabIs_of_head gRounds tRounds Tryz.underlying167 Tryz.underlying105 (by kernel_rfl) (by kernel_rfl) h.tail
  have hlt : ∀ (g : Nat) v, W.cell? ⟨g, 0, none⟩ = some v → g < W.heap.size := by
    intro g v hv
    rcases Nat.lt_or_ge g W.heap.size with h | h
    · exact h
    · unfold World.cell? at hv
      rw [Array.getElem?_eq_none h] at hv
      cases hv
  refine ⟨⟨hlt _ _ (h2.cell gRounds 0 (by decide)), fun i hi => ?_⟩, hlt _ _ (h1.cell gFirst 0 (by decide)), fun i v hv => ?_⟩
  · have := h2.cell gRounds i (by simpa [roundInts, keys_length] using hi)
    rw [this]
    simp [roundInts, at32, List.getD_eq_getElem?_getD, List.getElem?_map, List.getElem?_eq_getElem (show i < keys.length by rw [keys_length]; exact hi)]
  · have hi : i < 8 := by have := (List.getElem?_eq_some_iff.1 hv).1; simpa [St.vals, St.list] using this
    have := h1.cell gFirst i (by simpa [firstInts, St.list] using hi)
    rw [this, ← hv, firstInts, St.vals, List.getElem?_map]
    have hl : i < start.list.length := hi
    simp [u32v, List.getD_eq_getElem?_getD, List.getElem?_map, List.getElem?_eq_getElem hl]
/-- A start that lays them meets the condition: closed facts. -/
theorem laid_met (os : Os) (args : Array Value) : laidMetH Tryz.prog laidVars ((World.laidAll Tryz.prog os laidVars).forCall (fun _ _ => 0) ⟨#[], args, []⟩).memory := by
  rw [MakeChecks.laidMetH_plain _ _ _ (by kernel_rfl)]
  exact laidMet_laidAll _ (by kernel_rfl) (by kernel_rfl)
end Go.Proofs.YtmjonlffhhehjaaGreatDoor
/- What stands under the openers of sums, at a seat with package sum's variables laid. No condition. -/
namespace Go.Proofs.YtmjonlffhhehjaaGreatDoor
open Go.ChangeShapes Go.WideShapes Go.ChangeAt Go.RowKit
theorem laidOut : laidOutB Tryz.prog = true := by kernel_rfl
def byteOf : Value → BitVec 8
  | .int _ n => BitVec.ofInt 8 n
  | _ => 0
theorem u8v_byteOf (n : Int) (h : (Lit.int .u8 n).wf = true) : u8v (byteOf (.int .u8 n)) = .int .u8 n := by
  have hb : 0 ≤ n ∧ n ≤ 255 := bounds_u8 h
  obtain ⟨m, rfl⟩ := Int.eq_ofNat_of_zero_le hb.1
  show Value.int .u8 (B (BitVec.ofInt 8 (m : Int))) = _
  rw [BitVec.ofInt_natCast, ← B_ofNat m (by omega)]
end Go.Proofs.YtmjonlffhhehjaaGreatDoor
/- A slice of bytes that came in. No condition. -/
namespace Go.Proofs.YtmjonlffhhehjaaGreatDoor
open Go.ChangeShapes Go.WideShapes Go.ChangeAt Go.RowKit
theorem cell_lt {w : World} {a : Addr} {v : Value} (h : w.cell? a = some v) : a.block < w.heap.size := by
  rcases Nat.lt_or_ge a.block w.heap.size with hl | hl
  · exact hl
  · unfold World.cell? at h
    rw [Array.getElem?_eq_none hl] at h
    cases h
set_option maxRecDepth 100000 in
theorem open_bytes {H : Type} {enc : TypeId × Value → H} {w : World} {base b0 : Nat} {held : Bool} {r : Reach} {v : Value} {d : DataW H} {ps : List MemPlace}
    (hval : Value.okWide Tryz.prog w r b0 40 v) (h : DataW.Trod enc Tryz.prog w base (fun _ => true) held 40 v d ps) :
    ∃ (b : List (BitVec 8)) (q : Option Addr) (c : Nat), v = .slice q b.length c ∧ b.length ≤ c ∧ (q = none → c = 0) ∧ b.length ≤ maxLen ∧ Sees w w.heap.size q (b.map u8v) := by
  obtain ⟨a0, len0, cap0, rfl⟩ := okWide_slice Tryz.underlying40 hval
  obtain ⟨fuel, hf⟩ := h
  rcases open_ints Tryz.underlying40 Tryz.underlying5 (by kernel_rfl) hf with ⟨hcs, _⟩ | ⟨x, l, c, zs, hcs, _, hl, hm, hz, _, hcell, hwz⟩
  · simp [Value.cells] at hcs
    obtain ⟨rfl, rfl, rfl⟩ := hcs
    exact ⟨[], none, 0, rfl, Nat.le_refl _, fun _ => rfl, by simp, Sees.nil _ _ _⟩
  · simp [Value.cells] at hcs
    obtain ⟨rfl, rfl, rfl⟩ := hcs
    have hz' : zs.length = cap0 := by simpa using hz
    refine ⟨(zs.take len0).map fun n => byteOf (.int .u8 n), some x, cap0, by simp; omega, by simp; omega, fun h => (by cases h), by simp; omega, fun h0 => ?_⟩
    have hp : 0 < zs.length := by simp at h0; omega
    refine ⟨x, rfl, by have := cell_lt (hcell 0 hp); rwa [add_block] at this, fun j u hu => ?_⟩
    have hj : j < len0 := by have := (List.getElem?_eq_some_iff.1 hu).1; simp at this; omega
    rw [hcell j (by omega), ← hu, List.getElem?_map, List.getElem?_map, List.getElem?_take, if_pos hj, List.getElem?_eq_getElem (show j < zs.length by omega)]
    simp [List.getD_eq_getElem?_getD, List.getElem?_eq_getElem (show j < zs.length by omega), u8v_byteOf _ (hwz _ (List.getElem_mem _))]
end Go.Proofs.YtmjonlffhhehjaaGreatDoor
/- What the rows give the walks of package tree's laws: a slice of entries that came in. -/
namespace Go.Proofs.YtmjonlffhhehjaaGreatDoor
open Go.ChangeShapes Go.WideShapes Go.ChangeAt Go.RowKit Go.ChangeMaps Go.Deep Go.Joins 
theorem weightsAll_mem {H : Type} {P : Program} {e : TypeId} : ∀ {l : List (DataW H)} {d : DataW H}, d ∈ l → ∀ n ∈ d.weights P e, n ∈ DataW.weightsAll P e l
  | d' :: r, d, hd, n, hn => by
    simp only [DataW.weightsAll, List.mem_append]
    rcases List.mem_cons.1 hd with rfl | h
    · exact .inl hn
    · exact .inr (weightsAll_mem h n hn)
set_option maxRecDepth 100000 in
theorem open_bytesW {H : Type} {enc : TypeId × Value → H} {w : World} {base fuel : Nat} {held : Bool} {v : Value} {y : DataW H × List MemPlace}
    (hf : DataW.trod enc Tryz.prog w base (fun _ => true) held fuel 40 [v] = some y) :
    ∃ b : List (BitVec 8), Bs w v b ∧ b.length ≤ maxLen ∧ (b.length = 0 ∨ ∃ n ∈ y.1.weights Tryz.prog 40, b.length ≤ n) := by
  obtain ⟨a0, len0, cap0, hv⟩ := slice_form Tryz.underlying40 hf
  obtain rfl : v = .slice a0 len0 cap0 := by simpa using hv
  obtain ⟨d, ps⟩ := y
  have hsl := sliceLen_trod Tryz.underlying40 hf
  have hw : len0 = 0 ∨ ∃ n ∈ d.weights Tryz.prog 40, len0 ≤ n := by
    cases d <;> first | (exact .inl (by simpa [sliceLen] using hsl.symm)) | skip
    rename_i el sp
    refine .inr ⟨(el.length + sp.length) * Tryz.prog.bytesOf 5, by simp [DataW.weights, Tryz.underlying40], ?_⟩
    have hb1 : Tryz.prog.bytesOf 5 = 1 := by kernel_rfl
    have : el.length = len0 := by simpa [sliceLen] using hsl
    rw [hb1]; omega
  rcases open_ints Tryz.underlying40 Tryz.underlying5 (by kernel_rfl) hf with ⟨hcs, _⟩ | ⟨x, l, c, zs, hcs, _, hl, hm, hz, _, hcell, hwz⟩
  · simp at hcs
    obtain ⟨rfl, rfl, rfl⟩ := hcs
    exact ⟨[], ⟨none, 0, rfl, Nat.le_refl _, fun _ => rfl, Sees.nil _ _ _⟩, by simp, .inl rfl⟩
  · simp at hcs
    obtain ⟨rfl, rfl, rfl⟩ := hcs
    have hz' : zs.length = cap0 := by simpa using hz
    have hbl : ((zs.take len0).map fun n => byteOf (.int .u8 n)).length = len0 := by simp; omega
    refine ⟨(zs.take len0).map fun n => byteOf (.int .u8 n), ⟨some x, cap0, by rw [hbl], by rw [hbl]; omega, fun h => (by cases h), fun h0 => ?_⟩, by rw [hbl]; omega, by rw [hbl]; exact hw⟩
    have hp : 0 < zs.length := by simp at h0; omega
    refine ⟨x, rfl, by have := cell_lt (hcell 0 hp); rwa [add_block] at this, fun j u hu => ?_⟩
    have hj : j < len0 := by have := (List.getElem?_eq_some_iff.1 hu).1; simp at this; omega
    rw [hcell j (by omega), ← hu, List.getElem?_map, List.getElem?_map, List.getElem?_take, if_pos hj, List.getElem?_eq_getElem (show j < zs.length by omega)]
    simp [List.getD_eq_getElem?_getD, List.getElem?_eq_getElem (show j < zs.length by omega), u8v_byteOf _ (hwz _ (List.getElem_mem _))]
set_option maxRecDepth 100000 in
theorem open_entF {H : Type} {enc : TypeId × Value → H} {w : World} {base fuel : Nat} {held : Bool} {cs : List Value} {y : DataW H × List MemPlace}
    (hf : DataW.trod enc Tryz.prog w base (fun _ => true) held fuel 47 cs = some y) :
    ∃ e : Ent, cs = entC e ∧ e.1.size ≤ maxLen ∧ Bs w e.val e.by ∧ (e.by.length = 0 ∨ ∃ n ∈ y.1.weights Tryz.prog 47, e.by.length ≤ n) := by
  obtain ⟨y0, y1, y2, n, hy, hl, h0, h1, h2⟩ := trod_struct3 Tryz.underlying47 hf
  have hc3 : Tryz.prog.cellsOf 47 = 3 := by kernel_rfl
  have hcs : Tryz.prog.cellsOf 9 = 1 := by kernel_rfl
  have hcb : Tryz.prog.cellsOf 4 = 1 := by kernel_rfl
  have hcu : Tryz.prog.cellsOf 40 = 1 := by kernel_rfl
  match cs, hl.trans hc3 with
  | [c0, c1, c2], _ =>
    have g0 : DataW.trod enc Tryz.prog w base (fun _ => true) held n 9 [c0] = some y0 := by simpa [hcs] using h0
    have g1 : DataW.trod enc Tryz.prog w base (fun _ => true) held n 4 [c1] = some y1 := by simpa [hcb] using h1
    have g2 : DataW.trod enc Tryz.prog w base (fun _ => true) held n 40 [c2] = some y2 := by simpa [hcu] using h2
    obtain ⟨s, e0, _, hs⟩ := DataW.trod_string Tryz.underlying9 g0
    obtain ⟨d, e1, _⟩ := DataW.trod_bool Tryz.underlying4 g1
    obtain ⟨b, hb, hbl, hbw⟩ := open_bytesW g2
    obtain rfl : c0 = .string s := by simpa using e0
    obtain rfl : c1 = .bool d := by simpa using e1
    refine ⟨(s, d, c2, b), rfl, hs, hb, ?_⟩
    rcases hbw with h | ⟨m, hm, hle⟩
    · exact .inl h
    · refine .inr ⟨m, ?_, hle⟩
      rw [hy]
      simp only [DataW.weights, Tryz.underlying47]
      exact DataW.weights_mem_each (j := 2) rfl rfl _ hm
set_option maxRecDepth 100000 in
theorem open_ents {H : Type} {enc : TypeId × Value → H} {w : World} {base b0 : Nat} {held : Bool} {r : Reach} {v : Value} {d : DataW H} {ps : List MemPlace}
    (hval : Value.okWide Tryz.prog w r b0 26 v) (h : DataW.Trod enc Tryz.prog w base (fun _ => true) held 26 v d ps) :
    ∃ (C : List Ent) (q : Option Addr) (c : Nat), v = .slice q C.length c ∧ C.length ≤ c ∧ (q = none → c = 0) ∧ (∀ e ∈ C, e.1.size ≤ maxLen) ∧ Sees w w.heap.size q (rowC C) ∧ Ents w C ∧ ∀ e ∈ C, e.by.length = 0 ∨ ∃ n ∈ d.weights Tryz.prog 26, e.by.length ≤ n := by
  obtain ⟨a0, len0, cap0, rfl⟩ := okWide_slice Tryz.underlying26 hval
  obtain ⟨fuel, hf⟩ := h
  have hc3 : Tryz.prog.cellsOf 47 = 3 := by kernel_rfl
  rcases open_slice Tryz.underlying26 hf with ⟨hcs, _⟩ | ⟨a, len, cap, m, n, D, Pl, hcs, hbk, hl, hm, hmm, hx, hel⟩
  · simp [Value.cells] at hcs
    obtain ⟨rfl, rfl, rfl⟩ := hcs
    exact ⟨[], none, 0, rfl, Nat.le_refl _, fun _ => rfl, by simp, Sees.nil _ _ _, (fun _ hx => nomatch hx), (fun _ hx => nomatch hx)⟩
  · simp [Value.cells] at hcs
    obtain ⟨rfl, rfl, rfl⟩ := hcs
    have hmc : m = cap0 := by rw [hmm]; rfl
    have key : ∀ i, i < len0 → ∃ e : Ent, (∀ j, j < 3 → w.cell? (a.add (i * 3 + j)) = (entC e)[j]?) ∧ e.1.size ≤ maxLen ∧ Bs w e.val e.by ∧ (e.by.length = 0 ∨ ∃ n ∈ (D i).weights Tryz.prog 47, e.by.length ≤ n) := fun i hi => by
      obtain ⟨cs', h1, h2⟩ := hel i (by omega)
      obtain ⟨e, rfl, hs, hb, hw⟩ := open_entF h2
      rw [hc3] at h1
      obtain ⟨_, _, h5⟩ := World.cells?_some h1
      exact ⟨e, fun j hj => by rw [← add_add]; exact h5 j hj, hs, hb, hw⟩
    have ⟨f, hfk⟩ : ∃ f : Nat → Ent, ∀ i, i < len0 → (∀ j, j < 3 → w.cell? (a.add (i * 3 + j)) = (entC (f i))[j]?) ∧ (f i).1.size ≤ maxLen ∧ Bs w (f i).val (f i).by ∧ ((f i).by.length = 0 ∨ ∃ n ∈ (D i).weights Tryz.prog 47, (f i).by.length ≤ n) := by
      refine ⟨fun i => if h : i < len0 then Classical.choose (key i h) else (⟨#[]⟩, false, .slice none 0 0, []), fun i hi => ?_⟩
      simp only [dif_pos hi]
      exact Classical.choose_spec (key i hi)
    have hlen : ((List.range len0).map f).length = len0 := by simp
    have hmem : ∀ e ∈ (List.range len0).map f, ∃ i, i < len0 ∧ e = f i := fun e he => by
      obtain ⟨i, hi, rfl⟩ := List.mem_map.1 he
      exact ⟨i, List.mem_range.1 hi, rfl⟩
    refine ⟨(List.range len0).map f, some a, cap0, by rw [hlen], by rw [hlen]; omega, fun h => (by cases h), fun e he => ?_, fun h0 => ?_, fun e he => ?_, fun e he => ?_⟩
    · obtain ⟨i, hi, rfl⟩ := hmem e he
      exact (hfk i hi).2.1
    · rw [rowC_len, hlen] at h0
      have hp : 0 < len0 := by omega
      have hc0 : w.cell? (a.add 0) = some (.string (f 0).1) := by have := (hfk 0 hp).1 0 (by omega); simpa [entC] using this
      refine ⟨a, rfl, by have := cell_lt hc0; rwa [add_block] at this, fun j u hu => ?_⟩
      have hj := (List.getElem?_eq_some_iff.1 hu).1
      rw [rowC_len, hlen] at hj
      have hi : j / 3 < len0 := by omega
      have hcc := (hfk (j / 3) hi).1 (j % 3) (by omega)
      rw [show j / 3 * 3 + j % 3 = j by omega] at hcc
      rw [hcc, ← hu]
      obtain ⟨r1, r2, r3⟩ := rowC_get ((List.range len0).map f) (j / 3) (by rw [hlen]; exact hi)
      have hg : ((List.range len0).map f)[j / 3]'(by rw [hlen]; exact hi) = f (j / 3) := by simp
      rw [hg] at r1 r2 r3
      have h3 : j % 3 = 0 ∨ j % 3 = 1 ∨ j % 3 = 2 := by omega
      rcases h3 with h | h | h
      · rw [show j / 3 * 3 = j by omega] at r1; rw [h, r1]; rfl
      · rw [show j / 3 * 3 + 1 = j by omega] at r2; rw [h, r2]; rfl
      · rw [show j / 3 * 3 + 2 = j by omega] at r3; rw [h, r3]; rfl
    · obtain ⟨i, hi, rfl⟩ := hmem e he
      exact (hfk i hi).2.2.1
    · obtain ⟨i, hi, rfl⟩ := hmem e he
      rcases (hfk i hi).2.2.2 with h | ⟨n, hn, hle⟩
      · exact .inl h
      · refine .inr ⟨n, ?_, hle⟩
        have hd : d = .slice ((List.range len0).map D) ((List.range (m - len0)).map fun j => D (len0 + j)) := (congrArg Prod.fst hx)
        rw [hd]
        simp only [DataW.weights, Tryz.underlying26, List.mem_cons, List.mem_append]
        exact .inr (.inl (weightsAll_mem (List.mem_map.2 ⟨i, List.mem_range.2 hi, rfl⟩) n hn))
theorem bytes_bound {C : List Ent} (h : ∀ e ∈ C, e.by.length ≤ reachBytes) : C.length ≤ 40 → bytesT C ≤ 2305843009213693952 := by
  have key : ∀ D : List Ent, (∀ e ∈ D, e.by.length ≤ reachBytes) → bytesT D ≤ D.length * reachBytes := by
    intro D
    induction D with
    | nil => intro _; simp [bytesT]
    | cons x D ih =>
      intro hD
      have h1 := ih fun e he => hD e (List.mem_cons_of_mem _ he)
      have h2 := hD x (List.mem_cons_self ..)
      have h3 : bytesT (x :: D) = x.by.length + bytesT D := by unfold bytesT; rw [List.map_cons, List.sum_cons]
      rw [h3, List.length_cons, Nat.add_mul, Nat.one_mul]; omega
  intro hl
  have h1 := key C h
  have h2 : C.length * reachBytes ≤ 40 * reachBytes := Nat.mul_le_mul_right _ hl
  have h3 : 40 * reachBytes ≤ 2305843009213693952 := by decide
  omega
theorem paths_bound {C : List Ent} (h : ∀ e ∈ C, e.1.size ≤ maxLen) : ∀ e ∈ C, e.1.size < 9223372036854775808 := fun e he => by
  have := h e he
  unfold maxLen at this
  omega
end Go.Proofs.YtmjonlffhhehjaaGreatDoor
/- The arguments of the laws on pieces, opened: texts, whole numbers, pieces. No condition. -/
namespace Go.Proofs.YtmjonlffhhehjaaGreatDoor
open Go.ChangeShapes Go.WideShapes Go.ChangeAt Go.RowKit Go.Deep
theorem cell_ltQ {w : World} {a : Addr} {v : Value} (h : w.cell? a = some v) : a.block < w.heap.size := by
  rcases Nat.lt_or_ge a.block w.heap.size with hl | hl
  · exact hl
  · unfold World.cell? at h
    rw [Array.getElem?_eq_none hl] at h
    cases h
set_option maxRecDepth 100000 in
theorem open_bytesF {H : Type} {enc : TypeId × Value → H} {w : World} {base fuel : Nat} {held : Bool} {v : Value} {y : DataW H × List MemPlace}
    (hf : DataW.trod enc Tryz.prog w base (fun _ => true) held fuel 40 [v] = some y) :
    ∃ b : List (BitVec 8), Bs w v b ∧ b.length ≤ maxLen := by
  rcases open_ints Tryz.underlying40 Tryz.underlying5 (by kernel_rfl) hf with ⟨hcs, _⟩ | ⟨x, l, c, zs, hcs, _, hl, hm, hz, _, hcell, hwz⟩
  · obtain rfl : v = .slice none 0 0 := by simpa using hcs
    exact ⟨[], Bs.nil w, by simp⟩
  · obtain rfl : v = .slice (some x) l c := by simpa using hcs
    have hz' : zs.length = c := by simpa using hz
    have hlen : ((zs.take l).map fun n => byteOf (.int .u8 n)).length = l := by simp; omega
    refine ⟨(zs.take l).map fun n => byteOf (.int .u8 n), ⟨some x, c, by rw [hlen], by omega, fun h => (by cases h), fun h0 => ?_⟩, by omega⟩
    rw [List.length_map, hlen] at h0
    have h00 := hcell 0 (by omega)
    refine ⟨x, rfl, by have := cell_ltQ h00; rwa [add_block] at this, fun j u hu => ?_⟩
    have hj : j < l := by have := (List.getElem?_eq_some_iff.1 hu).1; rw [List.length_map, hlen] at this; exact this
    rw [hcell j (by omega), ← hu, List.getElem?_map, List.getElem?_map, List.getElem?_take, if_pos hj, List.getElem?_eq_getElem (show j < zs.length by omega)]
    simp [List.getD_eq_getElem?_getD, List.getElem?_eq_getElem (show j < zs.length by omega), u8v_byteOf _ (hwz _ (List.getElem_mem _))]
set_option maxRecDepth 100000 in
/-- Texts that came in. -/
theorem open_bytess {H : Type} {enc : TypeId × Value → H} {w : World} {base b0 : Nat} {held : Bool} {r : Reach} {v : Value} {d : DataW H} {ps : List MemPlace}
    (hval : Value.okWide Tryz.prog w r b0 82 v) (h : DataW.Trod enc Tryz.prog w base (fun _ => true) held 82 v d ps) :
    ∃ (L : List (List (BitVec 8))) (q : Option Addr) (c : Nat), v = .slice q L.length c ∧ L.length ≤ c ∧ (q = none → c = 0) ∧ (L.length ≤ maxLen ∧ ∀ x ∈ L, x.length ≤ maxLen) ∧ Ps w (.slice q L.length c) L := by
  obtain ⟨a0, len0, cap0, rfl⟩ := okWide_slice Tryz.underlying82 hval
  obtain ⟨fuel, hf⟩ := h
  rcases open_slice1 Tryz.underlying82 (by kernel_rfl) hf with ⟨hcs, _⟩ | ⟨a, len, cap, m, n, V, D, Pl, hcs, hbk, hl, hm, hmm, hx, hel⟩
  · simp [Value.cells] at hcs
    obtain ⟨rfl, rfl, rfl⟩ := hcs
    exact ⟨[], none, 0, rfl, Nat.le_refl _, fun _ => rfl, ⟨by simp, fun x hx => by cases hx⟩, Ps.nil w⟩
  · simp [Value.cells] at hcs
    obtain ⟨rfl, rfl, rfl⟩ := hcs
    have hmc : m = cap0 := by rw [hmm]; rfl
    have key : ∀ i, i < len0 → ∃ b : List (BitVec 8), Bs w (V i) b ∧ b.length ≤ maxLen := fun i hi => open_bytesF (hel i (by omega)).2
    have ⟨f, hfk⟩ : ∃ f : Nat → List (BitVec 8), ∀ i, i < len0 → Bs w (V i) (f i) ∧ (f i).length ≤ maxLen := by
      refine ⟨fun i => if h : i < len0 then Classical.choose (key i h) else [], fun i hi => ?_⟩
      simp only [dif_pos hi]
      exact Classical.choose_spec (key i hi)
    have hlen : ((List.range len0).map f).length = len0 := by simp
    refine ⟨(List.range len0).map f, some a, cap0, by rw [hlen], by rw [hlen]; omega, fun h => (by cases h), ⟨by rw [hlen]; omega, fun x hx => ?_⟩, some a, cap0, (List.range len0).map V, rfl, fun h0 => ?_, by simp, fun i u x hu hx => ?_⟩
    · obtain ⟨i, hi, rfl⟩ := List.mem_map.1 hx
      exact (hfk i (List.mem_range.1 hi)).2
    · have hp : 0 < len0 := by simpa using h0
      refine ⟨a, rfl, by have := cell_ltQ (hel 0 (by omega)).1; rwa [add_block] at this, fun j u hu => ?_⟩
      have hj : j < len0 := by have := (List.getElem?_eq_some_iff.1 hu).1; simpa using this
      rw [(hel j (by omega)).1, ← hu, List.getElem?_map, List.getElem?_range hj]
      rfl
    · have hi : i < len0 := by have := (List.getElem?_eq_some_iff.1 hu).1; simpa using this
      rw [List.getElem?_map, List.getElem?_range hi] at hu hx
      cases hu
      cases hx
      exact (hfk i hi).1
set_option maxRecDepth 100000 in
/-- Whole numbers that came in. -/
theorem open_nums {H : Type} {enc : TypeId × Value → H} {w : World} {base b0 : Nat} {held : Bool} {r : Reach} {v : Value} {d : DataW H} {ps : List MemPlace}
    (hval : Value.okWide Tryz.prog w r b0 124 v) (h : DataW.Trod enc Tryz.prog w base (fun _ => true) held 124 v d ps) :
    ∃ (L : List Int) (q : Option Addr) (c : Nat), v = .slice q L.length c ∧ L.length ≤ c ∧ (q = none → c = 0) ∧ (L.length ≤ maxLen ∧ ∀ x ∈ L, (Lit.int .i64 x).wf = true) ∧ Sees w w.heap.size q (L.map fun x => Value.int .i64 x) := by
  obtain ⟨a0, len0, cap0, rfl⟩ := okWide_slice Tryz.underlying124 hval
  obtain ⟨fuel, hf⟩ := h
  rcases open_ints Tryz.underlying124 Tryz.underlying3 (by kernel_rfl) hf with ⟨hcs, _⟩ | ⟨x, l, c, zs, hcs, _, hl, hm, hz, _, hcell, hwz⟩
  · simp [Value.cells] at hcs
    obtain ⟨rfl, rfl, rfl⟩ := hcs
    exact ⟨[], none, 0, rfl, Nat.le_refl _, fun _ => rfl, ⟨by simp, fun x hx => by cases hx⟩, Sees.nil _ _ _⟩
  · simp [Value.cells] at hcs
    obtain ⟨rfl, rfl, rfl⟩ := hcs
    have hz' : zs.length = cap0 := by simpa using hz
    have hlen : (zs.take len0).length = len0 := by rw [List.length_take]; omega
    refine ⟨zs.take len0, some x, cap0, by rw [hlen], by rw [hlen]; omega, fun h => (by cases h), ⟨by rw [hlen]; omega, fun y hy => hwz y (List.mem_of_mem_take hy)⟩, fun h0 => ?_⟩
    rw [List.length_map, hlen] at h0
    refine ⟨x, rfl, by have := cell_ltQ (hcell 0 (by omega)); rwa [add_block] at this, fun j u hu => ?_⟩
    have hj : j < len0 := by have := (List.getElem?_eq_some_iff.1 hu).1; rw [List.length_map, hlen] at this; exact this
    rw [hcell j (by omega), ← hu, List.getElem?_map, List.getElem?_take, if_pos hj, List.getElem?_eq_getElem (show j < zs.length by omega)]
    simp [List.getD_eq_getElem?_getD, List.getElem?_eq_getElem (show j < zs.length by omega)]
theorem open_suQ {H : Type} {enc : TypeId × Value → H} {w : World} {base fuel : Nat} {held : Bool} {cs : List Value} {y : DataW H × List MemPlace}
    (hf : DataW.trod enc Tryz.prog w base (fun _ => true) held fuel 31 cs = some y) : ∃ s : Su, cs = encU s := by
  obtain ⟨d, ps⟩ := y
  obtain ⟨xs, m, rfl, _, hlen, hxl, hel⟩ := DataW.trod_array Tryz.underlying31 hf
  have c1 : Tryz.prog.cellsOf 5 = 1 := by kernel_rfl
  have c32 : Tryz.prog.cellsOf 31 = 32 := by kernel_rfl
  have hs : cs.length = 32 := by rw [c32] at hlen; exact hlen
  refine ⟨⟨cs.map byteOf, by simpa using hs⟩, ?_⟩
  show cs = (cs.map byteOf).map u8v
  symm
  apply List.ext_getElem?
  intro i
  rcases Nat.lt_or_ge i 32 with hi | hi
  · have hxi := hel i hi
    rw [c1, List.getElem?_eq_getElem (by omega)] at hxi
    obtain ⟨n, e1, _, e3⟩ := DataW.trod_int Tryz.underlying5 hxi
    have hd : (cs.drop (i * 1)).take 1 = [cs[i]] := by
      rw [Nat.mul_one, List.drop_eq_getElem_cons (by omega)]; rfl
    have e4 : cs[i] = .int .u8 n := by
      rw [hd] at e1
      simpa using e1
    rw [List.getElem?_map, List.getElem?_map, List.getElem?_eq_getElem (by omega), e4]
    simp [u8v_byteOf n e3]
  · rw [List.getElem?_eq_none (by simp; omega), List.getElem?_eq_none (by omega)]
theorem open_pcF {H : Type} {enc : TypeId × Value → H} {w : World} {base fuel : Nat} {held : Bool} {cs : List Value} {y : DataW H × List MemPlace}
    (hf : DataW.trod enc Tryz.prog w base (fun _ => true) held fuel 87 cs = some y) : ∃ p : Pc, cs = encP p ∧ Bs w p.2.1 p.2.2 ∧ p.2.2.length ≤ maxLen := by
  obtain ⟨y0, y1, n, hy, hl, h0, h1⟩ := trod_struct2 Tryz.underlying87 hf
  have c33 : Tryz.prog.cellsOf 87 = 33 := by kernel_rfl
  have c32 : Tryz.prog.cellsOf 31 = 32 := by kernel_rfl
  have c1 : Tryz.prog.cellsOf 40 = 1 := by kernel_rfl
  have hl' : cs.length = 33 := hl.trans c33
  have g0 : DataW.trod enc Tryz.prog w base (fun _ => true) held n 31 (cs.take 32) = some y0 := by simpa [c32] using h0
  have e1 : (cs.drop 32).take 1 = [cs[32]] := by rw [List.drop_eq_getElem_cons (by omega)]; rfl
  have g1 : DataW.trod enc Tryz.prog w base (fun _ => true) held n 40 [cs[32]] = some y1 := by rw [← e1]; simpa [c1] using h1
  obtain ⟨s, hs⟩ := open_suQ g0
  obtain ⟨b, hb, hbl⟩ := open_bytesF g1
  refine ⟨(s, cs[32], b), ?_, hb, hbl⟩
  unfold encP
  rw [← hs]
  have : cs = cs.take 32 ++ cs.drop 32 := (List.take_append_drop 32 cs).symm
  have e2 : cs.drop 32 = [cs[32]] := by
    rw [List.drop_eq_getElem_cons (by omega), List.drop_eq_nil_of_le (by omega)]
  rw [e2] at this
  exact this
set_option maxRecDepth 100000 in
/-- Pieces that came in. -/
theorem open_pcs {H : Type} {enc : TypeId × Value → H} {w : World} {base b0 : Nat} {held : Bool} {r : Reach} {v : Value} {d : DataW H} {ps : List MemPlace}
    (hval : Value.okWide Tryz.prog w r b0 42 v) (h : DataW.Trod enc Tryz.prog w base (fun _ => true) held 42 v d ps) :
    ∃ (L : List Pc) (q : Option Addr) (c : Nat), v = .slice q L.length c ∧ L.length ≤ c ∧ (q = none → c = 0) ∧ (L.length ≤ maxLen ∧ ∀ p ∈ L, p.2.2.length ≤ maxLen) ∧ Sees w w.heap.size q (rowP L) ∧ Pcb w L := by
  obtain ⟨a0, len0, cap0, rfl⟩ := okWide_slice Tryz.underlying42 hval
  obtain ⟨fuel, hf⟩ := h
  have hc : Tryz.prog.cellsOf 87 = 33 := by kernel_rfl
  rcases open_slice Tryz.underlying42 hf with ⟨hcs, _⟩ | ⟨a, len, cap, m, n, D, Pl, hcs, hbk, hl, hm, hmm, hx, hel⟩
  · simp [Value.cells] at hcs
    obtain ⟨rfl, rfl, rfl⟩ := hcs
    exact ⟨[], none, 0, rfl, Nat.le_refl _, fun _ => rfl, ⟨by simp, fun x hx => by cases hx⟩, Sees.nil _ _ _, fun x hx => by cases hx⟩
  · simp [Value.cells] at hcs
    obtain ⟨rfl, rfl, rfl⟩ := hcs
    have hmc : m = cap0 := by rw [hmm]; rfl
    have key : ∀ i, i < len0 → ∃ s : Pc, (∀ j, j < 33 → w.cell? (a.add (i * 33 + j)) = (encP s)[j]?) ∧ Bs w s.2.1 s.2.2 ∧ s.2.2.length ≤ maxLen := fun i hi => by
      obtain ⟨cs', h1, h2⟩ := hel i (by omega)
      obtain ⟨s, rfl, hb⟩ := open_pcF h2
      rw [hc] at h1
      obtain ⟨_, _, h5⟩ := World.cells?_some h1
      exact ⟨s, fun j hj => by rw [← add_add]; exact h5 j hj, hb⟩
    have ⟨f, hfk⟩ : ∃ f : Nat → Pc, ∀ i, i < len0 → (∀ j, j < 33 → w.cell? (a.add (i * 33 + j)) = (encP (f i))[j]?) ∧ Bs w (f i).2.1 (f i).2.2 ∧ (f i).2.2.length ≤ maxLen := by
      refine ⟨fun i => if h : i < len0 then Classical.choose (key i h) else (default, .slice none 0 0, []), fun i hi => ?_⟩
      simp only [dif_pos hi]
      exact Classical.choose_spec (key i hi)
    have hlen : ((List.range len0).map f).length = len0 := by simp
    have hmem : ∀ e ∈ (List.range len0).map f, ∃ i, i < len0 ∧ e = f i := fun e he => by
      obtain ⟨i, hi, rfl⟩ := List.mem_map.1 he
      exact ⟨i, List.mem_range.1 hi, rfl⟩
    refine ⟨(List.range len0).map f, some a, cap0, by rw [hlen], by rw [hlen]; omega, fun h => (by cases h), ⟨by rw [hlen]; omega, fun p hp => ?_⟩, fun h0 => ?_, fun p hp => ?_⟩
    · obtain ⟨i, hi, rfl⟩ := hmem p hp
      exact (hfk i hi).2.2
    · rw [rowP_len, hlen] at h0
      have hp : 0 < len0 := by omega
      have e0 : (encP (f 0))[0]? = some ((encP (f 0))[0]'(by rw [encP_len]; decide)) := List.getElem?_eq_getElem _
      have hc0 := (hfk 0 hp).1 0 (by decide)
      rw [e0] at hc0
      refine ⟨a, rfl, by have := cell_ltQ hc0; rwa [add_block] at this, fun j u hu => ?_⟩
      have hj := (List.getElem?_eq_some_iff.1 hu).1
      rw [rowP_len, hlen] at hj
      have hi : j / 33 < len0 := by omega
      have hg : ((List.range len0).map f)[j / 33]'(by rw [hlen]; exact hi) = f (j / 33) := by simp
      have h1 := rowP_get ((List.range len0).map f) (j / 33) (by rw [hlen]; exact hi) (j % 33) (Nat.mod_lt _ (by decide))
      rw [hg, show j / 33 * 33 + j % 33 = j by omega] at h1
      have h2 := (hfk (j / 33) hi).1 (j % 33) (Nat.mod_lt _ (by decide))
      rw [show j / 33 * 33 + j % 33 = j by omega] at h2
      rw [h2, ← h1, hu]
    · obtain ⟨i, hi, rfl⟩ := hmem p hp
      exact (hfk i hi).2.1
end Go.Proofs.YtmjonlffhhehjaaGreatDoor
