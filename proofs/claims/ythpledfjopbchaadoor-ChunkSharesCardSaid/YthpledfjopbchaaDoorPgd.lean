/- Contract: chunk.Good. Condition: fewer than 10^12 bytes; the sums' tables are laid. -/
import Derived.Test.YthpledfjopbchaaDoorPal
import Derived.Test.YthpledfjopbchaaDoorOrg
namespace Go.Proofs.YthpledfjopbchaaDoor
open Go.RowKit
/-- Is a piece what it says? -/
def goodPc (p : Pc) : Bool := decide (1 ≤ p.2.2.length) && decide (p.2.2.length ≤ 128) && decide (shaU p.2.2 = p.1)
theorem gdSumP : Tryd.prog.eqGuardType Tryd.prog.depth 24 = false := by kernel_rfl
set_option maxHeartbeats 4000000 in
set_option maxRecDepth 100000 in
theorem pgood_any (p : Pc) (w : World) (hb : Bs w p.2.1 p.2.2) (hn : p.2.2.length < 1000000000000) (hL : Laid w) :
    Calls Tryd.prog 11 #[.agg (encP p).toArray] w fun e w' => e = .returned (.bool (goodPc p)) ∧ Below w.heap.size w w' := by
  obtain ⟨s, v, x⟩ := p
  obtain ⟨q, c, hv, hc, hq, hs⟩ := hb
  simp only [] at hv hc hs hn
  subst hv
  have HB0 := Lib.hid ((Below.refl w.heap.size w).alloc (Nat.le_refl _) (.cells (encP (s, .slice q x.length c, x)).toArray 28))
  have HAS : Hid (Has (w.alloc (.cells (encP (s, .slice q x.length c, x)).toArray 28)) w.heap.size 28 (encP (s, .slice q x.length c, x))) := Lib.hid (Has.made' w _ _ _ rfl)
  have HBS : Hid (Bs w (.slice q x.length c) x) := Lib.hid ⟨q, c, rfl, hc, hq, hs⟩
  have HL := Lib.hid (hL.keep HB0.out hL.size)
  have HSZ := Lib.hid hL.size
  clear hs hL hc hq
  go_enter Tryd.func11, Tryd.ntmps11
  go_upto_region 1 with fail
  have HC0 : Hid ((encP (s, .slice q x.length c, x))[32]? = some (.slice q x.length c)) := Lib.hid (encP_b (s, .slice q x.length c, x))
  have HCS : Hid (∀ j u, (encU s)[j]? = some u → (encP (s, .slice q x.length c, x))[j]? = some u) := Lib.hid (fun j u h => encP_su (p := (s, .slice q x.length c, x)) h)
  have HBS0 := Lib.hid (HBS.out.keep HB0.out)
  have HE := Lib.hid (⟨rfl, rfl⟩ : (encP (s, .slice q x.length c, x)).length = (encP (s, .slice q x.length c, x)).length ∧ True = True)
  clear HE
  generalize hw0 : w.alloc (.cells (encP (s, .slice q x.length c, x)).toArray 28) = w0 at *
  clear hw0
  have HG := Lib.hid HAS.out.lt
  obtain ⟨g, hg⟩ : ∃ g, g = w.heap.size := ⟨_, rfl⟩
  rw [← hg] at HAS HG ⊢
  have HGE := Lib.hid hg
  clear hg
  by_cases h1 : 1 ≤ x.length
  · have k1 : (1 : Int) ≤ (x.length : Int) := by omega
    by_cases h2 : x.length ≤ 128
    · have k2 : (x.length : Int) ≤ 128 := by omega
      have HR : Hid (goodPc (s, .slice q x.length c, x) = decide (shaU x = s)) := Lib.hid (by unfold goodPc; rw [decide_eq_true h1, decide_eq_true h2]; rfl)
      refine wp_region_org [(0, true), (1, true), (2, true), (3, true), (4, true), (5, true), (6, true), (7, true), (8, true), (9, true), (10, true), (11, true), (12, true), (15, true), (16, true), (13, false), (14, false), (17, true), (18, true), (19, true)] (by kernel_rfl) (by kernel_rfl) (by kernel_rfl) ?_
      have HB1 : Hid (Below w.heap.size w w0.drew) := Lib.hid HB0.out.drew
      have HASD : Hid (Has w0.drew g 28 (encP (s, .slice q x.length c, x))) := Lib.hid HAS.out
      have HLD : Hid (Laid w0.drew) := Lib.hid (HL.out.keep ((Below.refl w0.heap.size w0).drew) (by have := HSZ.out; have := HB0.out.size; omega))
      have HBSD : Hid (Bs w0.drew (.slice q x.length c) x) := Lib.hid HBS0.out
      clear HAS HL HBS0 HBS HB0
      generalize w0.drew = wd at *
      have HC32 : Hid (∀ w', Ext wd w' → w'.cell? ⟨g, 32, none⟩ = some (.slice q x.length c)) := Lib.hid (fun w' hv => (HASD.out.keep hv HASD.out.lt).cellv HC0.out)
      have HCU : Hid (∀ w', Ext wd w' → ∀ j u, (encU s)[j]? = some u → w'.cell? ((⟨g, 0, none⟩ : Addr).add j) = some u) := Lib.hid (fun w' hv j u hu => by rw [add_lit', Nat.zero_add]; exact (HASD.out.keep hv HASD.out.lt).cellv (HCS.out j u hu))
      clear HASD HC0 HCS
      simp only [pickOrs, List.getElem?_cons_zero, List.getElem?_cons_succ]
      refine org_pure (v := ?_) (by kernel_rfl) ?_ ?_
      rotate_left
      · intro w' hv; clear hv; go_simp; try with_reducible rfl
      try simp only [Act.put, List.setIfInBounds_toArray, List.set_cons_zero, List.set_cons_succ]
      refine org_pure (v := ?_) (by kernel_rfl) ?_ ?_
      rotate_left
      · intro w' hv; have c32 := HC32.out _ hv; clear hv; go_simp; try with_reducible rfl
      try simp only [Act.put, List.setIfInBounds_toArray, List.set_cons_zero, List.set_cons_succ]
      refine org_pure (v := ?_) (by kernel_rfl) ?_ ?_
      rotate_left
      · intro w' hv; clear hv; go_simp; try with_reducible rfl
      try simp only [Act.put, List.setIfInBounds_toArray, List.set_cons_zero, List.set_cons_succ]
      refine org_pure (v := ?_) (by kernel_rfl) ?_ ?_
      rotate_left
      · intro w' hv; clear hv; go_simp; try with_reducible rfl
      try simp only [Act.put, List.setIfInBounds_toArray, List.set_cons_zero, List.set_cons_succ]
      refine org_pure (v := ?_) (by kernel_rfl) ?_ ?_
      rotate_left
      · intro w' hv; clear hv; go_simp; try with_reducible rfl
      try simp only [Act.put, List.setIfInBounds_toArray, List.set_cons_zero, List.set_cons_succ]
      refine org_pure (v := ?_) (by kernel_rfl) ?_ ?_
      rotate_left
      · intro w' hv; clear hv; go_simp; try with_reducible rfl
      try simp only [Act.put, List.setIfInBounds_toArray, List.set_cons_zero, List.set_cons_succ]
      refine org_pure (v := ?_) (by kernel_rfl) ?_ ?_
      rotate_left
      · intro w' hv; have c32 := HC32.out _ hv; clear hv; go_simp; try with_reducible rfl
      try simp only [Act.put, List.setIfInBounds_toArray, List.set_cons_zero, List.set_cons_succ]
      refine org_pure (v := ?_) (by kernel_rfl) ?_ ?_
      rotate_left
      · intro w' hv; clear hv; go_simp; try with_reducible rfl
      try simp only [Act.put, List.setIfInBounds_toArray, List.set_cons_zero, List.set_cons_succ]
      refine org_pure (v := ?_) (by kernel_rfl) ?_ ?_
      rotate_left
      · intro w' hv; clear hv; go_simp; try with_reducible rfl
      try simp only [Act.put, List.setIfInBounds_toArray, List.set_cons_zero, List.set_cons_succ]
      refine org_pure (v := ?_) (by kernel_rfl) ?_ ?_
      rotate_left
      · intro w' hv; clear hv; go_simp; try with_reducible rfl
      try simp only [Act.put, List.setIfInBounds_toArray, List.set_cons_zero, List.set_cons_succ]
      refine org_pure (v := ?_) (by kernel_rfl) ?_ ?_
      rotate_left
      · intro w' hv; clear hv; go_simp; try with_reducible rfl
      try simp only [Act.put, List.setIfInBounds_toArray, List.set_cons_zero, List.set_cons_succ]
      refine org_pure (v := ?_) (by kernel_rfl) ?_ ?_
      rotate_left
      · intro w' hv; clear hv; go_simp; try with_reducible rfl
      try simp only [Act.put, List.setIfInBounds_toArray, List.set_cons_zero, List.set_cons_succ]
      refine org_pure (v := ?_) (by kernel_rfl) ?_ ?_
      rotate_left
      · intro w' hv; have c32 := HC32.out _ hv; clear hv; go_simp; try with_reducible rfl
      try simp only [Act.put, List.setIfInBounds_toArray, List.set_cons_zero, List.set_cons_succ]
      refine org_pure (v := ?_) (by kernel_rfl) ?_ ?_
      rotate_left
      · intro w' hv; clear hv; go_simp; try with_reducible rfl
      try simp only [Act.put, List.setIfInBounds_toArray, List.set_cons_zero, List.set_cons_succ]
      refine org_pure (by kernel_rfl) (fun w' hv => load_su 24 (.tmp 18) rfl ⟨g, 0, none⟩ rfl elSum.2.1 szSum s (HCU.out _ hv)) ?_
      try simp only [Act.put, List.setIfInBounds_toArray, List.set_cons_zero, List.set_cons_succ]
      refine org_step (by kernel_rfl) (fun K hK => wp_one_bs (.tmp 15) rfl q x.length c rfl (hK _ _ ⟨(Below.refl _ _).alloc (Nat.le_refl _) _, ?_⟩))
      try simp only [Act.put, List.setIfInBounds_toArray, List.set_cons_zero, List.set_cons_succ]
      have HOF := Lib.hid (of_one HBSD.out (by omega) HLD.out)
      refine org_step (by kernel_rfl) (fun K hK => ?_)
      go_wp2_with fail
      refine Calls.mono HOF.out ?_
      rintro e wx ⟨rfl, hb, hb2⟩
      have HE := Lib.hid hb2
      refine hK _ _ ⟨hb, ?_⟩
      clear hK hb hb2
      try simp only [Act.put, List.setIfInBounds_toArray, List.set_cons_zero, List.set_cons_succ]
      refine org_pure (by kernel_rfl) (fun w' hv => eql_su 24 (.tmp 17) (.tmp 19) _ rfl (shaU x) s rfl rfl elSum.2.1 gdSumP) ?_
      try simp only [Act.put, List.setIfInBounds_toArray, List.set_cons_zero, List.set_cons_succ]
      refine org_pure (v := ?_) (by kernel_rfl) ?_ ?_
      rotate_left
      · intro w' hv; clear hv; go_simp; try with_reducible rfl
      try simp only [Act.put, List.setIfInBounds_toArray, List.set_cons_zero, List.set_cons_succ]
      refine org_pure (v := ?_) (by kernel_rfl) ?_ ?_
      rotate_left
      · intro w' hv; clear hv; go_simp; try with_reducible rfl
      try simp only [Act.put, List.setIfInBounds_toArray, List.set_cons_zero, List.set_cons_succ]
      refine org_nil ?_
      go_wp2_with fail
      go_ret
      exact ⟨congrArg (fun b => Ending.returned (.bool b)) HR.out.symm, HB1.out.trans (HE.out.mono HB1.out.size)⟩
    · have k2 : ¬ (x.length : Int) ≤ 128 := by omega
      have HR : Hid (goodPc (s, .slice q x.length c, x) = false) := Lib.hid (by unfold goodPc; rw [decide_eq_false h2, Bool.and_false, Bool.false_and])
      refine wp_region_org [(0, true), (1, true), (2, true), (3, true), (4, true), (5, true), (6, true), (7, true), (8, true), (9, true), (10, true), (11, true), (12, true), (15, true), (16, true), (13, false), (14, false), (17, true), (18, true), (19, true)] (by kernel_rfl) (by kernel_rfl) (by kernel_rfl) ?_
      have HB1 : Hid (Below w.heap.size w w0.drew) := Lib.hid HB0.out.drew
      have HASD : Hid (Has w0.drew g 28 (encP (s, .slice q x.length c, x))) := Lib.hid HAS.out
      have HLD : Hid (Laid w0.drew) := Lib.hid (HL.out.keep ((Below.refl w0.heap.size w0).drew) (by have := HSZ.out; have := HB0.out.size; omega))
      have HBSD : Hid (Bs w0.drew (.slice q x.length c) x) := Lib.hid HBS0.out
      clear HAS HL HBS0 HBS HB0
      generalize w0.drew = wd at *
      have HC32 : Hid (∀ w', Ext wd w' → w'.cell? ⟨g, 32, none⟩ = some (.slice q x.length c)) := Lib.hid (fun w' hv => (HASD.out.keep hv HASD.out.lt).cellv HC0.out)
      have HCU : Hid (∀ w', Ext wd w' → ∀ j u, (encU s)[j]? = some u → w'.cell? ((⟨g, 0, none⟩ : Addr).add j) = some u) := Lib.hid (fun w' hv j u hu => by rw [add_lit', Nat.zero_add]; exact (HASD.out.keep hv HASD.out.lt).cellv (HCS.out j u hu))
      clear HASD HC0 HCS
      simp only [pickOrs, List.getElem?_cons_zero, List.getElem?_cons_succ]
      refine org_pure (v := ?_) (by kernel_rfl) ?_ ?_
      rotate_left
      · intro w' hv; clear hv; go_simp; try with_reducible rfl
      try simp only [Act.put, List.setIfInBounds_toArray, List.set_cons_zero, List.set_cons_succ]
      refine org_pure (v := ?_) (by kernel_rfl) ?_ ?_
      rotate_left
      · intro w' hv; have c32 := HC32.out _ hv; clear hv; go_simp; try with_reducible rfl
      try simp only [Act.put, List.setIfInBounds_toArray, List.set_cons_zero, List.set_cons_succ]
      refine org_pure (v := ?_) (by kernel_rfl) ?_ ?_
      rotate_left
      · intro w' hv; clear hv; go_simp; try with_reducible rfl
      try simp only [Act.put, List.setIfInBounds_toArray, List.set_cons_zero, List.set_cons_succ]
      refine org_pure (v := ?_) (by kernel_rfl) ?_ ?_
      rotate_left
      · intro w' hv; clear hv; go_simp; try with_reducible rfl
      try simp only [Act.put, List.setIfInBounds_toArray, List.set_cons_zero, List.set_cons_succ]
      refine org_pure (v := ?_) (by kernel_rfl) ?_ ?_
      rotate_left
      · intro w' hv; clear hv; go_simp; try with_reducible rfl
      try simp only [Act.put, List.setIfInBounds_toArray, List.set_cons_zero, List.set_cons_succ]
      refine org_pure (v := ?_) (by kernel_rfl) ?_ ?_
      rotate_left
      · intro w' hv; clear hv; go_simp; try with_reducible rfl
      try simp only [Act.put, List.setIfInBounds_toArray, List.set_cons_zero, List.set_cons_succ]
      refine org_pure (v := ?_) (by kernel_rfl) ?_ ?_
      rotate_left
      · intro w' hv; have c32 := HC32.out _ hv; clear hv; go_simp; try with_reducible rfl
      try simp only [Act.put, List.setIfInBounds_toArray, List.set_cons_zero, List.set_cons_succ]
      refine org_pure (v := ?_) (by kernel_rfl) ?_ ?_
      rotate_left
      · intro w' hv; clear hv; go_simp; try with_reducible rfl
      try simp only [Act.put, List.setIfInBounds_toArray, List.set_cons_zero, List.set_cons_succ]
      refine org_pure (v := ?_) (by kernel_rfl) ?_ ?_
      rotate_left
      · intro w' hv; clear hv; go_simp; try with_reducible rfl
      try simp only [Act.put, List.setIfInBounds_toArray, List.set_cons_zero, List.set_cons_succ]
      refine org_pure (v := ?_) (by kernel_rfl) ?_ ?_
      rotate_left
      · intro w' hv; clear hv; go_simp; try with_reducible rfl
      try simp only [Act.put, List.setIfInBounds_toArray, List.set_cons_zero, List.set_cons_succ]
      refine org_pure (v := ?_) (by kernel_rfl) ?_ ?_
      rotate_left
      · intro w' hv; clear hv; go_simp; try with_reducible rfl
      try simp only [Act.put, List.setIfInBounds_toArray, List.set_cons_zero, List.set_cons_succ]
      refine org_skip (by kernel_rfl) ?_
      try simp only [Act.put, List.setIfInBounds_toArray, List.set_cons_zero, List.set_cons_succ]
      refine org_skip (by kernel_rfl) ?_
      try simp only [Act.put, List.setIfInBounds_toArray, List.set_cons_zero, List.set_cons_succ]
      refine org_skip (by kernel_rfl) ?_
      try simp only [Act.put, List.setIfInBounds_toArray, List.set_cons_zero, List.set_cons_succ]
      refine org_skip (by kernel_rfl) ?_
      try simp only [Act.put, List.setIfInBounds_toArray, List.set_cons_zero, List.set_cons_succ]
      refine org_pass (by kernel_rfl) ?_
      try simp only [Act.put, List.setIfInBounds_toArray, List.set_cons_zero, List.set_cons_succ]
      refine org_pass (by kernel_rfl) ?_
      try simp only [Act.put, List.setIfInBounds_toArray, List.set_cons_zero, List.set_cons_succ]
      refine org_skip (by kernel_rfl) ?_
      try simp only [Act.put, List.setIfInBounds_toArray, List.set_cons_zero, List.set_cons_succ]
      refine org_pure (v := ?_) (by kernel_rfl) ?_ ?_
      rotate_left
      · intro w' hv; clear hv; go_simp; try with_reducible rfl
      try simp only [Act.put, List.setIfInBounds_toArray, List.set_cons_zero, List.set_cons_succ]
      refine org_pure (v := ?_) (by kernel_rfl) ?_ ?_
      rotate_left
      · intro w' hv; clear hv; go_simp; try with_reducible rfl
      try simp only [Act.put, List.setIfInBounds_toArray, List.set_cons_zero, List.set_cons_succ]
      refine org_nil ?_
      go_wp2_with fail
      go_ret
      exact ⟨congrArg (fun b => Ending.returned (.bool b)) HR.out.symm, HB1.out⟩
  · have k1 : ¬ (1 : Int) ≤ (x.length : Int) := by omega
    have HR : Hid (goodPc (s, .slice q x.length c, x) = false) := Lib.hid (by unfold goodPc; rw [decide_eq_false h1, Bool.false_and, Bool.false_and])
    refine wp_region_org [(0, true), (1, true), (2, true), (3, true), (4, true), (5, true), (6, true), (7, true), (8, true), (9, true), (10, true), (11, true), (12, true), (15, true), (16, true), (13, false), (14, false), (17, true), (18, true), (19, true)] (by kernel_rfl) (by kernel_rfl) (by kernel_rfl) ?_
    have HB1 : Hid (Below w.heap.size w w0.drew) := Lib.hid HB0.out.drew
    have HASD : Hid (Has w0.drew g 28 (encP (s, .slice q x.length c, x))) := Lib.hid HAS.out
    have HLD : Hid (Laid w0.drew) := Lib.hid (HL.out.keep ((Below.refl w0.heap.size w0).drew) (by have := HSZ.out; have := HB0.out.size; omega))
    have HBSD : Hid (Bs w0.drew (.slice q x.length c) x) := Lib.hid HBS0.out
    clear HAS HL HBS0 HBS HB0
    generalize w0.drew = wd at *
    have HC32 : Hid (∀ w', Ext wd w' → w'.cell? ⟨g, 32, none⟩ = some (.slice q x.length c)) := Lib.hid (fun w' hv => (HASD.out.keep hv HASD.out.lt).cellv HC0.out)
    have HCU : Hid (∀ w', Ext wd w' → ∀ j u, (encU s)[j]? = some u → w'.cell? ((⟨g, 0, none⟩ : Addr).add j) = some u) := Lib.hid (fun w' hv j u hu => by rw [add_lit', Nat.zero_add]; exact (HASD.out.keep hv HASD.out.lt).cellv (HCS.out j u hu))
    clear HASD HC0 HCS
    simp only [pickOrs, List.getElem?_cons_zero, List.getElem?_cons_succ]
    refine org_pure (v := ?_) (by kernel_rfl) ?_ ?_
    rotate_left
    · intro w' hv; clear hv; go_simp; try with_reducible rfl
    try simp only [Act.put, List.setIfInBounds_toArray, List.set_cons_zero, List.set_cons_succ]
    refine org_pure (v := ?_) (by kernel_rfl) ?_ ?_
    rotate_left
    · intro w' hv; have c32 := HC32.out _ hv; clear hv; go_simp; try with_reducible rfl
    try simp only [Act.put, List.setIfInBounds_toArray, List.set_cons_zero, List.set_cons_succ]
    refine org_pure (v := ?_) (by kernel_rfl) ?_ ?_
    rotate_left
    · intro w' hv; clear hv; go_simp; try with_reducible rfl
    try simp only [Act.put, List.setIfInBounds_toArray, List.set_cons_zero, List.set_cons_succ]
    refine org_pure (v := ?_) (by kernel_rfl) ?_ ?_
    rotate_left
    · intro w' hv; clear hv; go_simp; try with_reducible rfl
    try simp only [Act.put, List.setIfInBounds_toArray, List.set_cons_zero, List.set_cons_succ]
    refine org_pure (v := ?_) (by kernel_rfl) ?_ ?_
    rotate_left
    · intro w' hv; clear hv; go_simp; try with_reducible rfl
    try simp only [Act.put, List.setIfInBounds_toArray, List.set_cons_zero, List.set_cons_succ]
    refine org_skip (by kernel_rfl) ?_
    try simp only [Act.put, List.setIfInBounds_toArray, List.set_cons_zero, List.set_cons_succ]
    refine org_skip (by kernel_rfl) ?_
    try simp only [Act.put, List.setIfInBounds_toArray, List.set_cons_zero, List.set_cons_succ]
    refine org_skip (by kernel_rfl) ?_
    try simp only [Act.put, List.setIfInBounds_toArray, List.set_cons_zero, List.set_cons_succ]
    refine org_skip (by kernel_rfl) ?_
    try simp only [Act.put, List.setIfInBounds_toArray, List.set_cons_zero, List.set_cons_succ]
    refine org_pure (v := ?_) (by kernel_rfl) ?_ ?_
    rotate_left
    · intro w' hv; clear hv; go_simp; try with_reducible rfl
    try simp only [Act.put, List.setIfInBounds_toArray, List.set_cons_zero, List.set_cons_succ]
    refine org_pure (v := ?_) (by kernel_rfl) ?_ ?_
    rotate_left
    · intro w' hv; clear hv; go_simp; try with_reducible rfl
    try simp only [Act.put, List.setIfInBounds_toArray, List.set_cons_zero, List.set_cons_succ]
    refine org_skip (by kernel_rfl) ?_
    try simp only [Act.put, List.setIfInBounds_toArray, List.set_cons_zero, List.set_cons_succ]
    refine org_skip (by kernel_rfl) ?_
    try simp only [Act.put, List.setIfInBounds_toArray, List.set_cons_zero, List.set_cons_succ]
    refine org_skip (by kernel_rfl) ?_
    try simp only [Act.put, List.setIfInBounds_toArray, List.set_cons_zero, List.set_cons_succ]
    refine org_skip (by kernel_rfl) ?_
    try simp only [Act.put, List.setIfInBounds_toArray, List.set_cons_zero, List.set_cons_succ]
    refine org_pass (by kernel_rfl) ?_
    try simp only [Act.put, List.setIfInBounds_toArray, List.set_cons_zero, List.set_cons_succ]
    refine org_pass (by kernel_rfl) ?_
    try simp only [Act.put, List.setIfInBounds_toArray, List.set_cons_zero, List.set_cons_succ]
    refine org_skip (by kernel_rfl) ?_
    try simp only [Act.put, List.setIfInBounds_toArray, List.set_cons_zero, List.set_cons_succ]
    refine org_pure (v := ?_) (by kernel_rfl) ?_ ?_
    rotate_left
    · intro w' hv; clear hv; go_simp; try with_reducible rfl
    try simp only [Act.put, List.setIfInBounds_toArray, List.set_cons_zero, List.set_cons_succ]
    refine org_pure (v := ?_) (by kernel_rfl) ?_ ?_
    rotate_left
    · intro w' hv; clear hv; go_simp; try with_reducible rfl
    try simp only [Act.put, List.setIfInBounds_toArray, List.set_cons_zero, List.set_cons_succ]
    refine org_nil ?_
    go_wp2_with fail
    go_ret
    exact ⟨congrArg (fun b => Ending.returned (.bool b)) HR.out.symm, HB1.out⟩
end Go.Proofs.YthpledfjopbchaaDoor
