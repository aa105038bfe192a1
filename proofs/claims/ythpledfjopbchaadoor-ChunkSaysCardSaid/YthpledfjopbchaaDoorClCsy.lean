/- Any bytes, any pieces: package chunk answers as the document says (ChunkSays): the law returns true. No condition. -/
import Derived.Test.YthpledfjopbchaaDoorBe1
import Derived.Test.YthpledfjopbchaaDoorBf1
import Derived.MapKept
import Derived.WideMake
import Derived.WideKeyArr
import Derived.WideKeyArr2
import Derived.Test.YthpledfjopbchaaDoorBb1
import Derived.Test.YthpledfjopbchaaDoorCards
import Derived.Test.YthpledfjopbchaaDoorTie
import Derived.ShutString
import Derived.ChangeOld
import Derived.SevenTiedAt
/- Contract: the document's own GoodPiece. Condition: fewer than 10^12 bytes; the sums' tables are laid (not used). -/
namespace Go.Proofs.YthpledfjopbchaaDoor
open Go.RowKit
theorem rof_of {w : World} {v : Value} {x : List (BitVec 8)} (h : Bs w v x) (hx : x.length ≤ 1000000) :
    Calls Tryd.prog 36 #[v] w fun e w' => e = .returned (.agg (encU (shaU x)).toArray) ∧ Below w.heap.size w w' := by
  obtain ⟨q, c, rfl, _, hq, hs⟩ := h
  exact rof_any x q c w hs hq (by omega)
set_option maxHeartbeats 4000000 in
set_option maxRecDepth 100000 in
theorem rgoodp_any (p : Pc) (w : World) (hb : Bs w p.2.1 p.2.2) (hn : p.2.2.length < 1000000000000) (hL : Laid w) :
    Calls Tryd.prog 19 #[.agg (encP p).toArray] w fun e w' => e = .returned (.bool (goodPc p)) ∧ Below w.heap.size w w' := by
  obtain ⟨s, v, x⟩ := p
  obtain ⟨q, c, hv, hc, hq, hs⟩ := hb
  simp only [] at hv hc hs hn
  subst hv
  have HB0 := Lib.hid ((Below.refl w.heap.size w).alloc (Nat.le_refl _) (.cells (encP (s, .slice q x.length c, x)).toArray 48))
  have HAS : Hid (Has (w.alloc (.cells (encP (s, .slice q x.length c, x)).toArray 48)) w.heap.size 48 (encP (s, .slice q x.length c, x))) := Lib.hid (Has.made' w _ _ _ rfl)
  have HBS : Hid (Bs w (.slice q x.length c) x) := Lib.hid ⟨q, c, rfl, hc, hq, hs⟩
  have HL := Lib.hid (hL.keep HB0.out hL.size)
  have HSZ := Lib.hid hL.size
  clear hs hL hc hq
  go_enter Tryd.func19, Tryd.ntmps19
  go_upto_region 1 with fail
  have HC0 : Hid ((encP (s, .slice q x.length c, x))[32]? = some (.slice q x.length c)) := Lib.hid (encP_b (s, .slice q x.length c, x))
  have HCS : Hid (∀ j u, (encU s)[j]? = some u → (encP (s, .slice q x.length c, x))[j]? = some u) := Lib.hid (fun j u h => encP_su (p := (s, .slice q x.length c, x)) h)
  have HBS0 := Lib.hid (HBS.out.keep HB0.out)
  have HE := Lib.hid (⟨rfl, rfl⟩ : (encP (s, .slice q x.length c, x)).length = (encP (s, .slice q x.length c, x)).length ∧ True = True)
  clear HE
  generalize hw0 : w.alloc (.cells (encP (s, .slice q x.length c, x)).toArray 48) = w0 at *
  clear hw0
  have HG := Lib.hid HAS.out.lt
  obtain ⟨g, hg⟩ : ∃ g, g = w.heap.size := ⟨_, rfl⟩
  rw [← hg] at HAS HG ⊢
  have HGE := Lib.hid hg
  clear hg
  by_cases h1 : 1 ≤ x.length
  · have k1 : (1 : Int) ≤ (x.length : Int) := by omega
    by_cases h2 : x.length ≤ 128
    · have k2 : (x.length : Int) ≤ 128 := by omega
      have HR : Hid (goodPc (s, .slice q x.length c, x) = decide (shaU x = s)) := Lib.hid (by unfold goodPc; rw [decide_eq_true h1, decide_eq_true h2]; rfl)
      refine wp_region_org [(0, true), (1, true), (2, true), (3, true), (4, true), (5, true), (6, true), (7, true), (8, true), (9, true), (10, true), (11, true), (12, true), (14, true), (15, true), (13, false), (16, true), (17, true), (18, true)] (by kernel_rfl) (by kernel_rfl) (by kernel_rfl) ?_
      have HB1 : Hid (Below w.heap.size w w0.drew) := Lib.hid HB0.out.drew
      have HASD : Hid (Has w0.drew g 48 (encP (s, .slice q x.length c, x))) := Lib.hid HAS.out
      have HLD : Hid (Laid w0.drew) := Lib.hid (HL.out.keep ((Below.refl w0.heap.size w0).drew) (by have := HSZ.out; have := HB0.out.size; omega))
      have HBSD : Hid (Bs w0.drew (.slice q x.length c) x) := Lib.hid HBS0.out
      clear HAS HL HBS0 HBS HB0
      generalize w0.drew = wd at *
      have HC32 : Hid (∀ w', Ext wd w' → w'.cell? ⟨g, 32, none⟩ = some (.slice q x.length c)) := Lib.hid (fun w' hv => (HASD.out.keep hv HASD.out.lt).cellv HC0.out)
      have HCU : Hid (∀ w', Ext wd w' → ∀ j u, (encU s)[j]? = some u → w'.cell? ((⟨g, 0, none⟩ : Addr).add j) = some u) := Lib.hid (fun w' hv j u hu => by rw [add_lit', Nat.zero_add]; exact (HASD.out.keep hv HASD.out.lt).cellv (HCS.out j u hu))
      clear HASD HC0 HCS
      simp only [pickOrs, List.getElem?_cons_zero, List.getElem?_cons_succ]
      refine org_pure (v := ?_) (by kernel_rfl) ?_ ?_
      rotate_left
      · intro w' hv; clear hv; go_simp; try with_reducible rfl
      try simp only [Act.put, List.setIfInBounds_toArray, List.set_cons_zero, List.set_cons_succ]
      refine org_pure (v := ?_) (by kernel_rfl) ?_ ?_
      rotate_left
      · intro w' hv; have c32 := HC32.out _ hv; clear hv; go_simp; try with_reducible rfl
      try simp only [Act.put, List.setIfInBounds_toArray, List.set_cons_zero, List.set_cons_succ]
      refine org_pure (v := ?_) (by kernel_rfl) ?_ ?_
      rotate_left
      · intro w' hv; clear hv; go_simp; try with_reducible rfl
      try simp only [Act.put, List.setIfInBounds_toArray, List.set_cons_zero, List.set_cons_succ]
      refine org_pure (v := ?_) (by kernel_rfl) ?_ ?_
      rotate_left
      · intro w' hv; clear hv; go_simp; try with_reducible rfl
      try simp only [Act.put, List.setIfInBounds_toArray, List.set_cons_zero, List.set_cons_succ]
      refine org_pure (v := ?_) (by kernel_rfl) ?_ ?_
      rotate_left
      · intro w' hv; clear hv; go_simp; try with_reducible rfl
      try simp only [Act.put, List.setIfInBounds_toArray, List.set_cons_zero, List.set_cons_succ]
      refine org_pure (v := ?_) (by kernel_rfl) ?_ ?_
      rotate_left
      · intro w' hv; clear hv; go_simp; try with_reducible rfl
      try simp only [Act.put, List.setIfInBounds_toArray, List.set_cons_zero, List.set_cons_succ]
      refine org_pure (v := ?_) (by kernel_rfl) ?_ ?_
      rotate_left
      · intro w' hv; have c32 := HC32.out _ hv; clear hv; go_simp; try with_reducible rfl
      try simp only [Act.put, List.setIfInBounds_toArray, List.set_cons_zero, List.set_cons_succ]
      refine org_pure (v := ?_) (by kernel_rfl) ?_ ?_
      rotate_left
      · intro w' hv; clear hv; go_simp; try with_reducible rfl
      try simp only [Act.put, List.setIfInBounds_toArray, List.set_cons_zero, List.set_cons_succ]
      refine org_pure (v := ?_) (by kernel_rfl) ?_ ?_
      rotate_left
      · intro w' hv; clear hv; go_simp; try with_reducible rfl
      try simp only [Act.put, List.setIfInBounds_toArray, List.set_cons_zero, List.set_cons_succ]
      refine org_pure (v := ?_) (by kernel_rfl) ?_ ?_
      rotate_left
      · intro w' hv; clear hv; go_simp; try with_reducible rfl
      try simp only [Act.put, List.setIfInBounds_toArray, List.set_cons_zero, List.set_cons_succ]
      refine org_pure (v := ?_) (by kernel_rfl) ?_ ?_
      rotate_left
      · intro w' hv; clear hv; go_simp; try with_reducible rfl
      try simp only [Act.put, List.setIfInBounds_toArray, List.set_cons_zero, List.set_cons_succ]
      refine org_pure (v := ?_) (by kernel_rfl) ?_ ?_
      rotate_left
      · intro w' hv; clear hv; go_simp; try with_reducible rfl
      try simp only [Act.put, List.setIfInBounds_toArray, List.set_cons_zero, List.set_cons_succ]
      refine org_pure (v := ?_) (by kernel_rfl) ?_ ?_
      rotate_left
      · intro w' hv; have c32 := HC32.out _ hv; clear hv; go_simp; try with_reducible rfl
      try simp only [Act.put, List.setIfInBounds_toArray, List.set_cons_zero, List.set_cons_succ]
      refine org_pure (v := ?_) (by kernel_rfl) ?_ ?_
      rotate_left
      · intro w' hv; clear hv; go_simp; try with_reducible rfl
      try simp only [Act.put, List.setIfInBounds_toArray, List.set_cons_zero, List.set_cons_succ]
      refine org_pure (by kernel_rfl) (fun w' hv => load_su 46 (.tmp 17) rfl ⟨g, 0, none⟩ rfl elRef.2.1 szRef s (HCU.out _ hv)) ?_
      try simp only [Act.put, List.setIfInBounds_toArray, List.set_cons_zero, List.set_cons_succ]
      have HOF := Lib.hid (rof_of HBSD.out (by omega))
      refine org_step (by kernel_rfl) (fun K hK => ?_)
      go_wp2_with fail
      refine Calls.mono HOF.out ?_
      rintro e wx ⟨rfl, hb⟩
      have HE := Lib.hid hb
      refine hK _ _ ⟨hb, ?_⟩
      clear hK hb
      try simp only [Act.put, List.setIfInBounds_toArray, List.set_cons_zero, List.set_cons_succ]
      refine org_pure (by kernel_rfl) (fun w' hv => eql_su 46 (.tmp 16) (.tmp 18) _ rfl (shaU x) s rfl rfl elRef.2.1 gdRef) ?_
      try simp only [Act.put, List.setIfInBounds_toArray, List.set_cons_zero, List.set_cons_succ]
      refine org_pure (v := ?_) (by kernel_rfl) ?_ ?_
      rotate_left
      · intro w' hv; clear hv; go_simp; try with_reducible rfl
      try simp only [Act.put, List.setIfInBounds_toArray, List.set_cons_zero, List.set_cons_succ]
      refine org_pure (v := ?_) (by kernel_rfl) ?_ ?_
      rotate_left
      · intro w' hv; clear hv; go_simp; try with_reducible rfl
      try simp only [Act.put, List.setIfInBounds_toArray, List.set_cons_zero, List.set_cons_succ]
      refine org_nil ?_
      go_wp2_with fail
      go_ret
      exact ⟨congrArg (fun b => Ending.returned (.bool b)) HR.out.symm, HB1.out.trans (HE.out.mono HB1.out.size)⟩
    · have k2 : ¬ (x.length : Int) ≤ 128 := by omega
      have HR : Hid (goodPc (s, .slice q x.length c, x) = false) := Lib.hid (by unfold goodPc; rw [decide_eq_false h2, Bool.and_false, Bool.false_and])
      refine wp_region_org [(0, true), (1, true), (2, true), (3, true), (4, true), (5, true), (6, true), (7, true), (8, true), (9, true), (10, true), (11, true), (12, true), (14, true), (15, true), (13, false), (16, true), (17, true), (18, true)] (by kernel_rfl) (by kernel_rfl) (by kernel_rfl) ?_
      have HB1 : Hid (Below w.heap.size w w0.drew) := Lib.hid HB0.out.drew
      have HASD : Hid (Has w0.drew g 48 (encP (s, .slice q x.length c, x))) := Lib.hid HAS.out
      have HLD : Hid (Laid w0.drew) := Lib.hid (HL.out.keep ((Below.refl w0.heap.size w0).drew) (by have := HSZ.out; have := HB0.out.size; omega))
      have HBSD : Hid (Bs w0.drew (.slice q x.length c) x) := Lib.hid HBS0.out
      clear HAS HL HBS0 HBS HB0
      generalize w0.drew = wd at *
      have HC32 : Hid (∀ w', Ext wd w' → w'.cell? ⟨g, 32, none⟩ = some (.slice q x.length c)) := Lib.hid (fun w' hv => (HASD.out.keep hv HASD.out.lt).cellv HC0.out)
      have HCU : Hid (∀ w', Ext wd w' → ∀ j u, (encU s)[j]? = some u → w'.cell? ((⟨g, 0, none⟩ : Addr).add j) = some u) := Lib.hid (fun w' hv j u hu => by rw [add_lit', Nat.zero_add]; exact (HASD.out.keep hv HASD.out.lt).cellv (HCS.out j u hu))
      clear HASD HC0 HCS
      simp only [pickOrs, List.getElem?_cons_zero, List.getElem?_cons_succ]
      refine org_pure (v := ?_) (by kernel_rfl) ?_ ?_
      rotate_left
      · intro w' hv; clear hv; go_simp; try with_reducible rfl
      try simp only [Act.put, List.setIfInBounds_toArray, List.set_cons_zero, List.set_cons_succ]
      refine org_pure (v := ?_) (by kernel_rfl) ?_ ?_
      rotate_left
      · intro w' hv; have c32 := HC32.out _ hv; clear hv; go_simp; try with_reducible rfl
      try simp only [Act.put, List.setIfInBounds_toArray, List.set_cons_zero, List.set_cons_succ]
      refine org_pure (v := ?_) (by kernel_rfl) ?_ ?_
      rotate_left
      · intro w' hv; clear hv; go_simp; try with_reducible rfl
      try simp only [Act.put, List.setIfInBounds_toArray, List.set_cons_zero, List.set_cons_succ]
      refine org_pure (v := ?_) (by kernel_rfl) ?_ ?_
      rotate_left
      · intro w' hv; clear hv; go_simp; try with_reducible rfl
      try simp only [Act.put, List.setIfInBounds_toArray, List.set_cons_zero, List.set_cons_succ]
      refine org_pure (v := ?_) (by kernel_rfl) ?_ ?_
      rotate_left
      · intro w' hv; clear hv; go_simp; try with_reducible rfl
      try simp only [Act.put, List.setIfInBounds_toArray, List.set_cons_zero, List.set_cons_succ]
      refine org_pure (v := ?_) (by kernel_rfl) ?_ ?_
      rotate_left
      · intro w' hv; clear hv; go_simp; try with_reducible rfl
      try simp only [Act.put, List.setIfInBounds_toArray, List.set_cons_zero, List.set_cons_succ]
      refine org_pure (v := ?_) (by kernel_rfl) ?_ ?_
      rotate_left
      · intro w' hv; have c32 := HC32.out _ hv; clear hv; go_simp; try with_reducible rfl
      try simp only [Act.put, List.setIfInBounds_toArray, List.set_cons_zero, List.set_cons_succ]
      refine org_pure (v := ?_) (by kernel_rfl) ?_ ?_
      rotate_left
      · intro w' hv; clear hv; go_simp; try with_reducible rfl
      try simp only [Act.put, List.setIfInBounds_toArray, List.set_cons_zero, List.set_cons_succ]
      refine org_pure (v := ?_) (by kernel_rfl) ?_ ?_
      rotate_left
      · intro w' hv; clear hv; go_simp; try with_reducible rfl
      try simp only [Act.put, List.setIfInBounds_toArray, List.set_cons_zero, List.set_cons_succ]
      refine org_pure (v := ?_) (by kernel_rfl) ?_ ?_
      rotate_left
      · intro w' hv; clear hv; go_simp; try with_reducible rfl
      try simp only [Act.put, List.setIfInBounds_toArray, List.set_cons_zero, List.set_cons_succ]
      refine org_pure (v := ?_) (by kernel_rfl) ?_ ?_
      rotate_left
      · intro w' hv; clear hv; go_simp; try with_reducible rfl
      try simp only [Act.put, List.setIfInBounds_toArray, List.set_cons_zero, List.set_cons_succ]
      refine org_skip (by kernel_rfl) ?_
      try simp only [Act.put, List.setIfInBounds_toArray, List.set_cons_zero, List.set_cons_succ]
      refine org_skip (by kernel_rfl) ?_
      try simp only [Act.put, List.setIfInBounds_toArray, List.set_cons_zero, List.set_cons_succ]
      refine org_skip (by kernel_rfl) ?_
      try simp only [Act.put, List.setIfInBounds_toArray, List.set_cons_zero, List.set_cons_succ]
      refine org_skip (by kernel_rfl) ?_
      try simp only [Act.put, List.setIfInBounds_toArray, List.set_cons_zero, List.set_cons_succ]
      refine org_pass (by kernel_rfl) ?_
      try simp only [Act.put, List.setIfInBounds_toArray, List.set_cons_zero, List.set_cons_succ]
      refine org_skip (by kernel_rfl) ?_
      try simp only [Act.put, List.setIfInBounds_toArray, List.set_cons_zero, List.set_cons_succ]
      refine org_pure (v := ?_) (by kernel_rfl) ?_ ?_
      rotate_left
      · intro w' hv; clear hv; go_simp; try with_reducible rfl
      try simp only [Act.put, List.setIfInBounds_toArray, List.set_cons_zero, List.set_cons_succ]
      refine org_pure (v := ?_) (by kernel_rfl) ?_ ?_
      rotate_left
      · intro w' hv; clear hv; go_simp; try with_reducible rfl
      try simp only [Act.put, List.setIfInBounds_toArray, List.set_cons_zero, List.set_cons_succ]
      refine org_nil ?_
      go_wp2_with fail
      go_ret
      exact ⟨congrArg (fun b => Ending.returned (.bool b)) HR.out.symm, HB1.out⟩
  · have k1 : ¬ (1 : Int) ≤ (x.length : Int) := by omega
    have HR : Hid (goodPc (s, .slice q x.length c, x) = false) := Lib.hid (by unfold goodPc; rw [decide_eq_false h1, Bool.false_and, Bool.false_and])
    refine wp_region_org [(0, true), (1, true), (2, true), (3, true), (4, true), (5, true), (6, true), (7, true), (8, true), (9, true), (10, true), (11, true), (12, true), (14, true), (15, true), (13, false), (16, true), (17, true), (18, true)] (by kernel_rfl) (by kernel_rfl) (by kernel_rfl) ?_
    have HB1 : Hid (Below w.heap.size w w0.drew) := Lib.hid HB0.out.drew
    have HASD : Hid (Has w0.drew g 48 (encP (s, .slice q x.length c, x))) := Lib.hid HAS.out
    have HLD : Hid (Laid w0.drew) := Lib.hid (HL.out.keep ((Below.refl w0.heap.size w0).drew) (by have := HSZ.out; have := HB0.out.size; omega))
    have HBSD : Hid (Bs w0.drew (.slice q x.length c) x) := Lib.hid HBS0.out
    clear HAS HL HBS0 HBS HB0
    generalize w0.drew = wd at *
    have HC32 : Hid (∀ w', Ext wd w' → w'.cell? ⟨g, 32, none⟩ = some (.slice q x.length c)) := Lib.hid (fun w' hv => (HASD.out.keep hv HASD.out.lt).cellv HC0.out)
    have HCU : Hid (∀ w', Ext wd w' → ∀ j u, (encU s)[j]? = some u → w'.cell? ((⟨g, 0, none⟩ : Addr).add j) = some u) := Lib.hid (fun w' hv j u hu => by rw [add_lit', Nat.zero_add]; exact (HASD.out.keep hv HASD.out.lt).cellv (HCS.out j u hu))
    clear HASD HC0 HCS
    simp only [pickOrs, List.getElem?_cons_zero, List.getElem?_cons_succ]
    refine org_pure (v := ?_) (by kernel_rfl) ?_ ?_
    rotate_left
    · intro w' hv; clear hv; go_simp; try with_reducible rfl
    try simp only [Act.put, List.setIfInBounds_toArray, List.set_cons_zero, List.set_cons_succ]
    refine org_pure (v := ?_) (by kernel_rfl) ?_ ?_
    rotate_left
    · intro w' hv; have c32 := HC32.out _ hv; clear hv; go_simp; try with_reducible rfl
    try simp only [Act.put, List.setIfInBounds_toArray, List.set_cons_zero, List.set_cons_succ]
    refine org_pure (v := ?_) (by kernel_rfl) ?_ ?_
    rotate_left
    · intro w' hv; clear hv; go_simp; try with_reducible rfl
    try simp only [Act.put, List.setIfInBounds_toArray, List.set_cons_zero, List.set_cons_succ]
    refine org_pure (v := ?_) (by kernel_rfl) ?_ ?_
    rotate_left
    · intro w' hv; clear hv; go_simp; try with_reducible rfl
    try simp only [Act.put, List.setIfInBounds_toArray, List.set_cons_zero, List.set_cons_succ]
    refine org_pure (v := ?_) (by kernel_rfl) ?_ ?_
    rotate_left
    · intro w' hv; clear hv; go_simp; try with_reducible rfl
    try simp only [Act.put, List.setIfInBounds_toArray, List.set_cons_zero, List.set_cons_succ]
    refine org_skip (by kernel_rfl) ?_
    try simp only [Act.put, List.setIfInBounds_toArray, List.set_cons_zero, List.set_cons_succ]
    refine org_skip (by kernel_rfl) ?_
    try simp only [Act.put, List.setIfInBounds_toArray, List.set_cons_zero, List.set_cons_succ]
    refine org_skip (by kernel_rfl) ?_
    try simp only [Act.put, List.setIfInBounds_toArray, List.set_cons_zero, List.set_cons_succ]
    refine org_skip (by kernel_rfl) ?_
    try simp only [Act.put, List.setIfInBounds_toArray, List.set_cons_zero, List.set_cons_succ]
    refine org_pure (v := ?_) (by kernel_rfl) ?_ ?_
    rotate_left
    · intro w' hv; clear hv; go_simp; try with_reducible rfl
    try simp only [Act.put, List.setIfInBounds_toArray, List.set_cons_zero, List.set_cons_succ]
    refine org_pure (v := ?_) (by kernel_rfl) ?_ ?_
    rotate_left
    · intro w' hv; clear hv; go_simp; try with_reducible rfl
    try simp only [Act.put, List.setIfInBounds_toArray, List.set_cons_zero, List.set_cons_succ]
    refine org_skip (by kernel_rfl) ?_
    try simp only [Act.put, List.setIfInBounds_toArray, List.set_cons_zero, List.set_cons_succ]
    refine org_skip (by kernel_rfl) ?_
    try simp only [Act.put, List.setIfInBounds_toArray, List.set_cons_zero, List.set_cons_succ]
    refine org_skip (by kernel_rfl) ?_
    try simp only [Act.put, List.setIfInBounds_toArray, List.set_cons_zero, List.set_cons_succ]
    refine org_skip (by kernel_rfl) ?_
    try simp only [Act.put, List.setIfInBounds_toArray, List.set_cons_zero, List.set_cons_succ]
    refine org_pass (by kernel_rfl) ?_
    try simp only [Act.put, List.setIfInBounds_toArray, List.set_cons_zero, List.set_cons_succ]
    refine org_skip (by kernel_rfl) ?_
    try simp only [Act.put, List.setIfInBounds_toArray, List.set_cons_zero, List.set_cons_succ]
    refine org_pure (v := ?_) (by kernel_rfl) ?_ ?_
    rotate_left
    · intro w' hv; clear hv; go_simp; try with_reducible rfl
    try simp only [Act.put, List.setIfInBounds_toArray, List.set_cons_zero, List.set_cons_succ]
    refine org_pure (v := ?_) (by kernel_rfl) ?_ ?_
    rotate_left
    · intro w' hv; clear hv; go_simp; try with_reducible rfl
    try simp only [Act.put, List.setIfInBounds_toArray, List.set_cons_zero, List.set_cons_succ]
    refine org_nil ?_
    go_wp2_with fail
    go_ret
    exact ⟨congrArg (fun b => Ending.returned (.bool b)) HR.out.symm, HB1.out⟩
end Go.Proofs.YthpledfjopbchaaDoor
/- Contracts: the law's own pieces, names and sums (as the document's), compared. Conditions: at most a million each. -/
namespace Go.Proofs.YthpledfjopbchaaDoor
open Go.RowKit
theorem elRpc : ElP 40 48 := ⟨Tryd.underlying40, ⟨_, Tryd.underlying48⟩, by kernel_rfl⟩
theorem built_rpc (s : Su) (q : Option Addr) (n c : Nat) (x : List (BitVec 8)) : Tryd.prog.built 48 [(0, .agg (encU s).toArray), (1, .slice q n c)] = some (encP (s, .slice q n c, x)).toArray := by
  obtain ⟨l, hl⟩ := s
  unfold encP encU
  match l, hl with
  | [a0, a1, a2, a3, a4, a5, a6, a7, a8, a9, b0, b1, b2, b3, b4, b5, b6, b7, b8, b9, c0, c1, c2, c3, c4, c5, c6, c7, c8, c9, d0, d1], _ => show _ = _; kernel_rfl
theorem pc_ones {w : World} {p : Pc} (h : Bs w p.2.1 p.2.2) : ∀ v ∈ rowP [p], v.oneCell' = true := rowP_ones (w := w) (fun x hx => by rw [List.mem_singleton.1 hx]; exact h)
set_option maxHeartbeats 4000000 in
set_option maxRecDepth 100000 in
theorem pieces_any (L : List Pc) (q : Option Addr) (c : Nat) (w : World) (hm : L.length ≤ 1000000) (hs : Sees w w.heap.size q (rowP L)) (hb : Pcb w L) :
    Calls Tryd.prog 20 #[.slice q L.length c] w fun e w' => (∃ v, e = .returned v ∧ OwnP w' w.heap.size 48 v L) ∧ Below w.heap.size w w' := by
  have HS := Lib.hid hs
  have HP := Lib.hid hb
  have HNIL := Lib.hid (OwnP.nil w w.heap.size 48)
  clear hs hb
  go_enter Tryd.func20, Tryd.ntmps20
  go_upto_region 3 with fail
  go_loopw [3, 4] (fun v vi wr => ∃ j : Nat, j ≤ L.length ∧ vi = .int .i64 j ∧ OwnP wr w.heap.size 48 v (L.take j) ∧ Below w.heap.size w wr) (fun _ vi _ => L.length - (intOf vi).toNat)
  case atStart => exact ⟨0, by omega, rfl, HNIL.out, Below.refl _ _⟩
  case round =>
    clear HNIL
    rename_i wr
    obtain ⟨j, hj, rfl, hrow, hB⟩ := hrel
    have HROW := Lib.hid hrow
    have HB := Lib.hid hB
    clear hrow hB
    by_cases hlt : j < L.length
    · obtain ⟨ad, rfl, _, hcell⟩ := Sees.pc HS.out hlt
      have hbs := HP.out L[j] (List.getElem_mem hlt)
      have HTK : Hid (L.take (j + 1) = L.take j ++ [L[j]]) := Lib.hid (by rw [List.take_add_one, List.getElem?_eq_getElem hlt]; rfl)
      obtain ⟨p, hp⟩ : ∃ p, p = L[j] := ⟨_, rfl⟩
      rw [← hp] at hcell hbs HTK
      have HBS := Lib.hid hbs
      obtain ⟨s, v, x⟩ := p
      obtain ⟨qx, cx, hv, _, _, _⟩ := hbs
      simp only [] at hv
      subst hv
      have HBD := Lib.hid (built_rpc s qx x.length cx x)
      have HONE := Lib.hid (pc_ones HBS.out)
      have kk : (j : Int) < (L.length : Int) := by omega
      have kll : j < 1000000 := by omega
      have HLEN : Hid ((L.take j).length + 1 ≤ 2000000) := Lib.hid (by rw [List.length_take]; omega)
      have HCU : Hid (∀ w', Below w.heap.size wr.drew w' → ∀ k u, (encU s)[k]? = some u → w'.cell? ((ad.add (j * 33)).add k) = some u) := Lib.hid (fun w' h k u hu => hcell w' (HB.out.drew.trans h) k u (encP_su (p := (s, .slice qx x.length cx, x)) hu))
      have HC32 : Hid (∀ w', Below w.heap.size wr.drew w' → w'.cell? ⟨(ad.add (j * 33)).block, (ad.add (j * 33)).off + 32, none⟩ = some (.slice qx x.length cx)) := Lib.hid (fun w' h => hcell w' (HB.out.drew.trans h) 32 _ (encP_b _))
      clear hcell hp
      go_upto_region 5 with fail
      refine wp_region_ors (fun w' => Below w.heap.size wr.drew w') [(0, true), (1, true), (2, true), (3, true), (4, true), (5, true), (6, true), (7, true), (8, true), (9, true), (10, true), (11, true), (12, false), (13, false), (14, true)] (by kernel_rfl) (by kernel_rfl) (by kernel_rfl) (Below.refl _ _) ?_
      replace HROW : Hid (OwnP wr.drew w.heap.size 48 _ (L.take j)) := Lib.hid HROW.out
      replace HB := Lib.hid HB.out.drew
      generalize wr.drew = wd at *
      simp only [pickOrs, List.getElem?_cons_zero, List.getElem?_cons_succ]
      refine ors_pure (v := ?_) (by kernel_rfl) ?_ ?_
      rotate_left
      · intro w' hv; clear hv; go_simp; try with_reducible rfl
      try simp only [Act.put, List.setIfInBounds_toArray, List.set_cons_zero, List.set_cons_succ]
      refine ors_pure (v := ?_) (by kernel_rfl) ?_ ?_
      rotate_left
      · intro w' hv; clear hv; go_simp; try with_reducible rfl
      try simp only [Act.put, List.setIfInBounds_toArray, List.set_cons_zero, List.set_cons_succ]
      refine ors_pure (v := ?_) (by kernel_rfl) ?_ ?_
      rotate_left
      · intro w' hv; clear hv; go_simp; try with_reducible rfl
      try simp only [Act.put, List.setIfInBounds_toArray, List.set_cons_zero, List.set_cons_succ]
      refine ors_pure (v := ?_) (by kernel_rfl) ?_ ?_
      rotate_left
      · intro w' hv; clear hv; go_simp; try with_reducible rfl
      try simp only [Act.put, List.setIfInBounds_toArray, List.set_cons_zero, List.set_cons_succ]
      refine ors_pure (v := ?_) (by kernel_rfl) ?_ ?_
      rotate_left
      · intro w' hv; clear hv; go_simp; try with_reducible rfl
      try simp only [Act.put, List.setIfInBounds_toArray, List.set_cons_zero, List.set_cons_succ]
      refine ors_pure (by kernel_rfl) (fun w' hv => load_su 24 (.tmp 15) rfl (ad.add (j * 33)) rfl elSum.2.1 szSum s (HCU.out _ hv)) ?_
      try simp only [Act.put, List.setIfInBounds_toArray, List.set_cons_zero, List.set_cons_succ]
      refine ors_pure (v := ?_) (by kernel_rfl) ?_ ?_
      rotate_left
      · intro w' hv; clear hv; go_simp; try with_reducible rfl
      try simp only [Act.put, List.setIfInBounds_toArray, List.set_cons_zero, List.set_cons_succ]
      refine ors_pure (v := ?_) (by kernel_rfl) ?_ ?_
      rotate_left
      · intro w' hv; clear hv; go_simp; try with_reducible rfl
      try simp only [Act.put, List.setIfInBounds_toArray, List.set_cons_zero, List.set_cons_succ]
      refine ors_pure (v := ?_) (by kernel_rfl) ?_ ?_
      rotate_left
      · intro w' hv; clear hv; go_simp; try with_reducible rfl
      try simp only [Act.put, List.setIfInBounds_toArray, List.set_cons_zero, List.set_cons_succ]
      refine ors_pure (v := ?_) (by kernel_rfl) ?_ ?_
      rotate_left
      · intro w' hv; clear hv; go_simp; try with_reducible rfl
      try simp only [Act.put, List.setIfInBounds_toArray, List.set_cons_zero, List.set_cons_succ]
      refine ors_pure (v := ?_) (by kernel_rfl) ?_ ?_
      rotate_left
      · intro w' hv; have c32 := HC32.out w' hv; clear hv; go_simp; try with_reducible rfl
      try simp only [Act.put, List.setIfInBounds_toArray, List.set_cons_zero, List.set_cons_succ]
      refine ors_pure (by kernel_rfl) (fun w' hv => build_cells 48 _ rfl (encP (s, .slice qx x.length cx, x)).toArray [(0, .agg (encU s).toArray), (1, .slice qx x.length cx)] (by kernel_rfl) HBD.out) ?_
      try simp only [Act.put, List.setIfInBounds_toArray, List.set_cons_zero, List.set_cons_succ]
      refine ors_step (by kernel_rfl) (fun K hK => wp_one_pc 40 48 elRpc (.tmp 22) rfl (s, .slice qx x.length cx, x) rfl (hK _ _ ⟨(Below.refl _ _).alloc HB.out.size _, ?_⟩))
      try simp only [Act.put, List.setIfInBounds_toArray, List.set_cons_zero, List.set_cons_succ]
      have HROWA := Lib.hid (HROW.out.keep ((Below.refl wd.heap.size wd).alloc (Nat.le_refl _) (.cells (encP (s, .slice qx x.length cx, x)).toArray 48)))
      refine ors_step (by kernel_rfl) (fun K hK => wp_append_pc 40 48 elRpc (.tmp 11) (.tmp 23) rfl w.heap.size _ (L.take j) rfl HROWA.out (some ⟨wd.heap.size, 0, none⟩) [(s, .slice qx x.length cx, x)] 1 1 (wd.heap.size + 1) rfl rfl (fun h => by cases h) (Has.pc (Has.made' _ _ _ _ rfl) (by omega)) HONE.out HLEN.out (by have := HB.out.size; simp; omega) (fun v8 w8 h1 h2 => ?_))
      have HROW2 := Lib.hid h1
      have HB8 : Hid (Below w.heap.size wd w8) := Lib.hid (((Below.refl wd.heap.size wd).alloc (Nat.le_refl _) _ |>.mono HB.out.size).grown h2 (by have := HB.out.size; simp; omega) (fun k hk => HROWA.out.base k hk))
      clear h1 h2
      refine hK _ _ ⟨HB8.out, ?_⟩
      clear hK
      try simp only [Act.put, List.setIfInBounds_toArray, List.set_cons_zero, List.set_cons_succ]
      refine ors_pure (v := ?_) (by kernel_rfl) ?_ ?_
      rotate_left
      · intro w' hv; clear hv; go_simp; try with_reducible rfl
      try simp only [Act.put, List.setIfInBounds_toArray, List.set_cons_zero, List.set_cons_succ]
      refine ors_nil ?_
      go_wp2_with fail
      go_roundw
      case rel => exact ⟨j + 1, by omega, by go_num, by rw [HTK.out]; exact HROW2.out, HB.out.trans HB8.out⟩
      case measure => simp [intOf]; omega
    · have hjl : j = L.length := by omega
      subst hjl
      have kk : ¬ ((L.length : Int) < (L.length : Int)) := by omega
      have hrow := HROW.out
      rw [List.take_length] at hrow
      have HR := Lib.hid hrow
      clear hlt hrow
      go_wp2_with fail
      go_ret
      exact ⟨⟨_, rfl, HR.out⟩, HB.out⟩
set_option maxHeartbeats 4000000 in
set_option maxRecDepth 100000 in
theorem lnames_any (L : List Su) (q : Option Addr) (c : Nat) (w : World) (hm : L.length ≤ 1000000) (hs : Sees w w.heap.size q (rowU L)) :
    Calls Tryd.prog 22 #[.slice q L.length c] w fun e w' => (∃ v, e = .returned v ∧ OwnU w' w.heap.size 46 v L) ∧ Below w.heap.size w w' := by
  have HS := Lib.hid hs
  have HNIL := Lib.hid (OwnU.nil w w.heap.size 46)
  clear hs
  go_enter Tryd.func22, Tryd.ntmps22
  go_upto_region 3 with fail
  go_loopw [3, 4] (fun v vi wr => ∃ j : Nat, j ≤ L.length ∧ vi = .int .i64 j ∧ OwnU wr w.heap.size 46 v (L.take j) ∧ Below w.heap.size w wr) (fun _ vi _ => L.length - (intOf vi).toNat)
  case atStart => exact ⟨0, by omega, rfl, HNIL.out, Below.refl _ _⟩
  case round =>
    clear HNIL
    rename_i wr
    obtain ⟨j, hj, rfl, hrow, hB⟩ := hrel
    have HROW := Lib.hid hrow
    have HB := Lib.hid hB
    clear hrow hB
    by_cases hlt : j < L.length
    · obtain ⟨ad, rfl, _, hcell⟩ := Ss.el HS.out hlt
      have HTK : Hid (L.take (j + 1) = L.take j ++ [L[j]]) := Lib.hid (by rw [List.take_add_one, List.getElem?_eq_getElem hlt]; rfl)
      obtain ⟨s, hp⟩ : ∃ p, p = L[j] := ⟨_, rfl⟩
      rw [← hp] at hcell HTK
      have HC := Lib.hid (hcell wr HB.out)
      have kk : (j : Int) < (L.length : Int) := by omega
      have kll : j < 1000000 := by omega
      have HLEN : Hid ((L.take j).length + 1 ≤ 4000000) := Lib.hid (by rw [List.length_take]; omega)
      clear hcell hp
      go_upto_region 5 with fail
      refine wp_region_lit ?_
      try simp only [Act.put, List.setIfInBounds_toArray, List.set_cons_zero, List.set_cons_succ]
      refine lp_pure (v := ?_) (by kernel_rfl) ?_ ?_
      rotate_left
      · go_simp; try with_reducible rfl
      try simp only [Act.put, List.setIfInBounds_toArray, List.set_cons_zero, List.set_cons_succ]
      refine lp_pure (v := ?_) (by kernel_rfl) ?_ ?_
      rotate_left
      · go_simp; try with_reducible rfl
      try simp only [Act.put, List.setIfInBounds_toArray, List.set_cons_zero, List.set_cons_succ]
      refine lp_pure (v := ?_) (by kernel_rfl) ?_ ?_
      rotate_left
      · go_simp; try with_reducible rfl
      try simp only [Act.put, List.setIfInBounds_toArray, List.set_cons_zero, List.set_cons_succ]
      refine lp_pure (v := ?_) (by kernel_rfl) ?_ ?_
      rotate_left
      · go_simp; try with_reducible rfl
      try simp only [Act.put, List.setIfInBounds_toArray, List.set_cons_zero, List.set_cons_succ]
      refine lp_pure (by kernel_rfl) (load_su 24 (.tmp 14) rfl (ad.add (j * 32)) rfl elSum.2.1 szSum s HC.out) ?_
      try simp only [Act.put, List.setIfInBounds_toArray, List.set_cons_zero, List.set_cons_succ]
      refine wpList_one_su rfl 44 46 elRefs (.tmp 15) rfl s rfl ?_
      try simp only [Act.put, List.setIfInBounds_toArray, List.set_cons_zero, List.set_cons_succ]
      refine wpList_append_su rfl 44 46 elRefs (.tmp 11) (.tmp 16) rfl w.heap.size _ (L.take j) rfl (HROW.out.keep ((Below.refl _ _).alloc (Nat.le_refl _) _)) (some ⟨wr.heap.size, 0, none⟩) [s] 1 1 (wr.heap.size + 1) rfl rfl (fun h => by cases h) (Ss.one (Has.made' _ _ _ _ rfl) (by omega)) HLEN.out (by have := HB.out.size; simp; omega) ?_
      intro v8 w8 h1 h2
      have HROW2 := Lib.hid h1
      have HB8 := Lib.hid h2
      clear h1 h2
      try simp only [Act.put, List.setIfInBounds_toArray, List.set_cons_zero, List.set_cons_succ]
      refine lp_pure (v := ?_) (by kernel_rfl) ?_ ?_
      rotate_left
      · go_simp; try with_reducible rfl
      try simp only [Act.put, List.setIfInBounds_toArray, List.set_cons_zero, List.set_cons_succ]
      refine wpList_nil ?_
      go_wp2_with fail
      go_roundw
      case rel => exact ⟨j + 1, by omega, by go_num, by rw [HTK.out]; exact HROW2.out, (HB.out.trans ((Below.refl _ _).alloc HB.out.size _)).trans HB8.out⟩
      case measure => simp [intOf]; omega
    · have hjl : j = L.length := by omega
      subst hjl
      have kk : ¬ ((L.length : Int) < (L.length : Int)) := by omega
      have hrow := HROW.out
      rw [List.take_length] at hrow
      have HR := Lib.hid hrow
      clear hlt hrow
      go_wp2_with fail
      go_ret
      exact ⟨⟨_, rfl, HR.out⟩, HB.out⟩
set_option maxHeartbeats 8000000 in
set_option maxRecDepth 100000 in
theorem lsums_any (A B : List Su) (qa qb : Option Addr) (ca cb : Nat) (hA : A.length ≤ 1000000) (w : World) (ha : Sees w w.heap.size qa (rowU A)) (hb : Sees w w.heap.size qb (rowU B)) :
    Calls Tryd.prog 16 #[.slice qa A.length ca, .slice qb B.length cb] w fun e w' => e = .returned (.bool (decide (A = B))) ∧ Below w.heap.size w w' := by
  by_cases hl : A.length = B.length
  · have HSA := Lib.hid ha
    have HSB := Lib.hid hb
    have HLL := Lib.hid hl
    clear ha hb
    rw [← hl]
    generalize hn : A.length = n at *
    have HN := Lib.hid hn
    clear hn hl
    go_enter Tryd.func16, Tryd.ntmps16
    go_wp2_with fail
    go_loopw [5] (fun v wr => ∃ i : Nat, i ≤ n ∧ v = .int .i64 i ∧ (∀ k (h1 : k < A.length) (h2 : k < B.length), k < i → A[k] = B[k]) ∧ Below w.heap.size w wr) (fun v _ => n - (intOf v).toNat)
    case atStart => exact ⟨0, by omega, rfl, fun k _ _ h => by omega, Below.refl _ _⟩
    case round =>
      rename_i wr
      obtain ⟨i, hi, rfl, hall, hB⟩ := hrel
      have HALL := Lib.hid hall
      have HB := Lib.hid hB
      clear hall hB
      by_cases hlt : i < n
      · have hiA : i < A.length := by rw [HN.out]; exact hlt
        have hiB : i < B.length := by rw [← HLL.out]; exact hlt
        obtain ⟨a, rfl, _, hc⟩ := Ss.el HSA.out hiA
        obtain ⟨b, rfl, _, hc2⟩ := Ss.el HSB.out hiB
        have HNEW : Hid (A[i] = B[i] → ∀ k (h1 : k < A.length) (h2 : k < B.length), k < i + 1 → A[k] = B[k]) := Lib.hid (fun h k h1 h2 hk => by
          by_cases e : k = i
          · subst e; exact h
          · exact HALL.out k h1 h2 (by omega))
        have HBAD : Hid (A[i] ≠ B[i] → decide (A = B) = false) := Lib.hid (fun h => decide_eq_false fun e => h (by subst e; rfl))
        generalize A[i] = x at *
        generalize B[i] = y at *
        have HC := Lib.hid hc
        have HC2 := Lib.hid hc2
        have k1 : (i : Int) < (n : Int) := by omega
        clear hc hc2
        go_wp2_with fail
        refine wp_region_org [(0, true), (1, true), (2, true), (3, true), (4, true), (5, true), (6, true), (7, true), (8, true)] (by kernel_rfl) (by kernel_rfl) (by kernel_rfl) ?_
        replace HB := Lib.hid HB.out.drew
        generalize wr.drew = wd at *
        simp only [pickOrs, List.getElem?_cons_zero, List.getElem?_cons_succ]
        refine org_pure (v := ?_) (by kernel_rfl) ?_ ?_
        rotate_left
        · intro w' hv; clear hv; go_simp; try with_reducible rfl
        try simp only [Act.put, List.setIfInBounds_toArray, List.set_cons_zero, List.set_cons_succ]
        refine org_pure (v := ?_) (by kernel_rfl) ?_ ?_
        rotate_left
        · intro w' hv; clear hv; go_simp; try with_reducible rfl
        try simp only [Act.put, List.setIfInBounds_toArray, List.set_cons_zero, List.set_cons_succ]
        refine org_pure (v := ?_) (by kernel_rfl) ?_ ?_
        rotate_left
        · intro w' hv; clear hv; go_simp; try with_reducible rfl
        try simp only [Act.put, List.setIfInBounds_toArray, List.set_cons_zero, List.set_cons_succ]
        refine org_pure (by kernel_rfl) (fun w' hv => load_su 24 (.tmp 19) rfl _ rfl elSum.2.1 szSum x ((fun w' hv => HC.out w' (HB.out.trans (Below.mono hv HB.out.size))) w' hv)) ?_
        try simp only [Act.put, List.setIfInBounds_toArray, List.set_cons_zero, List.set_cons_succ]
        refine org_pure (v := ?_) (by kernel_rfl) ?_ ?_
        rotate_left
        · intro w' hv; clear hv; go_simp; try with_reducible rfl
        try simp only [Act.put, List.setIfInBounds_toArray, List.set_cons_zero, List.set_cons_succ]
        refine org_pure (v := ?_) (by kernel_rfl) ?_ ?_
        rotate_left
        · intro w' hv; clear hv; go_simp; try with_reducible rfl
        try simp only [Act.put, List.setIfInBounds_toArray, List.set_cons_zero, List.set_cons_succ]
        refine org_pure (v := ?_) (by kernel_rfl) ?_ ?_
        rotate_left
        · intro w' hv; clear hv; go_simp; try with_reducible rfl
        try simp only [Act.put, List.setIfInBounds_toArray, List.set_cons_zero, List.set_cons_succ]
        refine org_pure (by kernel_rfl) (fun w' hv => load_su 46 (.tmp 23) rfl _ rfl elRef.2.1 szRef y ((fun w' hv => HC2.out w' (HB.out.trans (Below.mono hv HB.out.size))) w' hv)) ?_
        try simp only [Act.put, List.setIfInBounds_toArray, List.set_cons_zero, List.set_cons_succ]
        refine org_pure (by kernel_rfl) (fun w' hv => neq_su 46 (.tmp 20) (.tmp 24) _ rfl x y rfl rfl elRef.2.1 gdRef) ?_
        try simp only [Act.put, List.setIfInBounds_toArray, List.set_cons_zero, List.set_cons_succ]
        refine org_nil ?_
        by_cases hxy : x = y
        · have HN2 := Lib.hid (HNEW.out hxy)
          rw [decide_eq_true hxy]
          clear HNEW HBAD hxy
          go_wp2_with fail
          go_roundw
          case rel => exact ⟨i + 1, by omega, by go_num, HN2.out, HB.out⟩
          case measure => simp [intOf]; omega
        · have HN2 := Lib.hid (HBAD.out hxy)
          rw [decide_eq_false hxy]
          clear HNEW HBAD hxy
          go_wp2_with fail
          go_ret
          exact ⟨congrArg (fun b => Ending.returned (.bool b)) HN2.out.symm, HB.out⟩
      · have hil : i = n := by omega
        subst hil
        have HR : Hid (decide (A = B) = true) := Lib.hid (decide_eq_true (eq_at (by rw [HN.out]; exact HLL.out) fun k h1 h2 => HALL.out k h1 h2 (by rw [← HN.out]; exact h1)))
        have k1 : ¬ (i : Int) < (i : Int) := by omega
        go_wp2_with fail
        go_ret
        exact ⟨congrArg (fun b => Ending.returned (.bool b)) HR.out.symm, HB.out⟩
  · have k1 : ¬ (A.length : Int) = (B.length : Int) := by omega
    have HR : Hid (decide (A = B) = false) := Lib.hid (decide_eq_false fun e => hl (by rw [e]))
    clear ha hb hl
    generalize A.length = n at *
    generalize B.length = m at *
    go_enter Tryd.func16, Tryd.ntmps16
    go_wp2_with fail
    go_ret
    exact ⟨congrArg (fun b => Ending.returned (.bool b)) HR.out.symm, Below.refl _ _⟩
end Go.Proofs.YthpledfjopbchaaDoor
/- Contracts: the document's own Cut and Names. Conditions: at most a million bytes, no longer than their room. -/
namespace Go.Proofs.YthpledfjopbchaaDoor
open Go.RowKit
theorem run_none_u8r (w : World) : (Instr.buildSlice 26 0 #[]).run Tryd.prog w = .ok (.slice (some ⟨w.heap.size, 0, none⟩) 0 0) (w.alloc (.cells #[] 5)) := by
  obtain ⟨i0, hi, hz0, hz1, hz2⟩ := info_parts u8_info
  simp [Instr.buildSlice, run_underlying Tryd.underlying26, sizeOf, typeInfo, hi, newRow, Instr.fill]
  rw [show Array.range 0 = #[] by kernel_rfl, Array.map_empty]
section
variable {o : Oper} {a : Act} {w : World} {Q : Exit → Act → World → Prop} {K : Act → World → Prop}
theorem wp_none_u8r (ho : o.op = .buildSlice 26 0 #[])
    (h : K (a.put o.dst (.slice (some ⟨w.heap.size, 0, none⟩) 0 0)) (w.alloc (.cells #[] 5))) : o.wp Tryd.prog a w K Q := by
  unfold Oper.wp execOp
  simp only [ho, Sem.run_bind]
  rw [Array.map_empty, run_none_u8r]
  exact h
/-- Bytes put behind a row of the call's own. -/
theorem wp_append_seesK (s x : Operand)
    (ho : o.op = .call { callee := .builtin .append, args := #[s, x], argTypes := #[26, 26] })
    (base : Nat) (v : Value) (n : Nat) (xs : List Value) (hs : a.eval s = v) (hown : w.ownsRow base 5 1 v n xs)
    (q : Option Addr) (l : List (BitVec 8)) (m cap b : Nat) (hm : l.length = m) (hx : a.eval x = .slice q m cap) (hq : q = none → cap = 0) (hl : Sees w b q (l.map u8v))
    (hbytes : n + m ≤ 140737488355328) (hbase : base ≤ w.heap.size)
    (h : ∀ v' w', w'.ownsRow base 5 1 v' (n + m) (xs ++ l.map u8v) → Below base w w' → K (a.put o.dst v') w') : o.wp Tryd.prog a w K Q := by
  subst hm
  obtain ⟨i0, hi, hz0, hz1, hz2⟩ := info_parts u8_info
  rcases q with _ | ad
  · have hl0 : l = [] := by
      rcases l with _ | ⟨y, l⟩
      · rfl
      · obtain ⟨a, h1, _⟩ := hl.get (by simp)
        cases h1
    subst hl0
    obtain rfl := hq rfl
    have hrun := run_append_owned_none (P := Tryd.prog) (w := w) base 26 o.type 5 i0 1 Tryd.underlying26 hi v n xs hown
    have hx' : a.eval x = .slice none 0 0 := hx
    unfold Oper.wp
    simp [execOp, ho, resolve, invoke, builtin, hs, hx', hrun, Result.andThen]
    exact h v w (by simpa using hown) (Below.refl _ _)
  · refine wp_append_own w s x 26 ho base 5 i0 (.int .u8 0) 1 1 Tryd.underlying26 hi hz0 hz1 hz2 rfl (by decide) v n xs hs hown ad l.length cap (l.map u8v) hx (by simp) (fun j u hj => ?_) (fun u hu => ?_) (by unfold maxLen; omega) (by omega) hbase (fun v' w' h1 h2 _ => ?_)
    · obtain ⟨a', h1, _, h3⟩ := hl.get (by have := (List.getElem?_eq_some_iff.1 hj).1; omega)
      cases h1
      exact h3 j u hj
    · obtain ⟨y, _, rfl⟩ := List.mem_map.1 hu
      rfl
    · exact h v' w' h1 ((Below.refl base w).grown h2 hbase (fun k hk => own_base hown k hk))
end
/-- Rows of unlike kinds do not lie in one block. -/
theorem own_apart {w : World} {b1 b2 e1 e2 k1 k2 n1 n2 : Nat} {v1 v2 : Value} {x1 x2 : List Value} (h1 : w.ownsRow b1 e1 k1 v1 n1 x1) (h2 : w.ownsRow b2 e2 k2 v2 n2 x2) (he : e1 ≠ e2) : v1.ownBlock = none ∨ v1.ownBlock ≠ v2.ownBlock := by
  rcases h1.2 with ⟨rfl, _⟩ | ⟨g1, c1, u1, rfl, _, hg1, _⟩
  · exact .inl rfl
  · rcases h2.2 with ⟨rfl, _⟩ | ⟨g2, c2, u2, rfl, _, hg2, _⟩
    · right; simp [Value.ownBlock]
    · right
      intro h
      have : g1 = g2 := by simpa [Value.ownBlock] using h
      subst this
      rw [hg1] at hg2
      injection hg2 with hg2
      injection hg2 with _ ht
      exact he ht
/-- The pieces' bytes are the call's own. -/
def PcO (w : World) (base : Nat) (L : List Pc) : Prop := ∀ p ∈ L, w.ownsRow base 5 1 p.2.1 p.2.2.length (p.2.2.map u8v)
theorem PcO.keep {w w' : World} {base : Nat} {L : List Pc} (h : PcO w base L) (hb : Below w.heap.size w w') : PcO w' base L := fun p hp => own_keep (h p hp) hb (fun _ hk => hk)
theorem PcO.grown {w w' : World} {base b : Nat} {L M : List Pc} {v : Value} {E : TypeId} (h : PcO w base L) (ho : OwnP w b E v M) (hE : 5 ≠ E) (hg : w.grownBy w' v.ownBlock) : PcO w' base L := fun p hp => (h p hp).kept hg (own_apart (h p hp) ho hE)
theorem PcO.pcb {w : World} {base : Nat} {L : List Pc} (h : PcO w base L) : Pcb w L := fun p hp => Bs.own (h p hp)
theorem cut_mid2 (a : Option Addr) (n cap f t : Nat) (h1 : f ≤ t) (h2 : t ≤ cap) (w : World) :
    (Instr.slice 26 (.slice a n cap) (some (.int .i64 (f : Int))) (some (.int .i64 (t : Int))) none).run Tryd.prog w = .ok (.slice (cutQ a cap f) (t - f) (cap - f)) w := cut_mid a n cap f t h1 h2 w
def rctO : List Stp := [.inl (0, true), .inl (1, true), .inl (2, true), .inl (3, true), .inl (4, true), .inl (5, true), .inl (6, true), .inl (7, true), .inl (10, true), .inl (11, true), .inl (12, true), .inl (13, true), .inl (14, true), .inl (15, true), .inl (16, true), .inr (8, 9), .inl (17, false), .inl (18, true), .inl (19, false), .inl (20, false), .inl (21, true)]
theorem chkRct : otcB rctO (regOf Tryd.f15.body 7) = true := by kernel_rfl
set_option maxHeartbeats 8000000 in
set_option maxRecDepth 100000 in
theorem rcut_any (b : List (BitVec 8)) (q : Option Addr) (c : Nat) (w : World) (hc : b.length ≤ c) (hq : q = none → c = 0) (hl : b.length ≤ 1000000) (hs : Sees w w.heap.size q (b.map u8v)) :
    Calls Tryd.prog 15 #[.slice q b.length c] w fun e w' => (∃ v L, e = .returned v ∧ PcV w' v L ∧ Pcb w' L ∧ L.map keyP = cutP b) ∧ Below w.heap.size w w' := by
  have HPL := Lib.hid (fun w1 => rplain_any w1)
  have HEN : Hid (∀ v, Below w.heap.size w v → Calls Tryd.prog 34 #[ruleV 16 128 8 31 7, .slice q b.length c] v fun e w' => ∃ u, e = .returned u ∧ Ns w' u (endsL plR 0 b) ∧ Below v.heap.size v w') := Lib.hid (fun v hb => rends_good plR plR_ok b q c v hc hl ((hs.keep hb).more hb.size))
  have HLT : Hid ((endsL plR 0 b).length ≤ 1000000) := Lib.hid (Nat.le_trans (endsL_count plR_ok b) hl)
  have HEE : Hid (∀ i (hi : i < (endsL plR 0 b).length), before (endsL plR 0 b) i ≤ (endsL plR 0 b)[i] ∧ (endsL plR 0 b)[i] ≤ b.length) := Lib.hid (fun i hi => by obtain ⟨k1, k2, _⟩ := endsL_lt plR_ok b i hi; omega)
  have HCP : Hid (cutP b = (pieces b (endsL plR 0 b)).map fun x => (shaU x, x)) := Lib.hid rfl
  generalize endsL plR 0 b = E at *
  have HS := Lib.hid hs
  have HQ := Lib.hid hq
  have HC := Lib.hid hc
  clear hs hq hc
  unfold ruleV ruleL at HPL HEN
  go_enter Tryd.func15, Tryd.ntmps15
  go_upto_region 5 with (first | ((with_reducible refine (HPL.out _).mono ?_); rintro e w3 ⟨rfl, hB⟩; have HB3 := Lib.hid hB; clear hB) | ((with_reducible refine (HEN.out _ HB3.out).mono ?_); rintro e w4 ⟨v4, rfl, ⟨q5, c5, rfl, hse⟩, hB⟩; have HB4 := Lib.hid (HB3.out.trans (hB.mono HB3.out.size)); have HSE := Lib.hid hse; clear hB hse))
  clear HPL HEN HB3
  have HS4 := Lib.hid (HS.out.keep HB4.out)
  have HNIL := Lib.hid (OwnP.nil w4 w4.heap.size 48)
  go_loopw [3, 5, 6] (fun v vf vi wr => ∃ (j : Nat) (L : List Pc), j ≤ E.length ∧ L.length = j ∧ vi = .int .i64 j ∧ vf = .int .i64 (before E j : Nat) ∧ OwnP wr w4.heap.size 48 v L ∧ PcO wr w4.heap.size L ∧ L.map keyP = (cutP b).take j ∧ Below w4.heap.size w4 wr) (fun _ _ vi _ => E.length - (intOf vi).toNat)
  case atStart => exact ⟨0, [], by omega, rfl, rfl, rfl, HNIL.out, fun p hp => by (cases hp), rfl, Below.refl _ _⟩
  case round =>
    clear HNIL
    rename_i wr
    obtain ⟨j, L, hj, hLl, rfl, rfl, hrow, hpo, hkey, hB⟩ := hrel
    have HROW := Lib.hid hrow
    have HB := Lib.hid hB
    have HPO := Lib.hid hpo
    have HKEY := Lib.hid hkey
    have HLn := Lib.hid hLl
    clear hrow hB hpo hkey hLl
    by_cases hlt : j < E.length
    · obtain ⟨ad, rfl, _, hcell⟩ := HSE.out.get (by rw [List.length_map]; omega)
      have hce : ∀ w', Below w4.heap.size w4 w' → w'.cell? (ad.add j) = some (.int .i64 ((E[j] : Nat) : Int)) := fun w' h => by
        obtain ⟨a2, e2, _, hc2⟩ := (HSE.out.keep h).get (by rw [List.length_map]; omega)
        cases e2
        exact hc2 j (i64n E[j]) (by rw [List.getElem?_map, List.getElem?_eq_getElem hlt]; rfl)
      obtain ⟨k1, k2⟩ := HEE.out j hlt
      have hbs := before_succ E j hlt
      have HXJ : Hid ((cutP b).take (j + 1) = (cutP b).take j ++ [(shaU (piece b E j), piece b E j)]) := Lib.hid (by
        rw [HCP.out, ← List.map_take, ← List.map_take]
        unfold pieces
        rw [List.take_add_one, List.getElem?_eq_getElem (by simpa using hlt), List.map_append]
        simp)
      have hpl : (piece b E j).length = E[j] - before E j := by
        have := piece_length b E j (by rw [getD_at _ _ hlt]; exact k2)
        rw [getD_at _ _ hlt] at this; exact this
      have hpe : piece b E j = (b.take E[j]).drop (before E j) := by unfold piece; rw [getD_at _ _ hlt]
      have HSX : Hid (∀ w', Below w4.heap.size w4 w' → Bs w' (.slice (cutQ q c (before E j)) (E[j] - before E j) (c - before E j)) (piece b E j)) := Lib.hid (fun w' h => by
        refine ⟨cutQ q c (before E j), c - before E j, by rw [hpl], by rw [hpl]; have := HC.out; omega, cutQ_none q c _ HQ.out, ?_⟩
        rw [hpe]
        exact ((HS4.out.keep (h.mono HB4.out.size)).more (Nat.le_trans HB4.out.size h.size)).mid HC.out)
      have HXL : Hid ((piece b E j).length ≤ 1000000) := Lib.hid (by rw [hpl]; omega)
      have HFT : Hid (before E j ≤ E[j] ∧ E[j] ≤ b.length ∧ b.length ≤ c) := Lib.hid ⟨k1, k2, HC.out⟩
      obtain ⟨x, hx⟩ : ∃ x, x = piece b E j := ⟨_, rfl⟩
      rw [← hx] at HXJ HSX HXL hpl
      have HPL := Lib.hid hpl
      have HBF := Lib.hid hbs
      obtain ⟨f0, hf0⟩ : ∃ f, f = before E j := ⟨_, rfl⟩
      obtain ⟨t0, ht0⟩ : ∃ t, t = E[j] := ⟨_, rfl⟩
      rw [← hf0, ← ht0] at HSX HFT HPL
      rw [← ht0] at HBF hce
      have HTE := Lib.hid ht0
      rw [← hf0]
      have HCE : Hid (∀ w', Below w4.heap.size wr.drew w' → w'.cell? (ad.add j) = some (.int .i64 (t0 : Int))) := Lib.hid (fun w' h => hce w' (HB.out.drew.trans h))
      have HCT : Hid (∀ w', (Instr.slice 26 (.slice q b.length c) (some (.int .i64 (f0 : Int))) (some (.int .i64 (t0 : Int))) none).run Tryd.prog w' = .ok (.slice (cutQ q c f0) (t0 - f0) (c - f0)) w') := Lib.hid (fun w' => cut_mid2 q b.length c f0 t0 (by have := HFT.out; omega) (by have := HFT.out; omega) w')
      have ce0 := hce wr HB.out
      have kk : (j : Int) < (E.length : Int) := by omega
      have kll : j < 1000000 := by have := HLT.out; omega
      have HLEN : Hid (L.length + 1 ≤ 2000000) := Lib.hid (by have := HLn.out; omega)
      clear hce hcell hbs hpl hpe hx hf0 ht0 k1 k2
      go_upto_region 7 with fail
      refine wp_region_os rctO _ chkRct rfl (by kernel_rfl) (by kernel_rfl) (fun w' => Below w4.heap.size wr.drew w') (Below.refl _ _) ?_
      replace HROW : Hid (OwnP wr.drew w4.heap.size 48 _ L) := Lib.hid HROW.out
      replace HPO : Hid (PcO wr.drew w4.heap.size L) := Lib.hid HPO.out
      replace HB := Lib.hid HB.out.drew
      clear ce0
      generalize wr.drew = wd at *
      unfold rctO
      simp only [pickOt, List.getElem?_cons_zero, List.getElem?_cons_succ]
      refine os_pure (v := ?_) (by kernel_rfl) ?_ ?_
      rotate_left
      · intro w' hv; clear hv; go_simp; try with_reducible rfl
      try simp only [Act.put, List.setIfInBounds_toArray, List.set_cons_zero, List.set_cons_succ]
      refine os_pure (v := ?_) (by kernel_rfl) ?_ ?_
      rotate_left
      · intro w' hv; clear hv; go_simp; try with_reducible rfl
      try simp only [Act.put, List.setIfInBounds_toArray, List.set_cons_zero, List.set_cons_succ]
      refine os_pure (v := ?_) (by kernel_rfl) ?_ ?_
      rotate_left
      · intro w' hv; clear hv; go_simp; try with_reducible rfl
      try simp only [Act.put, List.setIfInBounds_toArray, List.set_cons_zero, List.set_cons_succ]
      refine os_pure (v := ?_) (by kernel_rfl) ?_ ?_
      rotate_left
      · intro w' hv; clear hv; go_simp; try with_reducible rfl
      try simp only [Act.put, List.setIfInBounds_toArray, List.set_cons_zero, List.set_cons_succ]
      refine os_pure (v := ?_) (by kernel_rfl) ?_ ?_
      rotate_left
      · intro w' hv; clear hv; go_simp; try with_reducible rfl
      try simp only [Act.put, List.setIfInBounds_toArray, List.set_cons_zero, List.set_cons_succ]
      refine os_pure (v := ?_) (by kernel_rfl) ?_ ?_
      rotate_left
      · intro w' hv; clear hv; go_simp; try with_reducible rfl
      try simp only [Act.put, List.setIfInBounds_toArray, List.set_cons_zero, List.set_cons_succ]
      refine os_pure (v := ?_) (by kernel_rfl) ?_ ?_
      rotate_left
      · intro w' hv; have c0 := HCE.out w' hv; clear hv; go_simp; try with_reducible rfl
      try simp only [Act.put, List.setIfInBounds_toArray, List.set_cons_zero, List.set_cons_succ]
      refine os_pure (v := ?_) (by kernel_rfl) ?_ ?_
      rotate_left
      · intro w' hv; have c0 := HCT.out w'; clear hv; go_simp; try with_reducible rfl
      try simp only [Act.put, List.setIfInBounds_toArray, List.set_cons_zero, List.set_cons_succ]
      refine os_pure (v := ?_) (by kernel_rfl) ?_ ?_
      rotate_left
      · intro w' hv; clear hv; go_simp; try with_reducible rfl
      try simp only [Act.put, List.setIfInBounds_toArray, List.set_cons_zero, List.set_cons_succ]
      refine os_pure (v := ?_) (by kernel_rfl) ?_ ?_
      rotate_left
      · intro w' hv; clear hv; go_simp; try with_reducible rfl
      try simp only [Act.put, List.setIfInBounds_toArray, List.set_cons_zero, List.set_cons_succ]
      refine os_pure (v := ?_) (by kernel_rfl) ?_ ?_
      rotate_left
      · intro w' hv; clear hv; go_simp; try with_reducible rfl
      try simp only [Act.put, List.setIfInBounds_toArray, List.set_cons_zero, List.set_cons_succ]
      refine os_pure (v := ?_) (by kernel_rfl) ?_ ?_
      rotate_left
      · intro w' hv; clear hv; go_simp; try with_reducible rfl
      try simp only [Act.put, List.setIfInBounds_toArray, List.set_cons_zero, List.set_cons_succ]
      refine os_pure (v := ?_) (by kernel_rfl) ?_ ?_
      rotate_left
      · intro w' hv; clear hv; go_simp; try with_reducible rfl
      try simp only [Act.put, List.setIfInBounds_toArray, List.set_cons_zero, List.set_cons_succ]
      refine os_pure (v := ?_) (by kernel_rfl) ?_ ?_
      rotate_left
      · intro w' hv; have c0 := HCE.out w' hv; clear hv; go_simp; try with_reducible rfl
      try simp only [Act.put, List.setIfInBounds_toArray, List.set_cons_zero, List.set_cons_succ]
      refine os_pure (v := ?_) (by kernel_rfl) ?_ ?_
      rotate_left
      · intro w' hv; have c0 := HCT.out w'; clear hv; go_simp; try with_reducible rfl
      try simp only [Act.put, List.setIfInBounds_toArray, List.set_cons_zero, List.set_cons_succ]
      obtain ⟨qx, hqx⟩ : ∃ y, y = cutQ q c f0 := ⟨_, rfl⟩
      obtain ⟨cx, hcx⟩ : ∃ y, y = c - f0 := ⟨_, rfl⟩
      obtain ⟨nx0, hnx⟩ : ∃ y, y = t0 - f0 := ⟨_, rfl⟩
      rw [← hqx, ← hcx, ← hnx] at HSX ⊢
      rw [← hnx] at HPL
      have HBX : Hid (∀ w', Below wd.heap.size wd w' → Bs w' (.slice qx nx0 cx) x) := Lib.hid (fun w' h => HSX.out w' (HB.out.trans (h.mono HB.out.size)))
      have HOF : Hid (∀ w', Below wd.heap.size wd w' → Calls Tryd.prog 36 #[.slice qx nx0 cx] w' fun e w2 => e = .returned (.agg (encU (shaU x)).toArray) ∧ Below w'.heap.size w' w2) := Lib.hid (fun w' h => rof_of (HBX.out w' h) HXL.out)
      clear hqx hcx hnx HCE HCT
      refine os_two (fun v u w' => v = .agg (encU (shaU x)).toArray ∧ (∃ g, u = .slice (some ⟨g, 0, none⟩) 0 0 ∧ w'.ownsRow wd.heap.size 5 1 u 0 []) ∧ Below wd.heap.size wd w') (by kernel_rfl) (by kernel_rfl) (fun v => by kernel_rfl) (fun v => by kernel_rfl)
        (fun v w1 => v = .agg (encU (shaU x)).toArray ∧ Below wd.heap.size wd w1) (fun u w1 => (∃ g, u = .slice (some ⟨g, 0, none⟩) 0 0 ∧ w1.ownsRow wd.heap.size 5 1 u 0 []) ∧ Below wd.heap.size wd w1) ?_ ?_ ?_ ?_ (fun v u => rfl) ?_
      · intro K hK
        go_wp2_with fail
        refine Calls.mono (HOF.out wd (Below.refl _ _)) ?_
        rintro e w1 ⟨rfl, hb⟩
        exact hK _ _ ⟨hb.mono HB.out.size, rfl, hb⟩
      · rintro v w1 ⟨rfl, hb⟩ K hK
        exact wp_none_u8r rfl (hK _ _ ⟨(hb.alloc hb.size _).mono HB.out.size, rfl, ⟨_, rfl, World.ownsRow_made w1 #[] 0 hb.size (Nat.zero_le _) rfl⟩, hb.alloc hb.size _⟩)
      · intro K hK
        exact wp_none_u8r rfl (hK _ _ ⟨((Below.refl wd.heap.size wd).alloc (Nat.le_refl _) _).mono HB.out.size, ⟨_, rfl, World.ownsRow_made wd #[] 0 (Nat.le_refl _) (Nat.zero_le _) rfl⟩, (Below.refl _ _).alloc (Nat.le_refl _) _⟩)
      · rintro u w1 ⟨⟨g, rfl, ho⟩, hb⟩ K hK
        go_wp2_with fail
        refine Calls.mono (HOF.out w1 hb) ?_
        rintro e w2 ⟨rfl, hb2⟩
        have hb3 := hb.trans (hb2.mono hb.size)
        exact hK _ _ ⟨hb3.mono HB.out.size, rfl, ⟨g, rfl, own_keep ho hb2 (fun _ h => h)⟩, hb3⟩
      rintro v u w5 ⟨rfl, ⟨g5, rfl, ho5⟩, hb5⟩
      have HO5 := Lib.hid ho5
      have HB5 := Lib.hid hb5
      have hsx := HBX.out w5 hb5
      clear ho5 hb5 HOF
      try simp only [Act.put, List.setIfInBounds_toArray, List.set_cons_zero, List.set_cons_succ]
      obtain ⟨qx2, cx2, hv2, _, hq2, hs2⟩ := hsx
      injection hv2 with e1 e2 e3
      subst e1 e3
      have HQ2 := Lib.hid hq2
      have HS2 := Lib.hid hs2
      have HNX := Lib.hid e2
      clear hq2 hs2 e2
      refine os_step (by kernel_rfl) (fun K hK => wp_append_seesK (.tmp 25) (.tmp 32) rfl wd.heap.size _ 0 [] rfl HO5.out qx x nx0 cx w5.heap.size HNX.out.symm rfl HQ2.out HS2.out (by have := HXL.out; have := HNX.out; omega) HB5.out.size (fun v6 w6 h1 h2 => ?_))
      rw [Nat.zero_add, List.nil_append] at h1
      rw [HNX.out] at h1
      obtain ⟨q6, c6, hv6, hc6, hq6, hs6⟩ := Bs.own h1
      subst hv6
      have HO6 := Lib.hid h1
      have HB6 := Lib.hid (HB5.out.trans h2)
      clear h1 h2 hc6 hq6 hs6
      refine hK _ _ ⟨HB6.out.mono HB.out.size, ?_⟩
      clear hK
      try simp only [Act.put, List.setIfInBounds_toArray, List.set_cons_zero, List.set_cons_succ]
      refine os_pure (by kernel_rfl) (fun w' hv => build_cells 48 _ rfl (encP (shaU x, .slice q6 x.length c6, x)).toArray [(0, .agg (encU (shaU x)).toArray), (1, .slice q6 x.length c6)] (by kernel_rfl) (built_rpc (shaU x) q6 x.length c6 x)) ?_
      try simp only [Act.put, List.setIfInBounds_toArray, List.set_cons_zero, List.set_cons_succ]
      have HROW6 := Lib.hid (HROW.out.keep HB6.out)
      have HPO6 := Lib.hid (HPO.out.keep HB6.out)
      have HZ6 : Hid (w4.heap.size ≤ w6.heap.size) := Lib.hid (Nat.le_trans HB.out.size HB6.out.size)
      refine os_step (by kernel_rfl) (fun K hK => wp_one_pc 40 48 elRpc (.tmp 34) rfl (shaU x, .slice q6 x.length c6, x) rfl (hK _ _ ⟨(HB6.out.mono HB.out.size).alloc HZ6.out _, ?_⟩))
      try simp only [Act.put, List.setIfInBounds_toArray, List.set_cons_zero, List.set_cons_succ]
      have HBA : Hid (Below w6.heap.size w6 (w6.alloc (.cells (encP (shaU x, .slice q6 x.length c6, x)).toArray 48))) := Lib.hid ((Below.refl _ _).alloc (Nat.le_refl _) _)
      have HROW7 := Lib.hid (HROW6.out.keep HBA.out)
      have HPO7 := Lib.hid (HPO6.out.keep HBA.out)
      have HO7 := Lib.hid (own_keep HO6.out HBA.out (fun _ h => h))
      have HLIT : Hid (Has (w6.alloc (.cells (encP (shaU x, .slice q6 x.length c6, x)).toArray 48)) w6.heap.size 48 (encP (shaU x, .slice q6 x.length c6, x))) := Lib.hid (Has.made' _ _ _ _ rfl)
      have HB7 := Lib.hid ((HB6.out.mono HB.out.size).trans (HBA.out.mono HZ6.out))
      have HZ7 := Lib.hid (Nat.le_trans HZ6.out HBA.out.size)
      clear HROW6 HPO6 HO6 HBA HROW HPO
      generalize w6.alloc (.cells (encP (shaU x, .slice q6 x.length c6, x)).toArray 48) = w7 at *
      generalize w6.heap.size = g6 at *
      refine os_step (by kernel_rfl) (fun K hK => wp_append_pc 40 48 elRpc (.tmp 16) (.tmp 35) rfl w4.heap.size _ L rfl HROW7.out (some ⟨g6, 0, none⟩) [(shaU x, .slice q6 x.length c6, x)] 1 1 w7.heap.size rfl rfl (fun h => by cases h) (Has.pc HLIT.out HLIT.out.lt) (pc_ones (w := w7) (Bs.own HO7.out)) HLEN.out HZ7.out (fun v8 w8 h1 h2 => ?_))
      have HROW8 := Lib.hid h1
      have HPO8 : Hid (PcO w8 w4.heap.size (L ++ [(shaU x, .slice q6 x.length c6, x)])) := Lib.hid (by
        refine PcO.grown (E := 48) (fun p hp => ?_) HROW7.out (by decide) h2
        rcases List.mem_append.1 hp with h | h
        · exact HPO7.out p h
        · rw [List.mem_singleton.1 h]
          exact ⟨HO7.out.1, by
            rcases HO7.out.2 with h | ⟨g, cap, cur, e, h0, r⟩
            · exact .inl h
            · exact .inr ⟨g, cap, cur, e, Nat.le_trans HB.out.size h0, r⟩⟩)
      have HB8 := Lib.hid (HB7.out.grown h2 HZ7.out (fun k hk => HROW7.out.base k hk))
      clear h1 h2
      refine hK _ _ ⟨HB8.out, ?_⟩
      clear hK
      try simp only [Act.put, List.setIfInBounds_toArray, List.set_cons_zero, List.set_cons_succ]
      refine os_pure (v := ?_) (by kernel_rfl) ?_ ?_
      rotate_left
      · intro w' hv; clear hv; go_simp; try with_reducible rfl
      try simp only [Act.put, List.setIfInBounds_toArray, List.set_cons_zero, List.set_cons_succ]
      refine os_nil ?_
      have HBW := Lib.hid (HB.out.trans HB8.out)
      have hce8 : w8.cell? (ad.add j) = some (.int .i64 (t0 : Int)) := by
        obtain ⟨a2, e2, _, hc2⟩ := (HSE.out.keep HBW.out).get (by rw [List.length_map]; omega)
        cases e2
        have := hc2 j (i64n E[j]) (by rw [List.getElem?_map, List.getElem?_eq_getElem hlt]; rfl)
        rw [HTE.out]; exact this
      go_wp2_with fail
      go_roundw
      case rel =>
        refine ⟨j + 1, L ++ [(shaU x, .slice q6 x.length c6, x)], by omega, by rw [List.length_append, HLn.out]; rfl, by go_num, by rw [HBF.out], HROW8.out, HPO8.out, ?_, HBW.out⟩
        rw [List.map_append, HKEY.out, HXJ.out]; rfl
      case measure => simp [intOf]; omega
    · have hjl : j = E.length := by omega
      subst hjl
      have kk : ¬ ((E.length : Int) < (E.length : Int)) := by omega
      have HPV := Lib.hid HROW.out.pc
      clear hlt
      go_wp2_with fail
      go_ret
      refine ⟨⟨_, rfl, L, HPV.out, HPO.out.pcb, ?_⟩, HB4.out.trans (HB.out.mono HB4.out.size)⟩
      rw [HKEY.out, List.take_of_length_le (by rw [HCP.out, List.length_map, pieces_length]; exact Nat.le_refl _)]
end Go.Proofs.YthpledfjopbchaaDoor
/- A map from sums to whole numbers in memory: looked up, one put in. No condition. -/
namespace Go.Proofs.YthpledfjopbchaaDoor
open Go.RowKit Go.WideMaps
theorem arrSum : ArrKey Tryd.prog 24 5 32 := ⟨Tryd.underlying24, by kernel_rfl, by kernel_rfl, by kernel_rfl⟩
theorem lawSum : KeyLaw Tryd.prog 24 := arrSum.law
theorem typesSz : ∃ m, Tryd.prog.types.size = m + 1 := ⟨Tryd.prog.types.size - 1, by kernel_rfl⟩
theorem mapM_some {α β : Type} {f : α → Option β} : ∀ (l : List α), (∀ x ∈ l, ∃ y, f x = some y) → ∃ ys, l.mapM f = some ys
  | [], _ => ⟨[], rfl⟩
  | x :: l, h => by
    obtain ⟨y, hy⟩ := h x (List.mem_cons_self ..)
    obtain ⟨ys, hys⟩ := mapM_some l fun z hz => h z (List.mem_cons_of_mem _ hz)
    exact ⟨y :: ys, by simp [List.mapM_cons, hy, hys]⟩
theorem u8_wf (x : BitVec 8) : (Lit.int .u8 (B x)).wf = true := by
  have h : 0 ≤ B x ∧ B x < 256 := by
    unfold B
    have := x.isLt
    omega
  have h1 : IntKind.u8.min = 0 := rfl
  have h2 : IntKind.u8.max = 255 := rfl
  simp [Lit.wf, h1, h2]
  omega
theorem keyOf_su (s : Su) : ∃ l, keyOf Tryd.prog 24 (aggU s) = some l := by
  have hkt := arrSum.keyType typesSz
  obtain ⟨m, hm⟩ := typesSz
  unfold keyOf aggU
  simp only [arrSum.hu]
  have hl : (encU s).toArray.size = 32 := encU_size s
  rw [if_pos (by simp [hkt, Value.formed, arrSum.hu, arrSum.size, encU_len]), hm]
  unfold Program.keyLits
  simp only [arrSum.hu, Value.cells]
  rw [if_pos (by rw [arrSum.size]; simpa using encU_len s)]
  obtain ⟨ys, hys⟩ := mapM_some (f := fun i => Tryd.prog.keyLits (m + 1) 5 (((encU s).toArray.toList.drop (i * Tryd.prog.cellsOf 5)).take (Tryd.prog.cellsOf 5))) (List.range 32) (fun i hi => by
    have hi' : i < s.1.length := by rw [s.2]; simpa using hi
    have e : ((encU s).toArray.toList.drop (i * Tryd.prog.cellsOf 5)).take (Tryd.prog.cellsOf 5) = [u8v s.1[i]] := by
      rw [arrSum.one, Nat.mul_one]
      unfold encU
      rw [List.toList_toArray, ← List.map_drop, ← List.map_take, List.drop_eq_getElem_cons hi', List.take_succ_cons, List.take_zero]
      rfl
    refine ⟨[.int .u8 (B s.1[i])], ?_⟩
    rw [e]
    unfold Program.keyLits u8v
    simp [Tryd.underlying5, u8_wf])
  rw [hys]
  exact ⟨_, rfl⟩
/-- A map from sums to whole numbers. -/
def MapU (w : World) (r : Nat) (f : Su → Option Nat) : Prop := ∃ es clock, w.heap[r]? = some (.map es clock) ∧ (∀ e ∈ es.toList, ∃ s i, e.key = aggU s ∧ e.val = .int .i64 (i : Nat) ∧ f s = some i) ∧ ∀ s i, f s = some i → ∃ e ∈ es.toList, e.key = aggU s
theorem aggU_inj {s t : Su} (h : aggU s = aggU t) : s = t := by
  unfold aggU at h
  injection h with h
  have h1 : encU s = encU t := by simpa using h
  have h2 : ∀ (a b : List (BitVec 8)), a.map u8v = b.map u8v → a = b := by
    intro a
    induction a with
    | nil => intro b hb; cases b with
      | nil => rfl
      | cons y b => simp at hb
    | cons x a ih => intro b hb; cases b with
      | nil => simp at hb
      | cons y b =>
        simp only [List.map_cons, List.cons.injEq] at hb
        obtain ⟨h1, h2⟩ := hb
        have hx : B x = B y := by unfold u8v at h1; injection h1
        have hxy : x = y := by
          unfold B at hx
          exact BitVec.eq_of_toNat_eq (by omega)
        rw [hxy, ih b h2]
  exact Subtype.ext (h2 _ _ h1)
theorem MapU.keys {es : Array MapEntry} {f : Su → Option Nat} (h : ∀ e ∈ es.toList, ∃ s i, e.key = aggU s ∧ e.val = .int .i64 (i : Nat) ∧ f s = some i) : ∀ e ∈ es.toList, ∃ l, keyOf Tryd.prog 24 e.key = some l := fun e he => by
  obtain ⟨s, i, hk, _⟩ := h e he
  rw [hk]; exact keyOf_su s
theorem lookup_u {w : World} {r : Nat} {f : Su → Option Nat} (h : MapU w r f) (s : Su) :
    (Instr.lookup 72 (.map (some r)) (aggU s) true).run Tryd.prog w = .ok (.tuple #[.int .i64 (((f s).getD 0 : Nat) : Int), .bool (f s).isSome]) w := by
  obtain ⟨es, clock, hb, h1, h2⟩ := h
  obtain ⟨l, hl⟩ := keyOf_su s
  have hc := lawSum.check w es.isEmpty hl
  rcases lawSum.find w hl es.toList (MapU.keys h1) with ⟨hf, hno⟩ | ⟨j, e, hf, hj, hk⟩
  · have hn : f s = none := by
      cases hfs : f s with
      | none => rfl
      | some i => obtain ⟨e, he, hk⟩ := h2 s i hfs; exact absurd hk (hno e he)
    rw [hn]
    simp [Instr.lookup, run_underlying Tryd.underlying72, MapKept.run_getObj_map hb, hc, hf, Result.andThen]
  · have he : e ∈ es.toList := List.mem_of_getElem? hj
    obtain ⟨t, i, hk', hv, hft⟩ := h1 e he
    have : s = t := aggU_inj (hk.symm.trans hk')
    subst this
    rw [hft]
    simp [Instr.lookup, run_underlying Tryd.underlying72, MapKept.run_getObj_map hb, hc, hf, hv, Result.andThen]
theorem below_map {b r : Nat} {a w : World} (h : Below b a w) (hr : b ≤ r) (o : Obj) : Below b a { w with heap := w.heap.setIfInBounds r o } :=
  ⟨h.os, h.tape, h.output, by simpa using h.size, fun k hk => by
    show (w.heap.setIfInBounds r o)[k]? = _
    rw [Array.getElem?_setIfInBounds_ne (by omega)]
    exact h.block k hk⟩
theorem update_u {w : World} {r : Nat} {f : Su → Option Nat} (h : MapU w r f) (s : Su) (hs : f s = none) (i : Nat) :
    ∃ o, (Instr.mapUpdate 72 (.map (some r)) (aggU s) (.int .i64 (i : Int))).run Tryd.prog w = .ok () { w with heap := w.heap.setIfInBounds r o } ∧ MapU { w with heap := w.heap.setIfInBounds r o } r (fun t => if t = s then some i else f t) := by
  obtain ⟨es, clock, hb, h1, h2⟩ := h
  obtain ⟨l, hl⟩ := keyOf_su s
  have hc := lawSum.check w false hl
  rcases lawSum.find w hl es.toList (MapU.keys h1) with ⟨hf, hno⟩ | ⟨j, e, hf, hj, hk⟩
  · refine ⟨.map (es.push { key := aggU s, val := .int .i64 (i : Int), born := clock }) (clock + 1), ?_, _, _, (MapKept.heap_set hb).1, fun e he => ?_, fun t k ht => ?_⟩
    · simp [Instr.mapUpdate, run_underlying Tryd.underlying72, MapKept.run_getObj_map hb, hc, hf, MapKept.run_setObj_map _ hb, Result.andThen]
    · rw [Array.toList_push] at he
      rcases List.mem_append.1 he with he | he
      · obtain ⟨t, k, e1, e2, e3⟩ := h1 e he
        refine ⟨t, k, e1, e2, ?_⟩
        have : t ≠ s := fun hts => by rw [hts, hs] at e3; cases e3
        show (if t = s then some i else f t) = some k
        rw [if_neg this]; exact e3
      · rw [List.mem_singleton.1 he]
        exact ⟨s, i, rfl, rfl, if_pos rfl⟩
    · rw [Array.toList_push]
      by_cases hts : t = s
      · subst hts
        exact ⟨_, List.mem_append_right _ (List.mem_singleton.2 rfl), rfl⟩
      · have ht : (if t = s then some i else f t) = some k := ht
        rw [if_neg hts] at ht
        obtain ⟨e, he, hk⟩ := h2 t k ht
        exact ⟨e, List.mem_append_left _ he, hk⟩
  · have he : e ∈ es.toList := List.mem_of_getElem? hj
    obtain ⟨t, k, hk', hv, hft⟩ := h1 e he
    have : s = t := aggU_inj (hk.symm.trans hk')
    subst this
    rw [hs] at hft; cases hft
theorem MapU.keep {w w' : World} {r b : Nat} {f : Su → Option Nat} (h : MapU w r f) (hb : Below b w w') (hr : r < b) : MapU w' r f := by
  obtain ⟨es, clock, h0, h1⟩ := h
  exact ⟨es, clock, (hb.block r hr).trans h0, h1⟩
theorem MapU.lt {w : World} {r : Nat} {f : Su → Option Nat} (h : MapU w r f) : r < w.heap.size := by
  obtain ⟨es, clock, h0, _⟩ := h
  exact (Array.getElem?_eq_some_iff.1 h0).1
theorem mapU_new (w : World) : MapU (w.alloc (.map #[] 0)) w.heap.size (fun _ => none) :=
  ⟨#[], 0, heap_alloc_new w _, fun e he => by simp at he, fun s i h => by cases h⟩
theorem make_u (w : World) (n : Nat) : (Instr.makeMap 72 (some (.int .i64 (n : Int)))).run Tryd.prog w = .ok (.map (some w.heap.size)) (w.alloc (.map #[] 0)) := by
  have h : (asInt (Value.int .i64 (n : Int))).run Tryd.prog w = .ok (n : Int) w := by rfl
  simp [Instr.makeMap, run_underlying Tryd.underlying72, h, Result.andThen]
end Go.Proofs.YthpledfjopbchaaDoor
/- Contract: chunk.firsts: where the first piece of each sum stands. Condition: at most a million pieces. -/
namespace Go.Proofs.YthpledfjopbchaaDoor
open Go.RowKit
/-- Where the first piece that says a sum stands. -/
def firstU (L : List Pc) (s : Su) : Option Nat := L.findIdx? fun p => decide (p.1 = s)
theorem firstU_snoc (A : List Pc) (p : Pc) (s : Su) : firstU (A ++ [p]) s = (firstU A s).or (if p.1 = s then some A.length else none) := by
  unfold firstU
  rw [List.findIdx?_append]
  congr 1
  by_cases h : p.1 = s
  · rw [if_pos h]; simp [h]
  · rw [if_neg h]; simp [h]
theorem firstU_new (A : List Pc) (p : Pc) (h : firstU A p.1 = none) : (fun t => if t = p.1 then some A.length else firstU A t) = firstU (A ++ [p]) := by
  funext t
  rw [firstU_snoc]
  by_cases ht : t = p.1
  · subst ht; rw [if_pos rfl, if_pos rfl, h]; rfl
  · rw [if_neg ht, if_neg (fun e => ht e.symm)]; simp
theorem firstU_old (A : List Pc) (p : Pc) {k : Nat} (h : firstU A p.1 = some k) : firstU A = firstU (A ++ [p]) := by
  funext t
  rw [firstU_snoc]
  by_cases ht : t = p.1
  · subst ht; rw [h]; rfl
  · rw [if_neg (fun e => ht e.symm)]; simp
theorem firstU_lt {L : List Pc} {s : Su} {i : Nat} (h : firstU L s = some i) : ∃ hi : i < L.length, L[i].1 = s := by
  unfold firstU at h
  obtain ⟨hi, h1, _⟩ := List.findIdx?_eq_some_iff_getElem.1 h
  exact ⟨hi, by simpa using h1⟩
theorem wpList_update {ops : Array Oper} {rest : List Oper} {o : Oper} {a : Act} {w w' : World} {Q : Exit → Act → World → Prop} (hgd : o.guard = none) (T : TypeId) (x y z : Operand) (ho : o.op = .mapUpdate T x y z) (vx vy vz : Value)
    (_hw : True) (hx : a.eval x = vx) (hy : a.eval y = vy) (hz : a.eval z = vz) (hr : (Instr.mapUpdate T vx vy vz).run Tryd.prog w = .ok () w')
    (h : wpList Tryd.prog ops Q rest (a.put o.dst undef) w') : wpList Tryd.prog ops Q (o :: rest) a w :=
  wpList_plain hgd fun _ hK => by
    unfold Oper.wp execOp
    simp only [ho, hx, hy, hz, Sem.run_bind, hr, Result.andThen_ok]
    exact hK _ _ h
set_option maxHeartbeats 4000000 in
set_option maxRecDepth 100000 in
theorem firsts_any (L : List Pc) (q : Option Addr) (c : Nat) (w : World) (hm : L.length ≤ 1000000) (hs : Sees w w.heap.size q (rowP L)) (hb : Pcb w L) :
    Calls Tryd.prog 30 #[.slice q L.length c] w fun e w' => e = .returned (.map (some w.heap.size)) ∧ MapU w' w.heap.size (firstU L) ∧ Below w.heap.size w w' := by
  have HS := Lib.hid hs
  have HP := Lib.hid hb
  have hmk := make_u w L.length
  have HM0 := Lib.hid (mapU_new w)
  have HB0 := Lib.hid ((Below.refl w.heap.size w).alloc (Nat.le_refl _) (.map #[] 0))
  clear hs hb
  go_enter Tryd.func30, Tryd.ntmps30
  go_upto_region 3 with fail
  clear hmk
  generalize w.alloc (.map #[] 0) = w1 at *
  obtain ⟨r, hr⟩ : ∃ r, r = w.heap.size := ⟨_, rfl⟩
  rw [← hr] at HM0 ⊢
  have HR := Lib.hid hr
  clear hr
  have HM1 : Hid (MapU w1 r (firstU (L.take 0))) := Lib.hid (by rw [List.take_zero]; exact HM0.out)
  clear HM0
  go_loopw [13] (fun vi wr => ∃ j : Nat, j ≤ L.length ∧ vi = .int .i64 j ∧ MapU wr r (firstU (L.take j)) ∧ Below w.heap.size w wr) (fun vi _ => L.length - (intOf vi).toNat)
  case atStart => exact ⟨0, by omega, rfl, HM1.out, HB0.out⟩
  case round =>
    clear HM1 HB0
    rename_i wr
    obtain ⟨j, hj, rfl, hmp, hB⟩ := hrel
    have HM := Lib.hid hmp
    have HB := Lib.hid hB
    clear hmp hB
    by_cases hlt : j < L.length
    · obtain ⟨ad, rfl, hab, hcell⟩ := Sees.pc (HS.out.keep HB.out) hlt
      obtain ⟨p, hp⟩ : ∃ p, p = L[j] := ⟨_, rfl⟩
      rw [← hp] at hcell
      have hone := (HP.out p (by rw [hp]; exact List.getElem_mem hlt)).one
      have HTK : Hid (L.take (j + 1) = L.take j ++ [p]) := Lib.hid (by rw [List.take_add_one, List.getElem?_eq_getElem hlt, ← hp]; rfl)
      have HTL : Hid ((L.take j).length = j) := Lib.hid (by rw [List.length_take]; omega)
      have HCELL := Lib.hid hcell
      have HONE := Lib.hid hone
      clear hcell hone hab hp
      have hjj : (j : Int) < (L.length : Int) := by omega
      have hll : j < 1000000 := by omega
      go_upto_region 4 with fail
      refine wp_region_lit ?_
      try simp only [Act.put, List.setIfInBounds_toArray, List.set_cons_zero, List.set_cons_succ]
      refine lp_pure (v := ?_) (by kernel_rfl) ?_ ?_
      rotate_left
      · go_simp; try with_reducible rfl
      try simp only [Act.put, List.setIfInBounds_toArray, List.set_cons_zero, List.set_cons_succ]
      refine lp_pure (v := ?_) (by kernel_rfl) ?_ ?_
      rotate_left
      · go_simp; try with_reducible rfl
      try simp only [Act.put, List.setIfInBounds_toArray, List.set_cons_zero, List.set_cons_succ]
      refine lp_pure (by kernel_rfl) (load_pc 33 28 elPc (.tmp 16) rfl (ad.add (j * 33)) rfl p (HCELL.out _ (Below.refl _ _))) ?_
      try simp only [Act.put, List.setIfInBounds_toArray, List.set_cons_zero, List.set_cons_succ]
      refine wpList_alloc rfl _ rfl zPc (zPc_run wr) ?_
      try simp only [Act.put, List.setIfInBounds_toArray, List.set_cons_zero, List.set_cons_succ]
      refine lp_pure (v := ?_) (by kernel_rfl) ?_ ?_
      rotate_left
      · go_simp; try with_reducible rfl
      try simp only [Act.put, List.setIfInBounds_toArray, List.set_cons_zero, List.set_cons_succ]
      have hh : Has (wr.alloc (.cells zPc 28)) wr.heap.size 28 zPc.toList := Has.made' _ _ _ _ (by simp)
      refine wpList_store_row rfl _ (.tmp 5) (.tmp 17) rfl wr.heap.size (encP p).toArray rfl rfl _ zPc.toList.toArray hh (by rw [szPc, List.size_toArray, encP_len]) (by rw [List.size_toArray, List.size_toArray, encP_len]; exact zPc_size) (encP_all HONE.out) ?_
      have HAS := Lib.hid (hh.rowl (encP p))
      have HB7 := Lib.hid (below_row ((Below.refl wr.heap.size wr).alloc (Nat.le_refl _) (.cells zPc 28)) (Nat.le_refl _) (encP p).toArray)
      clear hh
      generalize (wr.alloc (.cells zPc 28)).setRow wr.heap.size (encP p).toArray = w7 at *
      have HM7 := Lib.hid (HM.out.keep HB7.out HM.out.lt)
      have HBW := Lib.hid (HB.out.trans (HB7.out.mono HB.out.size))
      have HRN : Hid (r ≠ wr.heap.size) := Lib.hid (by have := HM.out.lt; omega)
      have hlk := lookup_u HM7.out p.1
      unfold aggU at hlk
      generalize wr.heap.size = g at *
      simp only [Act.put]
      refine wpList_nil ?_
      go_upto_region 5 with fail
      refine wp_region_lit ?_
      try simp only [Act.put, List.setIfInBounds_toArray, List.set_cons_zero, List.set_cons_succ]
      refine lp_pure (v := ?_) (by kernel_rfl) ?_ ?_
      rotate_left
      · go_simp; try with_reducible rfl
      try simp only [Act.put, List.setIfInBounds_toArray, List.set_cons_zero, List.set_cons_succ]
      refine lp_pure (v := ?_) (by kernel_rfl) ?_ ?_
      rotate_left
      · go_simp; try with_reducible rfl
      try simp only [Act.put, List.setIfInBounds_toArray, List.set_cons_zero, List.set_cons_succ]
      refine lp_pure (by kernel_rfl) (load_su 24 (.tmp 20) rfl ⟨g, 0, none⟩ rfl elSum.2.1 szSum p.1 (fun j u hu => by rw [add_lit', Nat.zero_add]; exact HAS.out.cellv (encP_su hu))) ?_
      try simp only [Act.put, List.setIfInBounds_toArray, List.set_cons_zero, List.set_cons_succ]
      refine lp_pure (v := ?_) (by kernel_rfl) ?_ ?_
      rotate_left
      · go_simp; try with_reducible rfl
      try simp only [Act.put, List.setIfInBounds_toArray, List.set_cons_zero, List.set_cons_succ]
      refine lp_pure (v := ?_) (by kernel_rfl) ?_ ?_
      rotate_left
      · go_simp; try with_reducible rfl
      try simp only [Act.put, List.setIfInBounds_toArray, List.set_cons_zero, List.set_cons_succ]
      refine lp_pure (v := ?_) (by kernel_rfl) ?_ ?_
      rotate_left
      · go_simp; try with_reducible rfl
      try simp only [Act.put, List.setIfInBounds_toArray, List.set_cons_zero, List.set_cons_succ]
      refine lp_pure (v := ?_) (by kernel_rfl) ?_ ?_
      rotate_left
      · go_simp; try with_reducible rfl
      try simp only [Act.put, List.setIfInBounds_toArray, List.set_cons_zero, List.set_cons_succ]
      refine lp_pure (v := ?_) (by kernel_rfl) ?_ ?_
      rotate_left
      · go_simp; try with_reducible rfl
      try simp only [Act.put, List.setIfInBounds_toArray, List.set_cons_zero, List.set_cons_succ]
      refine lp_pure (v := ?_) (by kernel_rfl) ?_ ?_
      rotate_left
      · go_simp; try with_reducible rfl
      try simp only [Act.put, List.setIfInBounds_toArray, List.set_cons_zero, List.set_cons_succ]
      refine wpList_nil ?_
      clear hlk
      cases hf : firstU (L.take j) p.1 with
      | some k =>
        simp only [Option.isSome_some]
        go_wp2_with fail
        go_roundw
        case rel =>
          refine ⟨j + 1, by omega, by go_num, ?_, HBW.out⟩
          rw [HTK.out, ← firstU_old _ _ hf]; exact HM7.out
        case measure => simp [intOf]; omega
      | none =>
        simp only [Option.isSome_none]
        obtain ⟨ob, hup, hmu⟩ := update_u HM7.out p.1 hf j
        have HMU : Hid (MapU { w7 with heap := w7.heap.setIfInBounds r ob } r (firstU (L.take (j + 1)))) := Lib.hid (by
          rw [HTK.out, ← firstU_new _ _ hf, HTL.out]; exact hmu)
        have HB8 : Hid (Below w.heap.size w { w7 with heap := w7.heap.setIfInBounds r ob }) := Lib.hid (below_map HBW.out (by rw [HR.out]; exact Nat.le_refl _) ob)
        unfold aggU at hup
        clear hmu hf
        go_upto_region 7 with fail
        refine wp_region_lit ?_
        try simp only [Act.put, List.setIfInBounds_toArray, List.set_cons_zero, List.set_cons_succ]
        refine lp_pure (v := ?_) (by kernel_rfl) ?_ ?_
        rotate_left
        · go_simp; try with_reducible rfl
        try simp only [Act.put, List.setIfInBounds_toArray, List.set_cons_zero, List.set_cons_succ]
        refine lp_pure (v := ?_) (by kernel_rfl) ?_ ?_
        rotate_left
        · go_simp; try with_reducible rfl
        try simp only [Act.put, List.setIfInBounds_toArray, List.set_cons_zero, List.set_cons_succ]
        refine lp_pure (by kernel_rfl) (load_su 24 (.tmp 28) rfl ⟨g, 0, none⟩ rfl elSum.2.1 szSum p.1 (fun j u hu => by rw [add_lit', Nat.zero_add]; exact HAS.out.cellv (encP_su hu))) ?_
        try simp only [Act.put, List.setIfInBounds_toArray, List.set_cons_zero, List.set_cons_succ]
        refine lp_pure (v := ?_) (by kernel_rfl) ?_ ?_
        rotate_left
        · go_simp; try with_reducible rfl
        try simp only [Act.put, List.setIfInBounds_toArray, List.set_cons_zero, List.set_cons_succ]
        refine wpList_update rfl 72 (.tmp 27) (.tmp 29) (.tmp 30) rfl _ _ _ trivial rfl rfl rfl hup ?_
        simp only [Act.put]
        refine wpList_nil ?_
        go_wp2_with fail
        go_roundw
        case rel => exact ⟨j + 1, by omega, by go_num, HMU.out, HB8.out⟩
        case measure => simp [intOf]; omega
    · have hjl : j = L.length := by omega
      subst hjl
      have k3 : ¬ ((L.length : Int) < (L.length : Int)) := by omega
      have hmf := HM.out
      rw [List.take_length] at hmf
      have HMF := Lib.hid hmf
      clear hlt hmf
      go_wp2_with fail
      go_ret
      exact ⟨by rw [← HR.out]; rfl, by rw [← HR.out]; exact HMF.out, HB.out⟩
end Go.Proofs.YthpledfjopbchaaDoor
/- Contract: chunk.Join: pieces put together. Conditions: at most a million names and pieces, no piece of more than a million bytes; the sums' tables are laid. -/
namespace Go.Proofs.YthpledfjopbchaaDoor
open Go.RowKit
/-- The bytes of each name's piece, one behind the other; or what is wrong. -/
def joinA (L : List Pc) : List Su → List (BitVec 8) → List (BitVec 8) × Nat
  | [], acc => (acc, 0)
  | s :: N, acc => match firstU L s with
    | none => ([], 5)
    | some i => match L[i]? with
      | none => ([], 5)
      | some p => if goodPc p then joinA L N (acc ++ p.2.2) else ([], 11)
theorem joinA_nil (L : List Pc) (acc : List (BitVec 8)) : joinA L [] acc = (acc, 0) := rfl
theorem joinA_none {L : List Pc} {s : Su} {N : List Su} {acc : List (BitVec 8)} (h : firstU L s = none) : joinA L (s :: N) acc = ([], 5) := by
  unfold joinA; rw [h]
theorem joinA_bad {L : List Pc} {s : Su} {N : List Su} {acc : List (BitVec 8)} {i : Nat} (h : firstU L s = some i) (hi : i < L.length) (hg : goodPc L[i] = false) : joinA L (s :: N) acc = ([], 11) := by
  rw [joinA]; simp only [h, List.getElem?_eq_getElem hi]; rw [if_neg (by rw [hg]; simp)]
theorem joinA_good {L : List Pc} {s : Su} {N : List Su} {acc : List (BitVec 8)} {i : Nat} (h : firstU L s = some i) (hi : i < L.length) (hg : goodPc L[i] = true) : joinA L (s :: N) acc = joinA L N (acc ++ L[i].2.2) := by
  rw [joinA]; simp only [h, List.getElem?_eq_getElem hi]; rw [if_pos hg]
theorem good_len {p : Pc} (h : goodPc p = true) : p.2.2.length ≤ 128 := by
  unfold goodPc at h
  rw [Bool.and_eq_true, Bool.and_eq_true, decide_eq_true_iff, decide_eq_true_iff] at h
  exact h.1.2
set_option maxHeartbeats 8000000 in
set_option maxRecDepth 100000 in
theorem join_any (N : List Su) (L : List Pc) (qn ql : Option Addr) (cn cl : Nat) (w : World) (hn : N.length ≤ 1000000) (hm : L.length ≤ 1000000) (hs : Sees w w.heap.size qn (rowU N)) (hl : Sees w w.heap.size ql (rowP L)) (hb : Pcb w L) (hx : ∀ p ∈ L, p.2.2.length ≤ 1000000) (hL : Laid w) :
    Calls Tryd.prog 10 #[.slice qn N.length cn, .slice ql L.length cl] w fun e w' => (∃ v, e = .returned (.tuple #[v, .int .i64 ((joinA L N []).2 : Nat)]) ∧ Bs w' v (joinA L N []).1) ∧ Below w.heap.size w w' := by
  have HF := Lib.hid (firsts_any L ql cl w hm hl hb)
  have HJ0 : Hid (joinA L N [] = joinA L (N.drop 0) []) := Lib.hid (by rw [List.drop_zero])
  obtain ⟨J, hJ⟩ : ∃ J, J = joinA L N [] := ⟨_, rfl⟩
  rw [← hJ] at HJ0 ⊢
  clear hJ
  have HS := Lib.hid hs
  have HLP := Lib.hid hl
  have HPB := Lib.hid hb
  have HX := Lib.hid hx
  have HL := Lib.hid hL
  have HSZ := Lib.hid hL.size
  clear hs hl hb hx hL
  go_enter Tryd.func10, Tryd.ntmps10
  go_upto_region 3 with ((with_reducible refine HF.out.mono ?_); rintro e w0 ⟨rfl, h1, h2⟩; have HM0 := Lib.hid h1; have HB0 := Lib.hid h2; clear h1 h2)
  clear HF
  obtain ⟨r, hr⟩ : ∃ r, r = w.heap.size := ⟨_, rfl⟩
  rw [← hr] at HM0 ⊢
  have HR := Lib.hid hr
  clear hr
  go_upto_region 4 with fail
  have HNIL := Lib.hid (World.ownsRow_nil w0 w0.heap.size 5 1)
  go_loopw [7, 16] (fun v vi wr => ∃ (j : Nat) (acc : List (BitVec 8)), j ≤ N.length ∧ vi = .int .i64 j ∧ acc.length ≤ 128 * j ∧ J = joinA L (N.drop j) acc ∧ wr.ownsRow w0.heap.size 5 1 v acc.length (acc.map u8v) ∧ Below w0.heap.size w0 wr) (fun _ vi _ => N.length - (intOf vi).toNat)
  case atStart => exact ⟨0, [], by omega, rfl, by simp, HJ0.out, HNIL.out, Below.refl _ _⟩
  case round =>
    clear HJ0 HNIL
    rename_i wr
    obtain ⟨j, acc, hj, rfl, hal, hJ, hrow, hB⟩ := hrel
    have HROW := Lib.hid hrow
    have HB := Lib.hid hB
    have HJ := Lib.hid hJ
    have HAL := Lib.hid hal
    clear hrow hB hJ hal
    have HBW := Lib.hid (HB0.out.trans (HB.out.mono HB0.out.size))
    by_cases hlt : j < N.length
    · obtain ⟨an, rfl, _, hcn⟩ := Ss.el (HS.out.keep HBW.out) hlt
      have hdr : N.drop j = N[j] :: N.drop (j + 1) := List.drop_eq_getElem_cons hlt
      obtain ⟨s, hsx⟩ : ∃ s, s = N[j] := ⟨_, rfl⟩
      rw [← hsx] at hcn hdr
      rw [hdr] at HJ
      have HCN := Lib.hid hcn
      clear hcn hsx hdr
      have hjj : (j : Int) < (N.length : Int) := by omega
      have hll : j < 1000000 := by omega
      go_upto_region 5 with fail
      refine wp_region_lit ?_
      try simp only [Act.put, List.setIfInBounds_toArray, List.set_cons_zero, List.set_cons_succ]
      refine lp_pure (v := ?_) (by kernel_rfl) ?_ ?_
      rotate_left
      · go_simp; try with_reducible rfl
      try simp only [Act.put, List.setIfInBounds_toArray, List.set_cons_zero, List.set_cons_succ]
      refine lp_pure (by kernel_rfl) (load_su 24 (.tmp 18) rfl (an.add (j * 32)) rfl elSum.2.1 szSum s (HCN.out _ (Below.refl _ _))) ?_
      try simp only [Act.put, List.setIfInBounds_toArray, List.set_cons_zero, List.set_cons_succ]
      refine wp_copy_su rfl 24 (zSu_run wr) szSum rfl rfl (.tmp 9) (.tmp 19) rfl s rfl rfl ?_
      intro w7 h1 h2
      have HAS := Lib.hid h1
      have HB7 := Lib.hid h2
      clear h1 h2
      have HB77 := Lib.hid (HB.out.trans (HB7.out.mono HB.out.size))
      have HM7 := Lib.hid (HM0.out.keep HB77.out HM0.out.lt)
      have HROW7 := Lib.hid (own_keep HROW.out HB7.out (fun k hk => hk))
      have hlk := lookup_u HM7.out s
      unfold aggU at hlk
      generalize wr.heap.size = g at *
      try simp only [Act.put, List.setIfInBounds_toArray, List.set_cons_zero, List.set_cons_succ]
      refine wpList_nil ?_
      go_upto_region 6 with fail
      refine wp_region_lit ?_
      try simp only [Act.put, List.setIfInBounds_toArray, List.set_cons_zero, List.set_cons_succ]
      refine lp_pure (v := ?_) (by kernel_rfl) ?_ ?_
      rotate_left
      · go_simp; try with_reducible rfl
      try simp only [Act.put, List.setIfInBounds_toArray, List.set_cons_zero, List.set_cons_succ]
      refine lp_pure (by kernel_rfl) (load_su 24 (.tmp 9) rfl ⟨g, 0, none⟩ rfl elSum.2.1 szSum s (fun j u hu => by rw [add_lit', Nat.zero_add]; exact HAS.out.cellv hu)) ?_
      try simp only [Act.put, List.setIfInBounds_toArray, List.set_cons_zero, List.set_cons_succ]
      refine lp_pure (v := ?_) (by kernel_rfl) ?_ ?_
      rotate_left
      · go_simp; try with_reducible rfl
      try simp only [Act.put, List.setIfInBounds_toArray, List.set_cons_zero, List.set_cons_succ]
      refine lp_pure (v := ?_) (by kernel_rfl) ?_ ?_
      rotate_left
      · go_simp; try with_reducible rfl
      try simp only [Act.put, List.setIfInBounds_toArray, List.set_cons_zero, List.set_cons_succ]
      refine lp_pure (v := ?_) (by kernel_rfl) ?_ ?_
      rotate_left
      · go_simp; try with_reducible rfl
      try simp only [Act.put, List.setIfInBounds_toArray, List.set_cons_zero, List.set_cons_succ]
      refine lp_pure (v := ?_) (by kernel_rfl) ?_ ?_
      rotate_left
      · go_simp; try with_reducible rfl
      try simp only [Act.put, List.setIfInBounds_toArray, List.set_cons_zero, List.set_cons_succ]
      refine lp_pure (v := ?_) (by kernel_rfl) ?_ ?_
      rotate_left
      · go_simp; try with_reducible rfl
      try simp only [Act.put, List.setIfInBounds_toArray, List.set_cons_zero, List.set_cons_succ]
      refine lp_pure (v := ?_) (by kernel_rfl) ?_ ?_
      rotate_left
      · go_simp; try with_reducible rfl
      try simp only [Act.put, List.setIfInBounds_toArray, List.set_cons_zero, List.set_cons_succ]
      refine wpList_nil ?_
      clear hlk
      cases hf : firstU L s with
      | none =>
        simp only [Option.isSome_none]
        have HE : Hid (J = ([], 5)) := Lib.hid (HJ.out.trans (joinA_none hf))
        clear hf
        go_wp2_with fail
        (try simp only [Exit.inBlock, Exit.then]); refine bodyPost_ret (results_tmp2 rfl _ _ _) rfl ?_
        rw [HE.out]
        exact ⟨⟨_, rfl, Bs.nil _⟩, HB0.out.trans (HB77.out.mono HB0.out.size)⟩
      | some m =>
        simp only [Option.isSome_some, Option.getD_some]
        obtain ⟨hml, hms⟩ := firstU_lt hf
        have HBL := Lib.hid (HB0.out.trans (HB77.out.mono HB0.out.size))
        obtain ⟨al, rfl, _, hcp⟩ := Sees.pc (HLP.out.keep HBL.out) hml
        have hmem : L[m] ∈ L := List.getElem_mem hml
        have hbs := (HPB.out _ hmem).keep HBL.out
        have hxl := HX.out _ hmem
        have HGT : Hid (goodPc L[m] = true → J = joinA L (N.drop (j + 1)) (acc ++ L[m].2.2) ∧ L[m].2.2.length ≤ 128) := Lib.hid (fun hg => ⟨HJ.out.trans (joinA_good hf hml hg), good_len hg⟩)
        have HGF : Hid (goodPc L[m] = false → J = ([], 11)) := Lib.hid (fun hg => HJ.out.trans (joinA_bad hf hml hg))
        obtain ⟨p, hp⟩ : ∃ p, p = L[m] := ⟨_, rfl⟩
        rw [← hp] at hcp hbs hxl HGT HGF
        have HCP := Lib.hid hcp
        have HBS := Lib.hid hbs
        have HGD := Lib.hid (pgood_any p w7 hbs (by omega) (HL.out.keep HBL.out HSZ.out))
        have km : (m : Int) < (L.length : Int) := by omega
        clear hcp hbs hxl hp hmem hms hf
        go_upto_region 9 with fail
        refine wp_region_lit ?_
        try simp only [Act.put, List.setIfInBounds_toArray, List.set_cons_zero, List.set_cons_succ]
        refine lp_pure (v := ?_) (by kernel_rfl) ?_ ?_
        rotate_left
        · go_simp; try with_reducible rfl
        try simp only [Act.put, List.setIfInBounds_toArray, List.set_cons_zero, List.set_cons_succ]
        refine lp_pure (v := ?_) (by kernel_rfl) ?_ ?_
        rotate_left
        · go_simp; try with_reducible rfl
        try simp only [Act.put, List.setIfInBounds_toArray, List.set_cons_zero, List.set_cons_succ]
        refine lp_pure (v := ?_) (by kernel_rfl) ?_ ?_
        rotate_left
        · go_simp; try with_reducible rfl
        try simp only [Act.put, List.setIfInBounds_toArray, List.set_cons_zero, List.set_cons_succ]
        refine lp_pure (by kernel_rfl) (load_pc 33 28 elPc (.tmp 30) rfl (al.add (m * 33)) rfl p (HCP.out _ (Below.refl _ _))) ?_
        try simp only [Act.put, List.setIfInBounds_toArray, List.set_cons_zero, List.set_cons_succ]
        refine lp_step (by kernel_rfl) (fun K hK => ?_)
        go_wp2_with fail
        refine Calls.mono (HGD.out) ?_
        rintro e w8 ⟨rfl, hB8⟩
        have HB8 := Lib.hid hB8
        have HBE := Lib.hid (HBL.out.trans (hB8.mono HBL.out.size))
        clear hB8
        refine hK _ _ ?_
        clear hK
        try simp only [Act.put, List.setIfInBounds_toArray, List.set_cons_zero, List.set_cons_succ]
        refine lp_pure (v := ?_) (by kernel_rfl) ?_ ?_
        rotate_left
        · go_simp; try with_reducible rfl
        try simp only [Act.put, List.setIfInBounds_toArray, List.set_cons_zero, List.set_cons_succ]
        refine wpList_nil ?_
        cases hg : goodPc p with
        | false =>
          have HE := Lib.hid (HGF.out hg)
          clear hg
          go_wp2_with fail
          (try simp only [Exit.inBlock, Exit.then]); refine bodyPost_ret (results_tmp2 rfl _ _ _) rfl ?_
          rw [HE.out]
          exact ⟨⟨_, rfl, Bs.nil _⟩, HBE.out⟩
        | true =>
          obtain ⟨hE, hpl⟩ := HGT.out hg
          have HE := Lib.hid hE
          have HPL := Lib.hid hpl
          have HROW8 := Lib.hid (own_keep HROW7.out HB8.out (fun k hk => hk))
          obtain ⟨qp, cp, hpv, hcp1, hqp, hsp⟩ := HBS.out.keep HB8.out
          have c32 := HCP.out w8 (HB8.out.mono HBL.out.size) 32 _ (encP_b p)
          rw [hpv] at c32
          have e32 : (⟨(al.add (m * 33)).block, (al.add (m * 33)).off + 32, none⟩ : Addr) = (al.add (m * 33)).add 32 := rfl
          rw [← e32] at c32
          have HQP := Lib.hid hqp
          have HSP := Lib.hid hsp
          have HLE : Hid (acc.length + p.2.2.length ≤ 140737488355328) := Lib.hid (by have := HAL.out; omega)
          have HBZ : Hid (w0.heap.size ≤ w8.heap.size) := Lib.hid (Nat.le_trans HB77.out.size HB8.out.size)
          clear hg hE hpl hpv hcp1 hqp hsp e32
          go_wp2_with (refine wpList_append_sees rfl (.tmp 34) (.tmp 39) rfl w0.heap.size _ acc.length (acc.map u8v) rfl HROW8.out qp p.2.2 cp w8.heap.size rfl HQP.out HSP.out HLE.out HBZ.out ?_; intro v9 w9 h1 h2; have HROW9 := Lib.hid h1; have HB9 := Lib.hid h2; clear h1 h2)
          go_roundw
          case rel =>
            have hr := HROW9.out
            rw [← List.length_append, ← List.map_append] at hr
            exact ⟨j + 1, acc ++ p.2.2, by omega, by go_num, by rw [List.length_append]; have h1 := HAL.out; have h2 := HPL.out; omega, HE.out, hr, (HB77.out.trans (HB8.out.mono HB77.out.size)).trans HB9.out⟩
          case measure => simp [intOf]; omega
    · have hjl : j = N.length := by omega
      subst hjl
      have k3 : ¬ ((N.length : Int) < (N.length : Int)) := by omega
      have hj0 := HJ.out
      rw [List.drop_length, joinA_nil] at hj0
      have HE := Lib.hid hj0
      have HBO := Lib.hid (Bs.own HROW.out)
      clear hlt hj0
      go_wp2_with fail
      (try simp only [Exit.inBlock, Exit.then]); refine bodyPost_ret (results_tmp2 rfl _ _ _) rfl ?_
      rw [HE.out]
      exact ⟨⟨_, rfl, HBO.out⟩, HBW.out⟩
end Go.Proofs.YthpledfjopbchaaDoor
/- Contracts: the document's own Names and Join. Conditions: at most a million each; the sums' tables are laid. -/
namespace Go.Proofs.YthpledfjopbchaaDoor
open Go.RowKit
set_option maxHeartbeats 4000000 in
set_option maxRecDepth 100000 in
theorem rnames_any (b : List (BitVec 8)) (q : Option Addr) (c : Nat) (w : World) (hc : b.length ≤ c) (hq : q = none → c = 0) (hl : b.length ≤ 1000000) (hs : Sees w w.heap.size q (b.map u8v)) :
    Calls Tryd.prog 18 #[.slice q b.length c] w fun e w' => (∃ v, e = .returned v ∧ OwnU w' w.heap.size 46 v (namesU b)) ∧ Below w.heap.size w w' := by
  have HC := Lib.hid (rcut_any b q c w hc hq hl hs)
  have HNL : Hid ((cutP b).length ≤ 1000000) := Lib.hid (by rw [cutP_length]; exact Nat.le_trans (endsL_count plR_ok b) hl)
  have HNA : Hid (namesU b = (cutP b).map (·.1)) := Lib.hid rfl
  generalize cutP b = X at *
  clear hs
  go_enter Tryd.func18, Tryd.ntmps18
  go_upto_region 4 with ((with_reducible refine HC.out.mono ?_); rintro e w4 ⟨⟨v4, LP, rfl, ⟨q5, c5, rfl, hlc, hq5, hse⟩, hpb, hkey⟩, hB⟩; have HB4 := Lib.hid hB; have HSE := Lib.hid hse; have HKEY := Lib.hid hkey; clear hB hse hpb hkey)
  have HLX : Hid (LP.length = X.length) := Lib.hid (by rw [← HKEY.out, List.length_map])
  have hlx : LP.length ≤ 1000000 := by rw [HLX.out]; exact HNL.out
  have HNIL := Lib.hid (OwnU.nil w4 w4.heap.size 46)
  clear HC
  go_loopw [3, 5] (fun v vi wr => ∃ j : Nat, j ≤ LP.length ∧ vi = .int .i64 j ∧ OwnU wr w4.heap.size 46 v ((LP.take j).map (·.1)) ∧ Below w4.heap.size w4 wr) (fun _ vi _ => LP.length - (intOf vi).toNat)
  case atStart => exact ⟨0, by omega, rfl, HNIL.out, Below.refl _ _⟩
  case round =>
    clear HNIL
    rename_i wr
    obtain ⟨j, hj, rfl, hrow, hB⟩ := hrel
    have HROW := Lib.hid hrow
    have HB := Lib.hid hB
    clear hrow hB
    by_cases hlt : j < LP.length
    · obtain ⟨ad, rfl, hab, hcell⟩ := Sees.pc (HSE.out.keep HB.out) hlt
      obtain ⟨p, hp⟩ : ∃ p, p = LP[j] := ⟨_, rfl⟩
      rw [← hp] at hcell
      have HCELL := Lib.hid (hcell wr (Below.refl _ _))
      have HXJ : Hid ((LP.take (j + 1)).map (·.1) = (LP.take j).map (·.1) ++ [p.1]) := Lib.hid (by rw [List.take_add_one, List.getElem?_eq_getElem hlt, ← hp]; simp)
      clear hcell hab hp
      have hjj : (j : Int) < (LP.length : Int) := by omega
      have hll : j < 1000000 := by omega
      have HLEN : Hid (((LP.take j).map (·.1)).length + 1 ≤ 4000000) := Lib.hid (by rw [List.length_map, List.length_take]; omega)
      go_upto_region 6 with fail
      refine wp_region_lit ?_
      try simp only [Act.put, List.setIfInBounds_toArray, List.set_cons_zero, List.set_cons_succ]
      refine lp_pure (v := ?_) (by kernel_rfl) ?_ ?_
      rotate_left
      · go_simp; try with_reducible rfl
      try simp only [Act.put, List.setIfInBounds_toArray, List.set_cons_zero, List.set_cons_succ]
      refine lp_pure (v := ?_) (by kernel_rfl) ?_ ?_
      rotate_left
      · go_simp; try with_reducible rfl
      try simp only [Act.put, List.setIfInBounds_toArray, List.set_cons_zero, List.set_cons_succ]
      refine lp_pure (v := ?_) (by kernel_rfl) ?_ ?_
      rotate_left
      · go_simp; try with_reducible rfl
      try simp only [Act.put, List.setIfInBounds_toArray, List.set_cons_zero, List.set_cons_succ]
      refine lp_pure (v := ?_) (by kernel_rfl) ?_ ?_
      rotate_left
      · go_simp; try with_reducible rfl
      try simp only [Act.put, List.setIfInBounds_toArray, List.set_cons_zero, List.set_cons_succ]
      refine lp_pure (v := ?_) (by kernel_rfl) ?_ ?_
      rotate_left
      · go_simp; try with_reducible rfl
      try simp only [Act.put, List.setIfInBounds_toArray, List.set_cons_zero, List.set_cons_succ]
      refine lp_pure (by kernel_rfl) (load_su 46 (.tmp 18) rfl (ad.add (j * 33)) rfl elRef.2.1 szRef p.1 (fun j u hu => HCELL.out j u (encP_su hu))) ?_
      try simp only [Act.put, List.setIfInBounds_toArray, List.set_cons_zero, List.set_cons_succ]
      refine wpList_one_su rfl 44 46 elRefs (.tmp 19) rfl p.1 rfl ?_
      try simp only [Act.put, List.setIfInBounds_toArray, List.set_cons_zero, List.set_cons_succ]
      refine wpList_append_su rfl 44 46 elRefs (.tmp 14) (.tmp 20) rfl w4.heap.size _ ((LP.take j).map (·.1)) rfl (HROW.out.keep ((Below.refl _ _).alloc (Nat.le_refl _) _)) (some ⟨wr.heap.size, 0, none⟩) [p.1] 1 1 (wr.heap.size + 1) rfl rfl (fun h => by cases h) (Ss.one (Has.made' _ _ _ _ rfl) (by omega)) HLEN.out (by have := HB.out.size; simp; omega) ?_
      intro v8 w8 h1 h2
      have HROW2 := Lib.hid h1
      have HB8 := Lib.hid h2
      clear h1 h2
      try simp only [Act.put, List.setIfInBounds_toArray, List.set_cons_zero, List.set_cons_succ]
      refine lp_pure (v := ?_) (by kernel_rfl) ?_ ?_
      rotate_left
      · go_simp; try with_reducible rfl
      try simp only [Act.put, List.setIfInBounds_toArray, List.set_cons_zero, List.set_cons_succ]
      refine wpList_nil ?_
      go_wp2_with fail
      go_roundw
      case rel =>
        refine ⟨j + 1, by omega, by go_num, ?_, (HB.out.trans ((Below.refl _ _).alloc HB.out.size _)).trans HB8.out⟩
        rw [HXJ.out]; exact HROW2.out
      case measure => simp [intOf]; omega
    · have hjl : j = LP.length := by omega
      subst hjl
      have k3 : ¬ ((LP.length : Int) < (LP.length : Int)) := by omega
      have HPV : Hid (OwnU wr w4.heap.size 46 _ (namesU b)) := Lib.hid (by
        have e : (LP.take LP.length).map (·.1) = namesU b := by rw [List.take_length, HNA.out, ← HKEY.out, List.map_map]; rfl
        rw [← e]; exact HROW.out)
      clear hlt
      go_wp2_with fail
      go_ret
      exact ⟨⟨_, rfl, HPV.out.less HB4.out.size⟩, HB4.out.trans (HB.out.mono HB4.out.size)⟩
theorem firstU_at {L : List Pc} {s : Su} {k : Nat} (hk : k < L.length) (h1 : ∀ m (hm : m < L.length), m < k → L[m].1 ≠ s) (h2 : L[k].1 = s) : firstU L s = some k := by
  unfold firstU
  rw [List.findIdx?_eq_some_iff_getElem]
  exact ⟨hk, by simpa using h2, fun m hm => by simpa using h1 m (by omega) hm⟩
theorem firstU_no {L : List Pc} {s : Su} (h1 : ∀ m (hm : m < L.length), L[m].1 ≠ s) : firstU L s = none := by
  unfold firstU
  rw [List.findIdx?_eq_none_iff]
  intro p hp
  obtain ⟨m, hm, rfl⟩ := List.mem_iff_getElem.1 hp
  simpa using h1 m hm
set_option maxHeartbeats 8000000 in
set_option maxRecDepth 100000 in
theorem rjoin_any (N : List Su) (L : List Pc) (qn ql : Option Addr) (cn cl : Nat) (w : World) (hn : N.length ≤ 1000000) (hm : L.length ≤ 1000000) (hs : Sees w w.heap.size qn (rowU N)) (hl : Sees w w.heap.size ql (rowP L)) (hb : Pcb w L) (hx : ∀ p ∈ L, p.2.2.length ≤ 1000000) (hL : Laid w) :
    Calls Tryd.prog 21 #[.slice qn N.length cn, .slice ql L.length cl] w fun e w' => (∃ v, e = .returned (.tuple #[v, .int .i64 ((joinA L N []).2 : Nat)]) ∧ Bs w' v (joinA L N []).1) ∧ Below w.heap.size w w' := by
  have HJ0 : Hid (joinA L N [] = joinA L (N.drop 0) []) := Lib.hid (by rw [List.drop_zero])
  obtain ⟨J, hJ⟩ : ∃ J, J = joinA L N [] := ⟨_, rfl⟩
  rw [← hJ] at HJ0 ⊢
  clear hJ
  have HS := Lib.hid hs
  have HLP := Lib.hid hl
  have HPB := Lib.hid hb
  have HX := Lib.hid hx
  have HL := Lib.hid hL
  have HSZ := Lib.hid hL.size
  clear hs hl hb hx hL
  go_enter Tryd.func21, Tryd.ntmps21
  go_upto_region 3 with fail
  have HNIL := Lib.hid (World.ownsRow_nil w w.heap.size 5 1)
  go_loopw [6, 7, 8] (fun v vi vk wq => ∃ (j : Nat) (acc : List (BitVec 8)), j ≤ N.length ∧ vi = .int .i64 j ∧ acc.length ≤ 128 * j ∧ J = joinA L (N.drop j) acc ∧ wq.ownsRow w.heap.size 5 1 v acc.length (acc.map u8v) ∧ Below w.heap.size w wq) (fun _ vi _ _ => N.length - (intOf vi).toNat)
  case atStart => exact ⟨0, [], by omega, rfl, by simp, HJ0.out, HNIL.out, Below.refl _ _⟩
  case round =>
    clear HJ0 HNIL
    rename World => wq
    obtain ⟨j, acc, hj, rfl, hal, hJ, hrow, hB⟩ := hrel
    have HROW := Lib.hid hrow
    have HB := Lib.hid hB
    have HJ := Lib.hid hJ
    have HAL := Lib.hid hal
    clear hrow hB hJ hal
    by_cases hlt : j < N.length
    · obtain ⟨an, rfl, _, hcn⟩ := Ss.el HS.out hlt
      have hdr : N.drop j = N[j] :: N.drop (j + 1) := List.drop_eq_getElem_cons hlt
      obtain ⟨s, hsx⟩ : ∃ s, s = N[j] := ⟨_, rfl⟩
      rw [← hsx] at hcn hdr
      rw [hdr] at HJ
      have HCN := Lib.hid hcn
      clear hcn hsx hdr
      have hjj : (j : Int) < (N.length : Int) := by omega
      have hll : j < 1000000 := by omega
      go_upto_region 6 with fail
      have HROWB := Lib.hid (⟨HROW.out, Below.refl wq.heap.size wq⟩ : wq.ownsRow w.heap.size 5 1 _ acc.length (acc.map u8v) ∧ Below wq.heap.size wq wq)
      go_loopw [8] (fun vk wr => ∃ k : Nat, k ≤ L.length ∧ vk = .int .i64 k ∧ (∀ m (hm : m < L.length), m < k → L[m].1 ≠ s) ∧ Below wq.heap.size wq wr) (fun vk _ => L.length - (intOf vk).toNat)
      case atStart => exact ⟨0, by omega, rfl, fun m _ h => by omega, Below.refl _ _⟩
      case round =>
        rename World => wr
        obtain ⟨k, hk, rfl, hno, hBr⟩ := hrel
        have HNO := Lib.hid hno
        have HBR := Lib.hid hBr
        clear hno hBr
        have kj : (j : Int) < (N.length : Int) := by omega
        have kll : k < 1000000 ∨ k = 1000000 := by omega
        have kwk : IntKind.i64.wrap ((k : Int) + 1) = (k : Int) + 1 := by rw [IntWalk.i64_in _ (by omega)]
        by_cases hkl : k < L.length
        · obtain ⟨al, rfl, _, hcp⟩ := Sees.pc HLP.out hkl
          have kl : (k : Int) < (L.length : Int) := by omega
          have HBT := Lib.hid (HB.out.trans (HBR.out.mono HB.out.size))
          have hmem : L[k] ∈ L := List.getElem_mem hkl
          have hbs := (HPB.out _ hmem).keep HBT.out
          have hxl := HX.out _ hmem
          have HEQ : Hid (L[k].1 = s → firstU L s = some k) := Lib.hid (fun h => firstU_at hkl HNO.out h)
          have HNE : Hid (L[k].1 ≠ s → ∀ m (hm : m < L.length), m < k + 1 → L[m].1 ≠ s) := Lib.hid (fun h m hm hmk => by
            by_cases e : m = k
            · subst e; exact h
            · exact HNO.out m hm (by omega))
          have HGT : Hid (firstU L s = some k → goodPc L[k] = true → J = joinA L (N.drop (j + 1)) (acc ++ L[k].2.2) ∧ L[k].2.2.length ≤ 128) := Lib.hid (fun hf hg => ⟨HJ.out.trans (joinA_good hf hkl hg), good_len hg⟩)
          have HGF : Hid (firstU L s = some k → goodPc L[k] = false → J = ([], 11)) := Lib.hid (fun hf hg => HJ.out.trans (joinA_bad hf hkl hg))
          obtain ⟨p, hp⟩ : ∃ p, p = L[k] := ⟨_, rfl⟩
          rw [← hp] at hcp hbs hxl HGT HGF HEQ HNE
          have HBS := Lib.hid hbs
          have HXL := Lib.hid hxl
          have HCP : Hid (∀ w', Below wr.heap.size wr w' → ∀ m u, (encP p)[m]? = some u → w'.cell? ((al.add (k * 33)).add m) = some u) := Lib.hid (fun w' h => hcp w' (HBT.out.trans (h.mono HBT.out.size)))
          have HCS : Hid (∀ w', Below wr.heap.size wr w' → ∀ m u, (encU s)[m]? = some u → w'.cell? ((an.add (j * 32)).add m) = some u) := Lib.hid (fun w' h => HCN.out w' (HBT.out.trans (h.mono HBT.out.size)))
          clear hcp hbs hxl hp hmem
          go_upto_region 6 with fail
          refine wp_region_org [(0, true), (1, true), (2, true), (3, true), (4, true), (5, true), (6, true), (7, true), (8, true), (9, true), (10, true), (11, true), (12, true), (13, true), (14, true), (15, true)] (by kernel_rfl) (by kernel_rfl) (by kernel_rfl) ?_
          replace HCP : Hid (∀ w', Ext wr.drew w' → ∀ m u, (encP p)[m]? = some u → w'.cell? ((al.add (k * 33)).add m) = some u) := Lib.hid (fun w' hv => HCP.out w' (Ext.trans (Below.refl _ _).drew hv))
          replace HCS : Hid (∀ w', Ext wr.drew w' → ∀ m u, (encU s)[m]? = some u → w'.cell? ((an.add (j * 32)).add m) = some u) := Lib.hid (fun w' hv => HCS.out w' (Ext.trans (Below.refl _ _).drew hv))
          replace HBR := Lib.hid HBR.out.drew
          replace HBT := Lib.hid HBT.out.drew
          replace HBS : Hid (Bs wr.drew p.2.1 p.2.2) := Lib.hid HBS.out
          generalize wr.drew = wd at *
          simp only [pickOrs, List.getElem?_cons_zero, List.getElem?_cons_succ]
          refine org_pure (v := ?_) (by kernel_rfl) ?_ ?_
          rotate_left
          · intro w' hv; clear hv; go_simp; try with_reducible rfl
          try simp only [Act.put, List.setIfInBounds_toArray, List.set_cons_zero, List.set_cons_succ]
          refine org_pure (v := ?_) (by kernel_rfl) ?_ ?_
          rotate_left
          · intro w' hv; clear hv; go_simp; try with_reducible rfl
          try simp only [Act.put, List.setIfInBounds_toArray, List.set_cons_zero, List.set_cons_succ]
          refine org_pure (v := ?_) (by kernel_rfl) ?_ ?_
          rotate_left
          · intro w' hv; clear hv; go_simp; try with_reducible rfl
          try simp only [Act.put, List.setIfInBounds_toArray, List.set_cons_zero, List.set_cons_succ]
          refine org_pure (v := ?_) (by kernel_rfl) ?_ ?_
          rotate_left
          · intro w' hv; clear hv; go_simp; try with_reducible rfl
          try simp only [Act.put, List.setIfInBounds_toArray, List.set_cons_zero, List.set_cons_succ]
          refine org_pure (v := ?_) (by kernel_rfl) ?_ ?_
          rotate_left
          · intro w' hv; clear hv; go_simp; try with_reducible rfl
          try simp only [Act.put, List.setIfInBounds_toArray, List.set_cons_zero, List.set_cons_succ]
          refine org_pure (v := ?_) (by kernel_rfl) ?_ ?_
          rotate_left
          · intro w' hv; clear hv; go_simp; try with_reducible rfl
          try simp only [Act.put, List.setIfInBounds_toArray, List.set_cons_zero, List.set_cons_succ]
          refine org_pure (v := ?_) (by kernel_rfl) ?_ ?_
          rotate_left
          · intro w' hv; clear hv; go_simp; try with_reducible rfl
          try simp only [Act.put, List.setIfInBounds_toArray, List.set_cons_zero, List.set_cons_succ]
          refine org_pure (v := ?_) (by kernel_rfl) ?_ ?_
          rotate_left
          · intro w' hv; clear hv; go_simp; try with_reducible rfl
          try simp only [Act.put, List.setIfInBounds_toArray, List.set_cons_zero, List.set_cons_succ]
          refine org_pure (v := ?_) (by kernel_rfl) ?_ ?_
          rotate_left
          · intro w' hv; clear hv; go_simp; try with_reducible rfl
          try simp only [Act.put, List.setIfInBounds_toArray, List.set_cons_zero, List.set_cons_succ]
          refine org_pure (by kernel_rfl) (fun w' hv => load_su 46 (.tmp 23) rfl (al.add (k * 33)) rfl elRef.2.1 szRef p.1 (fun m u hu => HCP.out _ hv m u (encP_su hu))) ?_
          try simp only [Act.put, List.setIfInBounds_toArray, List.set_cons_zero, List.set_cons_succ]
          refine org_pure (v := ?_) (by kernel_rfl) ?_ ?_
          rotate_left
          · intro w' hv; clear hv; go_simp; try with_reducible rfl
          try simp only [Act.put, List.setIfInBounds_toArray, List.set_cons_zero, List.set_cons_succ]
          refine org_pure (v := ?_) (by kernel_rfl) ?_ ?_
          rotate_left
          · intro w' hv; clear hv; go_simp; try with_reducible rfl
          try simp only [Act.put, List.setIfInBounds_toArray, List.set_cons_zero, List.set_cons_succ]
          refine org_pure (v := ?_) (by kernel_rfl) ?_ ?_
          rotate_left
          · intro w' hv; clear hv; go_simp; try with_reducible rfl
          try simp only [Act.put, List.setIfInBounds_toArray, List.set_cons_zero, List.set_cons_succ]
          refine org_pure (by kernel_rfl) (fun w' hv => load_su 46 (.tmp 27) rfl (an.add (j * 32)) rfl elRef.2.1 szRef s (HCS.out _ hv)) ?_
          try simp only [Act.put, List.setIfInBounds_toArray, List.set_cons_zero, List.set_cons_succ]
          refine org_pure (by kernel_rfl) (fun w' hv => neq_su 46 (.tmp 24) (.tmp 28) _ rfl p.1 s rfl rfl elRef.2.1 gdRef) ?_
          try simp only [Act.put, List.setIfInBounds_toArray, List.set_cons_zero, List.set_cons_succ]
          by_cases hps : p.1 = s
          · have HF := Lib.hid (HEQ.out hps)
            simp only [decide_eq_true hps, Bool.not_true]
            clear hps HEQ HNE
            refine org_pure (v := ?_) (by kernel_rfl) ?_ ?_
            rotate_left
            · intro w' hv; clear hv; go_simp; try with_reducible rfl
            try simp only [Act.put, List.setIfInBounds_toArray, List.set_cons_zero, List.set_cons_succ]
            refine org_nil ?_
            have kne : ¬ ((k : Int) = (L.length : Int)) := by omega
            have HGD := Lib.hid (rgoodp_any p wd HBS.out (by have := HXL.out; omega) (HL.out.keep HBT.out HSZ.out))
            go_upto_region 10 with fail
            refine wp_region_lit ?_
            try simp only [Act.put, List.setIfInBounds_toArray, List.set_cons_zero, List.set_cons_succ]
            refine lp_pure (v := ?_) (by kernel_rfl) ?_ ?_
            rotate_left
            · go_simp; try with_reducible rfl
            try simp only [Act.put, List.setIfInBounds_toArray, List.set_cons_zero, List.set_cons_succ]
            refine lp_pure (v := ?_) (by kernel_rfl) ?_ ?_
            rotate_left
            · go_simp; try with_reducible rfl
            try simp only [Act.put, List.setIfInBounds_toArray, List.set_cons_zero, List.set_cons_succ]
            refine lp_pure (v := ?_) (by kernel_rfl) ?_ ?_
            rotate_left
            · go_simp; try with_reducible rfl
            try simp only [Act.put, List.setIfInBounds_toArray, List.set_cons_zero, List.set_cons_succ]
            refine lp_pure (by kernel_rfl) (load_pc 40 48 elRpc (.tmp 39) rfl (al.add (k * 33)) rfl p (HCP.out _ (Below.refl _ _))) ?_
            try simp only [Act.put, List.setIfInBounds_toArray, List.set_cons_zero, List.set_cons_succ]
            refine lp_step (by kernel_rfl) (fun K hK => ?_)
            go_wp2_with fail
            refine Calls.mono (HGD.out) ?_
            rintro e w8 ⟨rfl, hB8⟩
            have HB8 := Lib.hid hB8
            have HBE := Lib.hid (HBT.out.trans (hB8.mono HBT.out.size))
            clear hB8
            refine hK _ _ ?_
            clear hK
            try simp only [Act.put, List.setIfInBounds_toArray, List.set_cons_zero, List.set_cons_succ]
            refine lp_pure (v := ?_) (by kernel_rfl) ?_ ?_
            rotate_left
            · go_simp; try with_reducible rfl
            try simp only [Act.put, List.setIfInBounds_toArray, List.set_cons_zero, List.set_cons_succ]
            refine wpList_nil ?_
            cases hg : goodPc p with
            | false =>
              have HE := Lib.hid (HGF.out HF.out hg)
              clear hg
              go_wp2_with fail
              (try simp only [Exit.inBlock, Exit.then]); refine bodyPost_ret (results_tmp2 rfl _ _ _) rfl ?_
              rw [HE.out]
              exact ⟨⟨_, rfl, Bs.nil _⟩, HBE.out⟩
            | true =>
              obtain ⟨hE, hpl⟩ := HGT.out HF.out hg
              have HE := Lib.hid hE
              have HPL := Lib.hid hpl
              have HROW8 := Lib.hid (own_keep HROW.out (HBR.out.trans (HB8.out.mono HBR.out.size)) (fun _ h => h))
              obtain ⟨qp, cp, hpv, hcp1, hqp, hsp⟩ := HBS.out.keep HB8.out
              have c32 := HCP.out w8 HB8.out 32 _ (encP_b p)
              rw [hpv] at c32
              have e32 : (⟨(al.add (k * 33)).block, (al.add (k * 33)).off + 32, none⟩ : Addr) = (al.add (k * 33)).add 32 := rfl
              rw [← e32] at c32
              have HQP := Lib.hid hqp
              have HSP := Lib.hid hsp
              have HLE : Hid (acc.length + p.2.2.length ≤ 140737488355328) := Lib.hid (by have := HAL.out; omega)
              have HBZ : Hid (w.heap.size ≤ w8.heap.size) := Lib.hid HBE.out.size
              clear hg hE hpl hpv hcp1 hqp hsp e32
              go_wp2_with (refine wpList_append_sees rfl (.tmp 43) (.tmp 48) rfl w.heap.size _ acc.length (acc.map u8v) rfl HROW8.out qp p.2.2 cp w8.heap.size rfl HQP.out HSP.out HLE.out HBZ.out ?_; intro v9 w9 h1 h2; have HROW9 := Lib.hid h1; have HB9 := Lib.hid h2; clear h1 h2)
              go_roundw
              case rel =>
                have hr := HROW9.out
                rw [← List.length_append, ← List.map_append] at hr
                exact ⟨j + 1, acc ++ p.2.2, by omega, by go_num, by rw [List.length_append]; have h1 := HAL.out; have h2 := HPL.out; omega, HE.out, hr, HBE.out.trans HB9.out⟩
              case measure => simp [intOf]; omega
          · have HN2 := Lib.hid (HNE.out hps)
            simp only [decide_eq_false hps, Bool.not_false]
            clear hps HEQ HNE
            refine org_pure (v := ?_) (by kernel_rfl) ?_ ?_
            rotate_left
            · intro w' hv; clear hv; go_simp; try with_reducible rfl
            try simp only [Act.put, List.setIfInBounds_toArray, List.set_cons_zero, List.set_cons_succ]
            refine org_nil ?_
            go_wp2_with fail
            go_roundw
            case rel => exact ⟨k + 1, by omega, by go_num, HN2.out, HBR.out⟩
            case measure => simp [intOf]; omega
        · have hkk : k = L.length := by omega
          subst hkk
          have kl : ¬ ((L.length : Int) < (L.length : Int)) := by omega
          have HF := Lib.hid (firstU_no fun m hm => HNO.out m hm hm)
          have HE : Hid (J = ([], 5)) := Lib.hid (HJ.out.trans (joinA_none HF.out))
          have HBT := Lib.hid (HB.out.trans (HBR.out.mono HB.out.size))
          clear hkl
          go_upto_region 6 with fail
          refine wp_region_org [(0, true), (1, true), (2, true), (3, true), (4, true), (5, true), (6, true), (7, true), (8, true), (9, true), (10, true), (11, true), (12, true), (13, true), (14, true), (15, true)] (by kernel_rfl) (by kernel_rfl) (by kernel_rfl) ?_
          replace HBT := Lib.hid HBT.out.drew
          generalize wr.drew = wd at *
          simp only [pickOrs, List.getElem?_cons_zero, List.getElem?_cons_succ]
          refine org_pure (v := ?_) (by kernel_rfl) ?_ ?_
          rotate_left
          · intro w' hv; clear hv; go_simp; try with_reducible rfl
          try simp only [Act.put, List.setIfInBounds_toArray, List.set_cons_zero, List.set_cons_succ]
          refine org_pure (v := ?_) (by kernel_rfl) ?_ ?_
          rotate_left
          · intro w' hv; clear hv; go_simp; try with_reducible rfl
          try simp only [Act.put, List.setIfInBounds_toArray, List.set_cons_zero, List.set_cons_succ]
          refine org_pure (v := ?_) (by kernel_rfl) ?_ ?_
          rotate_left
          · intro w' hv; clear hv; go_simp; try with_reducible rfl
          try simp only [Act.put, List.setIfInBounds_toArray, List.set_cons_zero, List.set_cons_succ]
          refine org_pure (v := ?_) (by kernel_rfl) ?_ ?_
          rotate_left
          · intro w' hv; clear hv; go_simp; try with_reducible rfl
          try simp only [Act.put, List.setIfInBounds_toArray, List.set_cons_zero, List.set_cons_succ]
          refine org_pure (v := ?_) (by kernel_rfl) ?_ ?_
          rotate_left
          · intro w' hv; clear hv; go_simp; try with_reducible rfl
          try simp only [Act.put, List.setIfInBounds_toArray, List.set_cons_zero, List.set_cons_succ]
          refine org_skip (by kernel_rfl) ?_
          try simp only [Act.put, List.setIfInBounds_toArray, List.set_cons_zero, List.set_cons_succ]
          refine org_skip (by kernel_rfl) ?_
          try simp only [Act.put, List.setIfInBounds_toArray, List.set_cons_zero, List.set_cons_succ]
          refine org_skip (by kernel_rfl) ?_
          try simp only [Act.put, List.setIfInBounds_toArray, List.set_cons_zero, List.set_cons_succ]
          refine org_skip (by kernel_rfl) ?_
          try simp only [Act.put, List.setIfInBounds_toArray, List.set_cons_zero, List.set_cons_succ]
          refine org_skip (by kernel_rfl) ?_
          try simp only [Act.put, List.setIfInBounds_toArray, List.set_cons_zero, List.set_cons_succ]
          refine org_skip (by kernel_rfl) ?_
          try simp only [Act.put, List.setIfInBounds_toArray, List.set_cons_zero, List.set_cons_succ]
          refine org_skip (by kernel_rfl) ?_
          try simp only [Act.put, List.setIfInBounds_toArray, List.set_cons_zero, List.set_cons_succ]
          refine org_skip (by kernel_rfl) ?_
          try simp only [Act.put, List.setIfInBounds_toArray, List.set_cons_zero, List.set_cons_succ]
          refine org_skip (by kernel_rfl) ?_
          try simp only [Act.put, List.setIfInBounds_toArray, List.set_cons_zero, List.set_cons_succ]
          refine org_skip (by kernel_rfl) ?_
          try simp only [Act.put, List.setIfInBounds_toArray, List.set_cons_zero, List.set_cons_succ]
          refine org_pure (v := ?_) (by kernel_rfl) ?_ ?_
          rotate_left
          · intro w' hv; clear hv; go_simp; try with_reducible rfl
          try simp only [Act.put, List.setIfInBounds_toArray, List.set_cons_zero, List.set_cons_succ]
          refine org_nil ?_
          go_wp2_with fail
          (try simp only [Exit.inBlock, Exit.then]); refine bodyPost_ret (results_tmp2 rfl _ _ _) rfl ?_
          rw [HE.out]
          exact ⟨⟨_, rfl, Bs.nil _⟩, HBT.out⟩
    · have hjl : j = N.length := by omega
      subst hjl
      have k3 : ¬ ((N.length : Int) < (N.length : Int)) := by omega
      have hj0 := HJ.out
      rw [List.drop_length, joinA_nil] at hj0
      have HE := Lib.hid hj0
      have HBO := Lib.hid (Bs.own HROW.out)
      clear hlt hj0
      go_wp2_with fail
      (try simp only [Exit.inBlock, Exit.then]); refine bodyPost_ret (results_tmp2 rfl _ _ _) rfl ?_
      rw [HE.out]
      exact ⟨⟨_, rfl, HBO.out⟩, HB.out⟩
end Go.Proofs.YthpledfjopbchaaDoor
/- Contract: chunk.All: the names of all. Conditions: at most a hundred texts of at most a thousand bytes; the sums' tables are laid. -/
namespace Go.Proofs.YthpledfjopbchaaDoor
open Go.RowKit
def namesA (L : List (List (BitVec 8))) : List Su := L.flatMap namesU
theorem namesA_take (L : List (List (BitVec 8))) (i : Nat) (h : i < L.length) : namesA (L.take (i + 1)) = namesA (L.take i) ++ namesU L[i] := by
  unfold namesA
  rw [List.take_add_one, List.getElem?_eq_getElem h, List.flatMap_append]; simp
theorem namesA_len (L : List (List (BitVec 8))) (m : Nat) (h : ∀ x ∈ L, (namesU x).length ≤ m) : (namesA L).length ≤ L.length * m := by
  induction L with
  | nil => simp [namesA]
  | cons x L ih =>
    have h1 := h x (List.mem_cons_self ..)
    have h2 := ih fun y hy => h y (List.mem_cons_of_mem _ hy)
    show (namesU x ++ namesA L).length ≤ _
    rw [List.length_append, List.length_cons, Nat.succ_mul]; omega
theorem Ps.at {w : World} {q : Option Addr} {n c : Nat} {L : List (List (BitVec 8))} (h : Ps w (.slice q n c) L) {i : Nat} (hi : i < L.length) :
    ∃ (a : Addr) (u : Value), q = some a ∧ Bs w u L[i] ∧ ∀ w', Below w.heap.size w w' → w'.cell? (a.add i) = some u := by
  obtain ⟨q', c', vs, e, hs, hl, hb⟩ := h
  cases e
  have hi' : i < vs.length := by rw [hl]; exact hi
  obtain ⟨a, rfl, ha, hc⟩ := hs.get (by omega)
  refine ⟨a, vs[i], rfl, hb i _ _ (List.getElem?_eq_getElem hi') (List.getElem?_eq_getElem hi), fun w' hw => ?_⟩
  rw [hw.cell (by rw [add_block]; exact ha)]
  exact hc i _ (List.getElem?_eq_getElem hi')
set_option maxHeartbeats 4000000 in
set_option maxRecDepth 100000 in
theorem all_any (L : List (List (BitVec 8))) (q : Option Addr) (c : Nat) (w : World) (hP : Ps w (.slice q L.length c) L) (hn : L.length ≤ 100) (hx : ∀ x ∈ L, x.length ≤ 1000) (hL : Laid w) :
    Calls Tryd.prog 13 #[.slice q L.length c] w fun e w' => (∃ v, e = .returned v ∧ OwnU w' w.heap.size 24 v (srt (namesA L))) ∧ Below w.heap.size w w' := by
  have HP := Lib.hid hP
  have HX := Lib.hid hx
  have HL := Lib.hid hL
  have HSZ := Lib.hid hL.size
  have HNM : Hid (∀ x ∈ L, (namesU x).length ≤ 1000) := Lib.hid (fun x h => Nat.le_trans (namesU_length x) (hx x h))
  have HTOT : Hid (∀ i, (namesA (L.take i)).length ≤ 100000) := Lib.hid (fun i => by
    have h1 := namesA_len (L.take i) 1000 fun x hx => HNM.out x (List.mem_of_mem_take hx)
    have h2 : (L.take i).length ≤ 100 := by rw [List.length_take]; omega
    have h3 := Nat.mul_le_mul_right 1000 h2
    omega)
  have HNIL := Lib.hid (OwnU.nil w w.heap.size 24)
  clear hP hx hL
  go_enter Tryd.func13, Tryd.ntmps13
  go_upto_region 3 with fail
  go_loopw [3, 8] (fun v vi wr => ∃ j : Nat, j ≤ L.length ∧ vi = .int .i64 j ∧ OwnU wr w.heap.size 24 v (namesA (L.take j)) ∧ Below w.heap.size w wr) (fun _ vi _ => L.length - (intOf vi).toNat)
  case atStart => exact ⟨0, by omega, rfl, HNIL.out, Below.refl _ _⟩
  case round =>
    clear HNIL
    rename_i wr
    obtain ⟨j, hj, rfl, hrow, hB⟩ := hrel
    have HROW := Lib.hid hrow
    have HB := Lib.hid hB
    clear hrow hB
    by_cases hlt : j < L.length
    · obtain ⟨ad, u, rfl, hbs, hcell⟩ := HP.out.at hlt
      have hmem : L[j] ∈ L := List.getElem_mem hlt
      have hxl := HX.out _ hmem
      have HNA := Lib.hid (namesA_take L j hlt)
      have hnm := HNM.out _ hmem
      obtain ⟨x, hx⟩ : ∃ x, x = L[j] := ⟨_, rfl⟩
      rw [← hx] at hbs HNA hxl hnm
      have HBS := Lib.hid hbs
      obtain ⟨qx, cx, rfl, hcx, hqx, hsx⟩ := hbs
      have c1 := hcell wr HB.out
      have HNAMES := Lib.hid (names_any x qx cx wr hcx hqx (by omega) ((hsx.keep HB.out).more HB.out.size) (HL.out.keep HB.out HSZ.out))
      have kk : (j : Int) < (L.length : Int) := by omega
      have HLEN : Hid ((namesA (L.take j)).length + (namesU x).length ≤ 4000000) := Lib.hid (by have := HTOT.out j; omega)
      have HBSZ := Lib.hid HB.out.size
      clear hcell hx hmem hcx hqx hsx hxl hnm
      go_wp2_with (first
        | ((with_reducible refine HNAMES.out.mono ?_); rintro e w4 ⟨⟨v4, rfl, h1⟩, h2⟩; obtain ⟨q4, c4, rfl, hc4, hq4, hs4⟩ := h1.us; have HB4 := Lib.hid h2; have HS4 := Lib.hid hs4; have HQ4 := Lib.hid hq4; have HROW4 := Lib.hid (HROW.out.keep h2); clear h1 h2 hs4 hq4 hc4)
        | (refine wpList_append_su rfl 32 24 elSum (.tmp 12) (.tmp 14) rfl w.heap.size _ (namesA (L.take j)) rfl HROW4.out q4 (namesU x) (namesU x).length c4 w4.heap.size rfl rfl HQ4.out HS4.out HLEN.out (Nat.le_trans HBSZ.out HB4.out.size) ?_; intro v5 w5 h1 h2; have HROW5 := Lib.hid h1; have HB5 := Lib.hid h2; clear h1 h2))
      go_roundw
      case rel => exact ⟨j + 1, by omega, by go_num, by rw [HNA.out]; exact HROW5.out, (HB.out.trans (HB4.out.mono HBSZ.out)).trans HB5.out⟩
      case measure => simp [intOf]; omega
    · have hjl : j = L.length := by omega
      subst hjl
      have kk : ¬ ((L.length : Int) < (L.length : Int)) := by omega
      have hrow := HROW.out
      rw [List.take_length] at hrow
      obtain ⟨q4, c4, rfl, hc4, hq4, hs4⟩ := hrow.us
      have hlen : (namesA L).length ≤ 1000000 := by have := HTOT.out L.length; rw [List.take_length] at this; omega
      have HOF := Lib.hid (setOf_any (namesA L) q4 c4 hlen wr hs4)
      clear hlt hrow hc4 hq4 hs4 hlen HROW
      go_wp2_with ((with_reducible refine HOF.out.mono ?_); rintro e w5 ⟨⟨v5, rfl, h1⟩, h2⟩; have HO5 := Lib.hid h1; have HB5 := Lib.hid h2; clear h1 h2)
      go_ret
      exact ⟨⟨_, rfl, HO5.out.less HB.out.size⟩, HB.out.trans (HB5.out.mono HB.out.size)⟩
end Go.Proofs.YthpledfjopbchaaDoor
/- Plain laws: the pieces of bytes, one by one; bytes behind whole pieces. No condition. -/
namespace Go.Proofs.YthpledfjopbchaaDoor
/-- The pieces. -/
def pcs (b : List (BitVec 8)) : List (List (BitVec 8)) := pieces b (endsL plR 0 b)
theorem cutP_pcs (b : List (BitVec 8)) : cutP b = (pcs b).map fun x => (shaU x, x) := rfl
theorem pcs_nil : pcs [] = [] := by
  have h : (endsL plR 0 []).length = 0 := (endsL_empty plR_ok []).2 rfl
  have h2 : (pcs []).length = 0 := by unfold pcs; rw [pieces_length, h]
  exact List.eq_nil_of_length_eq_zero h2
theorem mid_shift (b : List (BitVec 8)) (k m n : Nat) : (b.take (k + n)).drop (m + n) = ((b.drop n).take k).drop m := by
  rw [Nat.add_comm m n, ← List.drop_drop, List.drop_take, Nat.add_sub_cancel]
theorem pcs_cons (b : List (BitVec 8)) (hb : b.length ≠ 0) : pcs b = b.take (nx plR b) :: pcs (b.drop (nx plR b)) := by
  have h := endsL_cons plR_ok 0 b hb
  rw [Nat.zero_add] at h
  have hs := endsL_shift plR_ok (nx plR b) (b.drop (nx plR b)).length 0 (b.drop (nx plR b)) (Nat.le_refl _)
  rw [Nat.zero_add] at hs
  rw [hs] at h
  unfold pcs
  generalize hL : endsL plR 0 (b.drop (nx plR b)) = L at h
  rw [h]
  generalize nx plR b = n
  unfold pieces
  rw [List.length_cons, List.length_map, List.range_succ_eq_map, List.map_cons, List.map_map]
  refine congr (congrArg _ ?_) ?_
  · unfold piece
    simp [before]
  · refine List.map_congr_left fun i hi => ?_
    have hi' : i < L.length := by simpa using hi
    show piece b (n :: L.map (· + n)) (i + 1) = piece (b.drop n) L i
    have hg : (n :: L.map (· + n)).getD (i + 1) 0 = L.getD i 0 + n := by
      rw [getD_at _ _ (by rw [List.length_cons, List.length_map]; omega), getD_at _ _ hi']; simp
    have hbf : before (n :: L.map (· + n)) (i + 1) = before L i + n := by
      rw [before_succ _ _ (by rw [List.length_cons, List.length_map]; omega)]
      cases i with
      | zero => rw [before_zero]; simp
      | succ j => rw [before_succ L j (by omega)]; simp
    unfold piece
    rw [hg, hbf, mid_shift]
theorem pcs_share (b : List (BitVec 8)) : ∀ (n : Nat) (a : List (BitVec 8)), a.length ≤ n → (∀ x, (pcs a).getLast? = some x → 128 ≤ x.length) → pcs (a ++ b) = pcs a ++ pcs b
  | 0, a, h, _ => by
    have : a = [] := List.eq_nil_of_length_eq_zero (by omega)
    subst this
    rw [pcs_nil]; rfl
  | n + 1, a, h, hl => by
    by_cases h0 : a.length = 0
    · have : a = [] := List.eq_nil_of_length_eq_zero h0
      subst this
      rw [pcs_nil]; rfl
    · have hp := nx_pos plR_ok h0
      have hle := nx_le plR a
      have hab : (a ++ b).length ≠ 0 := by rw [List.length_append]; omega
      have hle2 := nx_le plR (a ++ b)
      rw [pcs_cons a h0] at hl ⊢
      have hnx : nx plR (a ++ b) = nx plR a := by
        rcases nx_local plR_ok a b with h1 | ⟨h1, h2⟩
        · exact h1.symm
        · have hd : a.drop (nx plR a) = [] := List.drop_eq_nil_of_le (by omega)
          rw [hd, pcs_nil] at hl
          have := hl (a.take (nx plR a)) rfl
          rw [List.length_take] at this
          have e : plR.mx = 128 := rfl
          omega
      rw [pcs_cons (a ++ b) hab, hnx, List.take_append_of_le_length hle.1, List.drop_append_of_le_length hle.1]
      rw [pcs_share b n (a.drop (nx plR a)) (by rw [List.length_drop]; omega) (fun x hx => hl x (by
        rw [List.getLast?_cons, hx]; rfl))]
      rfl
theorem pcs_sum : ∀ (n : Nat) (a : List (BitVec 8)), a.length ≤ n → ((pcs a).map List.length).sum = a.length
  | 0, a, h => by
    have : a = [] := List.eq_nil_of_length_eq_zero (by omega)
    subst this
    rw [pcs_nil]; rfl
  | n + 1, a, h => by
    by_cases h0 : a.length = 0
    · have : a = [] := List.eq_nil_of_length_eq_zero h0
      subst this
      rw [pcs_nil]; rfl
    · have hp := nx_pos plR_ok h0
      have hle := nx_le plR a
      rw [pcs_cons a h0, List.map_cons, List.sum_cons, pcs_sum n (a.drop (nx plR a)) (by rw [List.length_drop]; omega), List.length_take, List.length_drop]
      omega
end Go.Proofs.YthpledfjopbchaaDoor
/- The law ChunkSays: it answers true. Condition: the arguments read as bytes, whole numbers, pieces; the sums' tables are laid. -/
namespace Go.Proofs.YthpledfjopbchaaDoor
open Go.RowKit
theorem Sees.pcCut {w : World} {b : Nat} {q : Option Addr} {L : List Pc} {c i : Nat} (h : Sees w b q (rowP L)) (hc : L.length ≤ c) (hi : i < L.length) : Sees w b (if c = i then q else q.map (·.add (i * 33))) (rowP [L[i]]) := fun _ => by
  obtain ⟨a, rfl, hb, hx⟩ := h.get (by rw [rowP_len]; omega)
  rw [if_neg (by omega)]
  refine ⟨a.add (i * 33), rfl, by rw [add_block]; exact hb, fun j u hu => ?_⟩
  have hj : j < 33 := by have := (List.getElem?_eq_some_iff.1 hu).1; rw [rowP_len] at this; simpa using this
  rw [add_add]
  refine hx _ u ?_
  rw [rowP_get L i hi j hj]
  rw [rowP_one] at hu
  exact hu
theorem cut_pc (T E : TypeId) (hT : ElP T E) (q : Option Addr) (n c i : Nat) (hi : i + 1 ≤ c) (w : World) :
    (Instr.slice T (.slice q n c) (some (.int .i64 (i : Int))) (some (.int .i64 ((i : Int) + 1))) none).run Tryd.prog w = .ok (.slice (if c = i then q else q.map (·.add (i * 33))) 1 (c - i)) w := by
  obtain ⟨i0, hi0, hz0, hz1, hz2⟩ := info_parts hT.2.2
  have e : ((i : Int) + 1) = ((i + 1 : Nat) : Int) := by omega
  rw [e]
  simp [Instr.slice, run_underlying hT.1, Instr.sliceBounds, Instr.sliceBound, asIntOf, sizeOf, typeInfo, hi0, hz1]
  omega
theorem run_none_pc (T E : TypeId) (hT : ElP T E) (w : World) : (Instr.buildSlice T 0 #[]).run Tryd.prog w = .ok (.slice (some ⟨w.heap.size, 0, none⟩) 0 0) (w.alloc (.cells #[] E)) := by
  obtain ⟨i0, hi, hz0, hz1, hz2⟩ := info_parts hT.2.2
  simp [Instr.buildSlice, run_underlying hT.1, sizeOf, typeInfo, hi, newRow, Instr.fill]
  rw [show Array.range 0 = #[] by kernel_rfl, Array.map_empty]
theorem wp_none_pc {o : Oper} {a : Act} {w : World} {Q : Exit → Act → World → Prop} {K : Act → World → Prop} (T E : TypeId) (hT : ElP T E) (ho : o.op = .buildSlice T 0 #[])
    (h : K (a.put o.dst (.slice (some ⟨w.heap.size, 0, none⟩) 0 0)) (w.alloc (.cells #[] E))) : o.wp Tryd.prog a w K Q := by
  unfold Oper.wp execOp
  simp only [ho, Sem.run_bind]
  rw [Array.map_empty, run_none_pc T E hT]
  exact h
/-- A call of a function of one argument. -/
theorem wp_callF {o : Oper} {a : Act} {w : World} {Q : Exit → Act → World → Prop} {K : Act → World → Prop} (f : FuncId) (x : Operand) (ts : Array TypeId) (ho : o.op = .call { callee := .value (.func f), args := #[x], argTypes := ts }) (v : Value) (hx : a.eval x = v) (hcf : (callFunc f #[v]).run Tryd.prog w = .ok (.enter f #[v]) w)
    {R : Ending → World → Prop} (hc : Calls Tryd.prog f #[v] w R) (h : ∀ e w', R e w' → ∃ u, e = .returned u ∧ K (a.put o.dst u) w') : o.wp Tryd.prog a w K Q := by
  unfold Oper.wp
  have he : (execOp a.eval o).run Tryd.prog w = .ok (.enter f #[v]) w := by
    unfold execOp
    have hf : a.eval (.func f) = .func (.func f) #[] #[] := rfl
    simp [ho, resolve, invoke, hx, hf, Deferred.ofValue, hcf]
  rw [he, Oper.upon_enter]
  refine Calls.mono hc ?_
  intro e w' hr
  obtain ⟨u, rfl, hk⟩ := h e w' hr
  exact hk
/-- The name that a number wants. -/
def nameOf (H : List Pc) (z : Int) : Su := if h : 0 ≤ z ∧ z < H.length then (H[z.toNat]'(by omega)).1 else shaU [BitVec.ofInt 8 z]
theorem u8_wrap (z : Int) : IntKind.u8.wrap z = B (BitVec.ofInt 8 z) := by
  unfold B
  rw [BitVec.toNat_ofInt, IntKind.wrap_u8]
  omega
theorem cutP_good {b : List (BitVec 8)} {p : Pc} (h : keyP p ∈ cutP b) : goodPc p = true := by
  rw [cutP_pcs] at h
  obtain ⟨x, hx, he⟩ := List.mem_map.1 h
  have e1 : shaU x = p.1 := congrArg Prod.fst he
  have e2 : x = p.2.2 := congrArg Prod.snd he
  have hl : 1 ≤ x.length ∧ x.length ≤ 128 := by
    unfold pcs pieces at hx
    obtain ⟨i, hi, rfl⟩ := List.mem_map.1 hx
    have hi' : i < (endsL plR 0 b).length := by simpa using hi
    obtain ⟨k1, k2, k3⟩ := endsL_lt plR_ok b i hi'
    rw [piece_length _ _ _ (by rw [getD_at _ i hi']; exact k2), getD_at _ i hi']
    have e : plR.mx = 128 := rfl
    omega
  unfold goodPc
  rw [← e2, ← e1, decide_eq_true hl.1, decide_eq_true hl.2, decide_eq_true rfl]; rfl
set_option maxHeartbeats 16000000 in
set_option maxRecDepth 100000 in
theorem chunkSays_any (a b : List (BitVec 8)) (W : List Int) (R : List Pc) (qa qb qw qr : Option Addr) (ca cb cw cr : Nat) (w : World) (hca : a.length ≤ ca) (hcb : b.length ≤ cb) (hcr : R.length ≤ cr) (hqa : qa = none → ca = 0) (hqb : qb = none → cb = 0) (hqr : qr = none → cr = 0)
    (hna : a.length < 9223372036854775808) (hnb : b.length < 9223372036854775808) (hnw : W.length < 9223372036854775808) (hnr : R.length < 9223372036854775808) (hr0 : ∀ p ∈ R, p.2.2.length < 9223372036854775808) (hwf : ∀ z ∈ W, (Lit.int .i64 z).wf = true)
    (ha : Sees w w.heap.size qa (a.map u8v)) (hb : Sees w w.heap.size qb (b.map u8v)) (hw : Sees w w.heap.size qw (W.map fun x => Value.int .i64 x)) (hr : Sees w w.heap.size qr (rowP R)) (hrb : Pcb w R) (hL : Laid w) :
    Calls Tryd.prog 4 #[.slice qa a.length ca, .slice qb b.length cb, .slice qw W.length cw, .slice qr R.length cr] w fun e w' => e = .returned (.bool true) ∧ Below w.heap.size w w' := by
  have HSA := Lib.hid ha
  have HSB := Lib.hid hb
  have HSW := Lib.hid hw
  have HSR := Lib.hid hr
  have HRB := Lib.hid hrb
  have HL := Lib.hid hL
  have HSZ := Lib.hid hL.size
  have HR0 := Lib.hid hr0
  have HWF := Lib.hid hwf
  have HAW := Lib.hid (awake11_any w hL)
  clear ha hb hw hr hrb hL hr0 hwf
  go_enter Tryd.func4, Tryd.ntmps4
  go_upto_region 3 with ((with_reducible refine HAW.out.mono ?_); rintro e w0 ⟨rfl, h2⟩; have HB0 := Lib.hid h2; clear h2)
  clear HAW
  by_cases h1 : a.length > 1000
  · have k1 : (a.length : Int) > 1000 := by omega
    go_wp2_with fail
    go_ret
    exact ⟨rfl, HB0.out⟩
  have k1 : ¬ (a.length : Int) > 1000 := by omega
  by_cases h2 : b.length > 1000
  · have k2 : (b.length : Int) > 1000 := by omega
    go_wp2_with fail
    go_ret
    exact ⟨rfl, HB0.out⟩
  have k2 : ¬ (b.length : Int) > 1000 := by omega
  by_cases h3 : R.length > 40
  · have k3 : (R.length : Int) > 40 := by omega
    go_wp2_with fail
    go_ret
    exact ⟨rfl, HB0.out⟩
  have k3 : ¬ (R.length : Int) > 40 := by omega
  by_cases h4 : W.length > 40
  · have k4 : (W.length : Int) > 40 := by omega
    go_wp2_with fail
    go_ret
    exact ⟨rfl, HB0.out⟩
  have k4 : ¬ (W.length : Int) > 40 := by omega
  have HCA : Hid (∀ w1, Below w.heap.size w w1 → Calls Tryd.prog 12 #[.slice qa a.length ca] w1 fun e w' => (∃ v L, e = .returned v ∧ PcV w' v L ∧ Pcb w' L ∧ L.map keyP = cutP a) ∧ Below w1.heap.size w1 w') := Lib.hid (fun w1 h => ccut_any a qa ca w1 hca hqa (by omega) ((HSA.out.keep h).more h.size) (HL.out.keep h HSZ.out))
  have HRC : Hid (∀ w1, Below w.heap.size w w1 → Calls Tryd.prog 15 #[.slice qa a.length ca] w1 fun e w' => (∃ v L, e = .returned v ∧ PcV w' v L ∧ Pcb w' L ∧ L.map keyP = cutP a) ∧ Below w1.heap.size w1 w') := Lib.hid (fun w1 h => rcut_any a qa ca w1 hca hqa (by omega) ((HSA.out.keep h).more h.size))
  have HNA : Hid (∀ w1, Below w.heap.size w w1 → Calls Tryd.prog 17 #[.slice qa a.length ca] w1 fun e w' => (∃ v, e = .returned v ∧ OwnU w' w1.heap.size 24 v (namesU a)) ∧ Below w1.heap.size w1 w') := Lib.hid (fun w1 h => names_any a qa ca w1 hca hqa (by omega) ((HSA.out.keep h).more h.size) (HL.out.keep h HSZ.out))
  have HRA : Hid (∀ w1, Below w.heap.size w w1 → Calls Tryd.prog 18 #[.slice qa a.length ca] w1 fun e w' => (∃ v, e = .returned v ∧ OwnU w' w1.heap.size 46 v (namesU a)) ∧ Below w1.heap.size w1 w') := Lib.hid (fun w1 h => rnames_any a qa ca w1 hca hqa (by omega) ((HSA.out.keep h).more h.size))
  have HRBN : Hid (∀ w1, Below w.heap.size w w1 → Calls Tryd.prog 18 #[.slice qb b.length cb] w1 fun e w' => (∃ v, e = .returned v ∧ OwnU w' w1.heap.size 46 v (namesU b)) ∧ Below w1.heap.size w1 w') := Lib.hid (fun w1 h => rnames_any b qb cb w1 hcb hqb (by omega) ((HSB.out.keep h).more h.size))
  have HLA : Hid ((namesU a).length ≤ 1000) := Lib.hid (by have := namesU_length a; omega)
  have HLB : Hid ((namesU b).length ≤ 1000) := Lib.hid (by have := namesU_length b; omega)
  have HSM : Hid (∀ (A : List Su) qa qb ca cb w1, A.length ≤ 1000000 → Sees w1 w1.heap.size qa (rowU A) → Sees w1 w1.heap.size qb (rowU A) → Calls Tryd.prog 16 #[.slice qa A.length ca, .slice qb A.length cb] w1 fun e w' => e = .returned (.bool true) ∧ Below w1.heap.size w1 w') := Lib.hid (fun A qa qb ca cb w1 hA h1 h2 => by
    have := lsums_any A A qa qb ca cb hA w1 h1 h2
    rw [decide_eq_true rfl] at this
    exact this)
  have HLX : Hid ((cutP a).length ≤ 1000) := Lib.hid (by have := endsL_count plR_ok a; rw [cutP_length]; omega)
  have HGC : Hid (∀ p : Pc, keyP p ∈ cutP a → goodPc p = true) := Lib.hid (fun p h => cutP_good h)
  generalize cutP a = X at *
  go_upto_region 7 with (first
    | ((with_reducible refine (HCA.out _ HB0.out).mono ?_); rintro e w1 ⟨⟨v1, LP, rfl, ⟨q1, c1, rfl, hlc1, hq1, hse1⟩, hpb1, hkey1⟩, hB⟩; have HB1 := Lib.hid (HB0.out.trans (hB.mono HB0.out.size)); have HS1 := Lib.hid hse1; have HP1 := Lib.hid hpb1; have HK1 := Lib.hid hkey1; have HQ1 := Lib.hid hq1; clear hB hse1 hpb1 hkey1 hq1)
    | ((with_reducible refine (HRC.out _ HB1.out).mono ?_); rintro e w2 ⟨⟨v2, LQ, rfl, ⟨q2, c2, rfl, hlc2, hq2, hse2⟩, hpb2, hkey2⟩, hB⟩; have HB12 := Lib.hid hB; have HB2 := Lib.hid (HB1.out.trans (hB.mono HB1.out.size)); have HS2 := Lib.hid hse2; have HP2 := Lib.hid hpb2; have HK2 := Lib.hid hkey2; clear hB hse2 hpb2 hkey2 hq2))
  clear HCA HRC
  have HLP : Hid (LP.length = X.length) := Lib.hid (by rw [← HK1.out, List.length_map])
  have HLQ : Hid (LQ.length = X.length) := Lib.hid (by rw [← HK2.out, List.length_map])
  have hlpq : (LP.length : Int) = (LQ.length : Int) := by rw [HLP.out, HLQ.out]
  have hlp : LP.length ≤ 1000 := by rw [HLP.out]; exact HLX.out
  go_upto_region 10 with (first
    | ((with_reducible refine (HNA.out _ HB2.out).mono ?_); rintro e w3 ⟨⟨v3, rfl, h1⟩, h2⟩; obtain ⟨q3, c3, rfl, _, _, hs3⟩ := h1.us; have HB23 := Lib.hid h2; have HB3 := Lib.hid (HB2.out.trans (h2.mono HB2.out.size)); have HS3 := Lib.hid hs3; clear h1 h2 hs3)
    | ((with_reducible refine (HRA.out _ HB3.out).mono ?_); rintro e w4 ⟨⟨v4, rfl, h1⟩, h2⟩; obtain ⟨q4, c4, rfl, _, _, hs4⟩ := h1.us; have HB24 := Lib.hid (HB23.out.trans (h2.mono HB23.out.size)); have HB4 := Lib.hid (HB3.out.trans (h2.mono HB3.out.size)); have HS4 := Lib.hid hs4; have HS34 := Lib.hid ((HS3.out.keep h2).more h2.size); clear h1 h2 hs4)
    | ((with_reducible refine (HSM.out (namesU a) q3 q4 c3 c4 _ (Nat.le_trans HLA.out (by decide)) HS34.out HS4.out).mono ?_); rintro e w5 ⟨rfl, h2⟩; have HB25 := Lib.hid (HB24.out.trans (h2.mono HB24.out.size)); have HB5 := Lib.hid (HB4.out.trans (h2.mono HB4.out.size)); clear h2))
  have HSM2 := Lib.hid HSM.out
  clear HNA HSM
  go_loopw [11] (fun v wr => ∃ j : Nat, j ≤ LP.length ∧ v = .int .i64 j ∧ Below w2.heap.size w2 wr ∧ Below w.heap.size w wr) (fun v _ => LP.length - (intOf v).toNat)
  case atStart => exact ⟨0, by omega, rfl, HB25.out, HB5.out⟩
  case round =>
    clear HB25 HB5 HB24 HB4 HB23 HB3
    rename World => wr
    obtain ⟨j, hj, rfl, hB2r, hBr⟩ := hrel
    have HB2R := Lib.hid hB2r
    have HBR := Lib.hid hBr
    clear hB2r hBr
    by_cases hlt : j < LP.length
    · have hjq : j < LQ.length := by omega
      obtain ⟨ap, hqp, _, hcp⟩ := Sees.pc (HS1.out.keep (HB12.out.trans (HB2R.out.mono HB12.out.size))) hlt
      obtain ⟨aq, hqq, _, hcq⟩ := Sees.pc (HS2.out.keep HB2R.out) hjq
      cases hqp
      cases hqq
      have hpb := (HP1.out LP[j] (List.getElem_mem hlt)).keep (HB12.out.trans (HB2R.out.mono HB12.out.size))
      have hqb2 := (HP2.out LQ[j] (List.getElem_mem hjq)).keep HB2R.out
      have hkk : keyP LP[j] = keyP LQ[j] := by
        have e : (LP.map keyP)[j]'(by simpa using hlt) = (LQ.map keyP)[j]'(by simpa using hjq) := by simp only [HK1.out, HK2.out]
        rw [List.getElem_map, List.getElem_map] at e
        exact e
      have hgd := HGC.out LP[j] (by rw [← HK1.out]; exact List.mem_map_of_mem (List.getElem_mem hlt))
      have hone1 : LP[j].1 = LQ[j].1 := congrArg (fun z : Su × List (BitVec 8) => z.1) hkk
      have hone2 : LP[j].2.2 = LQ[j].2.2 := congrArg (fun z : Su × List (BitVec 8) => z.2) hkk
      obtain ⟨p, hp⟩ : ∃ p, p = LP[j] := ⟨_, rfl⟩
      obtain ⟨u, hu⟩ : ∃ u, u = LQ[j] := ⟨_, rfl⟩
      rw [← hp] at hcp hpb hgd hone1 hone2
      rw [← hu] at hcq hqb2 hone1 hone2
      obtain ⟨s, v, x⟩ := p
      obtain ⟨s2, v2, x2⟩ := u
      simp only [] at hone1 hone2
      subst hone1 hone2
      obtain ⟨qx, cx, hv, hcx, hqx, hsx⟩ := hpb
      obtain ⟨qy, cy, hv2, hcy, hqy, hsy⟩ := hqb2
      simp only [] at hv hv2 hsx hsy hcx hcy
      subst hv hv2
      have hxl : x.length ≤ 128 := good_len (p := (s, .slice qx x.length cx, x)) hgd
      have HGD := Lib.hid hgd
      have HXL := Lib.hid hxl
      have HBS : Hid (Bs wr.drew (.slice qx x.length cx) x) := Lib.hid ⟨qx, cx, rfl, hcx, hqx, hsx⟩
      have HCP : Hid (∀ w', Ext wr.drew w' → ∀ k y, (encP (s, .slice qx x.length cx, x))[k]? = some y → w'.cell? ((ap.add (j * 33)).add k) = some y) := Lib.hid (fun w' h => hcp w' (Below.mono (Ext.trans (Below.refl _ _).drew h) (Nat.le_trans HB12.out.size HB2R.out.size)))
      have HCQ : Hid (∀ w', Ext wr.drew w' → ∀ k y, (encP (s, .slice qy x.length cy, x))[k]? = some y → w'.cell? ((aq.add (j * 33)).add k) = some y) := Lib.hid (fun w' h => hcq w' (Below.mono (Ext.trans (Below.refl _ _).drew h) HB2R.out.size))
      have HC32P : Hid (∀ w', Ext wr.drew w' → w'.cell? ⟨(ap.add (j * 33)).block, (ap.add (j * 33)).off + 32, none⟩ = some (.slice qx x.length cx)) := Lib.hid (fun w' h => HCP.out w' h 32 _ (encP_b _))
      have HC32Q : Hid (∀ w', Ext wr.drew w' → w'.cell? ⟨(aq.add (j * 33)).block, (aq.add (j * 33)).off + 32, none⟩ = some (.slice qy x.length cy)) := Lib.hid (fun w' h => HCQ.out w' h 32 _ (encP_b _))
      have HT1 : Hid (∀ w', Ext wr.drew w' → (convert 26 9 (.slice qx x.length cx)).run Tryd.prog w' = .ok (.string (strB x)) w') := Lib.hid (fun w' h => str_run x qx cx wr.heap.size w' (hsx.keep (Ext.trans (Below.refl _ _).drew h)))
      have HT2 : Hid (∀ w', Ext wr.drew w' → (convert 26 9 (.slice qy x.length cy)).run Tryd.prog w' = .ok (.string (strB x)) w') := Lib.hid (fun w' h => str_run x qy cy wr.heap.size w' (hsy.keep (Ext.trans (Below.refl _ _).drew h)))
      have HLW := Lib.hid (HL.out.keep HBR.out.drew HSZ.out)
      have kp : (j : Int) < (LP.length : Int) := by omega
      have kq : (j : Int) < (LQ.length : Int) := by omega
      have kll : j < 1000000 := by omega
      clear hcp hcq hp hu hgd hkk hcx hqx hsx hcy hqy hsy hxl hlpq
      go_upto_region 12 with fail
      refine wp_region_org [(0, true), (1, true), (2, true), (3, true), (4, true), (5, true), (6, true), (7, true), (8, true), (9, true), (10, true), (11, true), (12, true), (13, true), (14, true), (15, true), (16, true), (17, true), (18, true), (19, true), (20, true), (21, true), (22, true), (23, true), (24, true), (25, true), (26, true), (27, true), (28, true), (29, true), (30, true), (31, false), (32, true), (33, true)] (by kernel_rfl) (by kernel_rfl) (by kernel_rfl) ?_
      replace HBR := Lib.hid HBR.out.drew
      replace HB2R := Lib.hid HB2R.out.drew
      generalize wr.drew = wd at *
      simp only [pickOrs, List.getElem?_cons_zero, List.getElem?_cons_succ]
      refine org_pure (v := ?_) (by kernel_rfl) ?_ ?_
      rotate_left
      · intro w' hv; clear hv; go_simp; try with_reducible rfl
      try simp only [Act.put, List.setIfInBounds_toArray, List.set_cons_zero, List.set_cons_succ]
      refine org_pure (v := ?_) (by kernel_rfl) ?_ ?_
      rotate_left
      · intro w' hv; clear hv; go_simp; try with_reducible rfl
      try simp only [Act.put, List.setIfInBounds_toArray, List.set_cons_zero, List.set_cons_succ]
      refine org_pure (v := ?_) (by kernel_rfl) ?_ ?_
      rotate_left
      · intro w' hv; clear hv; go_simp; try with_reducible rfl
      try simp only [Act.put, List.setIfInBounds_toArray, List.set_cons_zero, List.set_cons_succ]
      refine org_pure (v := ?_) (by kernel_rfl) ?_ ?_
      rotate_left
      · intro w' hv; clear hv; go_simp; try with_reducible rfl
      try simp only [Act.put, List.setIfInBounds_toArray, List.set_cons_zero, List.set_cons_succ]
      refine org_pure (by kernel_rfl) (fun w' hv => load_su 24 (.tmp 66) rfl (ap.add (j * 33)) rfl elSum.2.1 szSum s (fun k y hy => HCP.out _ hv k y (encP_su (p := (s, .slice qx x.length cx, x)) hy))) ?_
      try simp only [Act.put, List.setIfInBounds_toArray, List.set_cons_zero, List.set_cons_succ]
      refine org_pure (v := ?_) (by kernel_rfl) ?_ ?_
      rotate_left
      · intro w' hv; clear hv; go_simp; try with_reducible rfl
      try simp only [Act.put, List.setIfInBounds_toArray, List.set_cons_zero, List.set_cons_succ]
      refine org_pure (v := ?_) (by kernel_rfl) ?_ ?_
      rotate_left
      · intro w' hv; clear hv; go_simp; try with_reducible rfl
      try simp only [Act.put, List.setIfInBounds_toArray, List.set_cons_zero, List.set_cons_succ]
      refine org_pure (v := ?_) (by kernel_rfl) ?_ ?_
      rotate_left
      · intro w' hv; clear hv; go_simp; try with_reducible rfl
      try simp only [Act.put, List.setIfInBounds_toArray, List.set_cons_zero, List.set_cons_succ]
      refine org_pure (v := ?_) (by kernel_rfl) ?_ ?_
      rotate_left
      · intro w' hv; clear hv; go_simp; try with_reducible rfl
      try simp only [Act.put, List.setIfInBounds_toArray, List.set_cons_zero, List.set_cons_succ]
      refine org_pure (by kernel_rfl) (fun w' hv => load_su 46 (.tmp 71) rfl (aq.add (j * 33)) rfl elRef.2.1 szRef s (fun k y hy => HCQ.out _ hv k y (encP_su (p := (s, .slice qy x.length cy, x)) hy))) ?_
      try simp only [Act.put, List.setIfInBounds_toArray, List.set_cons_zero, List.set_cons_succ]
      refine org_pure (by kernel_rfl) (fun w' hv => neq_su 46 (.tmp 67) (.tmp 72) _ rfl s s rfl rfl elRef.2.1 gdRef) ?_
      try simp only [Act.put, List.setIfInBounds_toArray, List.set_cons_zero, List.set_cons_succ]
      simp only [decide_true]
      refine org_pure (v := ?_) (by kernel_rfl) ?_ ?_
      rotate_left
      · intro w' hv; clear hv; go_simp; try with_reducible rfl
      try simp only [Act.put, List.setIfInBounds_toArray, List.set_cons_zero, List.set_cons_succ]
      refine org_pure (v := ?_) (by kernel_rfl) ?_ ?_
      rotate_left
      · intro w' hv; clear hv; go_simp; try with_reducible rfl
      try simp only [Act.put, List.setIfInBounds_toArray, List.set_cons_zero, List.set_cons_succ]
      refine org_pure (v := ?_) (by kernel_rfl) ?_ ?_
      rotate_left
      · intro w' hv; clear hv; go_simp; try with_reducible rfl
      try simp only [Act.put, List.setIfInBounds_toArray, List.set_cons_zero, List.set_cons_succ]
      refine org_pure (v := ?_) (by kernel_rfl) ?_ ?_
      rotate_left
      · intro w' hv; clear hv; go_simp; try with_reducible rfl
      try simp only [Act.put, List.setIfInBounds_toArray, List.set_cons_zero, List.set_cons_succ]
      refine org_pure (v := ?_) (by kernel_rfl) ?_ ?_
      rotate_left
      · intro w' hv; clear hv; go_simp; try with_reducible rfl
      try simp only [Act.put, List.setIfInBounds_toArray, List.set_cons_zero, List.set_cons_succ]
      refine org_pure (v := ?_) (by kernel_rfl) ?_ ?_
      rotate_left
      · intro w' hv; have c32 := HC32P.out _ hv; clear hv; go_simp; try with_reducible rfl
      try simp only [Act.put, List.setIfInBounds_toArray, List.set_cons_zero, List.set_cons_succ]
      refine org_pure (v := ?_) (by kernel_rfl) ?_ ?_
      rotate_left
      · intro w' hv; have c0 := HT1.out _ hv; clear hv; go_simp; try with_reducible rfl
      try simp only [Act.put, List.setIfInBounds_toArray, List.set_cons_zero, List.set_cons_succ]
      refine org_pure (v := ?_) (by kernel_rfl) ?_ ?_
      rotate_left
      · intro w' hv; clear hv; go_simp; try with_reducible rfl
      try simp only [Act.put, List.setIfInBounds_toArray, List.set_cons_zero, List.set_cons_succ]
      refine org_pure (v := ?_) (by kernel_rfl) ?_ ?_
      rotate_left
      · intro w' hv; clear hv; go_simp; try with_reducible rfl
      try simp only [Act.put, List.setIfInBounds_toArray, List.set_cons_zero, List.set_cons_succ]
      refine org_pure (v := ?_) (by kernel_rfl) ?_ ?_
      rotate_left
      · intro w' hv; clear hv; go_simp; try with_reducible rfl
      try simp only [Act.put, List.setIfInBounds_toArray, List.set_cons_zero, List.set_cons_succ]
      refine org_pure (v := ?_) (by kernel_rfl) ?_ ?_
      rotate_left
      · intro w' hv; clear hv; go_simp; try with_reducible rfl
      try simp only [Act.put, List.setIfInBounds_toArray, List.set_cons_zero, List.set_cons_succ]
      refine org_pure (v := ?_) (by kernel_rfl) ?_ ?_
      rotate_left
      · intro w' hv; have c32 := HC32Q.out _ hv; clear hv; go_simp; try with_reducible rfl
      try simp only [Act.put, List.setIfInBounds_toArray, List.set_cons_zero, List.set_cons_succ]
      refine org_pure (v := ?_) (by kernel_rfl) ?_ ?_
      rotate_left
      · intro w' hv; have c0 := HT2.out _ hv; clear hv; go_simp; try with_reducible rfl
      try simp only [Act.put, List.setIfInBounds_toArray, List.set_cons_zero, List.set_cons_succ]
      refine org_pure (v := ?_) (by kernel_rfl) ?_ ?_
      rotate_left
      · intro w' hv; clear hv; go_simp; try with_reducible rfl
      try simp only [Act.put, List.setIfInBounds_toArray, List.set_cons_zero, List.set_cons_succ]
      refine org_pure (v := ?_) (by kernel_rfl) ?_ ?_
      rotate_left
      · intro w' hv; clear hv; go_simp; try with_reducible rfl
      try simp only [Act.put, List.setIfInBounds_toArray, List.set_cons_zero, List.set_cons_succ]
      refine org_pure (v := ?_) (by kernel_rfl) ?_ ?_
      rotate_left
      · intro w' hv; clear hv; go_simp; try with_reducible rfl
      try simp only [Act.put, List.setIfInBounds_toArray, List.set_cons_zero, List.set_cons_succ]
      refine org_pure (v := ?_) (by kernel_rfl) ?_ ?_
      rotate_left
      · intro w' hv; clear hv; go_simp; try with_reducible rfl
      try simp only [Act.put, List.setIfInBounds_toArray, List.set_cons_zero, List.set_cons_succ]
      refine org_pure (v := ?_) (by kernel_rfl) ?_ ?_
      rotate_left
      · intro w' hv; clear hv; go_simp; try with_reducible rfl
      try simp only [Act.put, List.setIfInBounds_toArray, List.set_cons_zero, List.set_cons_succ]
      refine org_pure (v := ?_) (by kernel_rfl) ?_ ?_
      rotate_left
      · intro w' hv; clear hv; go_simp; try with_reducible rfl
      try simp only [Act.put, List.setIfInBounds_toArray, List.set_cons_zero, List.set_cons_succ]
      refine org_pure (by kernel_rfl) (fun w' hv => load_pc 33 28 elPc (.tmp 92) rfl (ap.add (j * 33)) rfl (s, .slice qx x.length cx, x) (HCP.out _ hv)) ?_
      try simp only [Act.put, List.setIfInBounds_toArray, List.set_cons_zero, List.set_cons_succ]
      have HGP := Lib.hid (pgood_any (s, .slice qx x.length cx, x) wd HBS.out (Nat.lt_of_le_of_lt HXL.out (by decide)) HLW.out)
      refine org_step (by kernel_rfl) (fun K hK => ?_)
      go_wp2_with fail
      refine Calls.mono HGP.out ?_
      rintro e w6 ⟨rfl, hb⟩
      have HE6 := Lib.hid hb
      rw [HGD.out]
      refine hK _ _ ⟨hb, ?_⟩
      clear hK hb
      try simp only [Act.put, List.setIfInBounds_toArray, List.set_cons_zero, List.set_cons_succ]
      refine org_pure (v := ?_) (by kernel_rfl) ?_ ?_
      rotate_left
      · intro w' hv; clear hv; go_simp; try with_reducible rfl
      try simp only [Act.put, List.setIfInBounds_toArray, List.set_cons_zero, List.set_cons_succ]
      refine org_pure (v := ?_) (by kernel_rfl) ?_ ?_
      rotate_left
      · intro w' hv; clear hv; go_simp; try with_reducible rfl
      try simp only [Act.put, List.setIfInBounds_toArray, List.set_cons_zero, List.set_cons_succ]
      refine org_nil ?_
      have HB2N := Lib.hid (HB2R.out.trans (HE6.out.mono HB2R.out.size))
      have HBN := Lib.hid (HBR.out.trans (HE6.out.mono HBR.out.size))
      go_wp2_with fail
      go_roundw
      case rel => exact ⟨j + 1, by omega, by go_num, HB2N.out, HBN.out⟩
      case measure => simp [intOf]; omega
    · have hjl : j = LP.length := by omega
      subst hjl
      have kp : ¬ ((LP.length : Int) < (LP.length : Int)) := by omega
      clear hlt HS2 HP2 HK2 HLQ hlpq
      go_upto_region 14 with fail
      refine wp_region_lit ?_
      try simp only [Act.put, List.setIfInBounds_toArray, List.set_cons_zero, List.set_cons_succ]
      refine lp_step (by kernel_rfl) (fun K hK => wp_none_pc 33 28 elPc rfl (hK _ _ ?_))
      try simp only [Act.put, List.setIfInBounds_toArray, List.set_cons_zero, List.set_cons_succ]
      have HO0 := Lib.hid (OwnP.empty wr wr.heap.size 28 (Nat.le_refl _))
      have HB60 : Hid (Below wr.heap.size wr (wr.alloc (.cells #[] 28))) := Lib.hid ((Below.refl _ _).alloc (Nat.le_refl _) _)
      obtain ⟨w6, hw6⟩ : ∃ w6, w6 = wr.alloc (.cells #[] 28) := ⟨_, rfl⟩
      rw [← hw6] at HO0 HB60 ⊢
      clear hw6
      have HB1R := Lib.hid (HB12.out.trans (HB2R.out.mono HB12.out.size))
      have HS1R := Lib.hid (HS1.out.keep HB1R.out)
      have HP1R := Lib.hid (HP1.out.keep HB1R.out)
      have HSRR := Lib.hid (HSR.out.keep HBR.out)
      have HRBR := Lib.hid (HRB.out.keep HBR.out)
      refine lp_pure (v := ?_) (by kernel_rfl) ?_ ?_
      rotate_left
      · go_simp; try with_reducible rfl
      try simp only [Act.put, List.setIfInBounds_toArray, List.set_cons_zero, List.set_cons_succ]
      refine wpList_append_pc rfl 33 28 elPc (.tmp 97) (.tmp 98) rfl wr.heap.size _ [] rfl HO0.out q1 LP LP.length c1 w1.heap.size rfl rfl HQ1.out (HS1R.out.keep (HB60.out.mono (Nat.le_trans HB12.out.size HB2R.out.size))) (rowP_ones HP1R.out) (by simp; omega) HB60.out.size ?_
      intro v61 w61 h1 h2
      rw [List.nil_append] at h1
      have HO1 := Lib.hid h1
      have HB61 := Lib.hid (HB60.out.trans h2)
      clear h1 h2
      try simp only [Act.put, List.setIfInBounds_toArray, List.set_cons_zero, List.set_cons_succ]
      refine lp_pure (v := ?_) (by kernel_rfl) ?_ ?_
      rotate_left
      · go_simp; try with_reducible rfl
      try simp only [Act.put, List.setIfInBounds_toArray, List.set_cons_zero, List.set_cons_succ]
      refine wpList_append_pc rfl 33 28 elPc (.tmp 99) (.tmp 100) rfl wr.heap.size _ LP rfl HO1.out qr R R.length cr w.heap.size rfl rfl hqr (HSRR.out.keep (HB61.out.mono HBR.out.size)) (rowP_ones HRBR.out) (by omega) HB61.out.size ?_
      intro v7 w7 h1 h2
      have HO7 := Lib.hid h1
      have HB7 := Lib.hid (HB61.out.trans h2)
      clear h1 h2
      try simp only [Act.put, List.setIfInBounds_toArray, List.set_cons_zero, List.set_cons_succ]
      refine lp_pure (v := ?_) (by kernel_rfl) ?_ ?_
      rotate_left
      · go_simp; try with_reducible rfl
      try simp only [Act.put, List.setIfInBounds_toArray, List.set_cons_zero, List.set_cons_succ]
      refine wpList_nil ?_
      have HPB7 : Hid (Pcb w7 (LP ++ R)) := Lib.hid (fun p hp => by
        rcases List.mem_append.1 hp with h | h
        · exact (HP1R.out p h).keep HB7.out
        · exact (HRBR.out p h).keep HB7.out)
      have HLH : Hid ((LP ++ R).length ≤ 2000) := Lib.hid (by rw [List.length_append]; omega)
      have HLL : Hid (∀ p ∈ LP, p.2.2.length ≤ 128) := Lib.hid (fun p hp => good_len (HGC.out p (by rw [← HK1.out]; exact List.mem_map_of_mem hp)))
      have HBW7 := Lib.hid (HBR.out.trans (HB7.out.mono HBR.out.size))
      obtain ⟨q7, c7, rfl, hc7, hq7, hs7⟩ := HO7.out.pc
      have HMEM : Hid (∀ p ∈ LP ++ R, p ∈ LP ∨ p ∈ R) := Lib.hid (fun p hp => List.mem_append.1 hp)
      generalize LP ++ R = H at *
      have HS7 := Lib.hid hs7
      clear hs7 hq7 hc7 HO0 HO1 HB60 HB61 HO7 HP1 HS1 HP1R HS1R HSRR HRBR HB12 HB2R HB1R HB7 HBR HK1
      go_upto_region 17 with fail
      have HNIL := Lib.hid (OwnU.nil w7 w7.heap.size 24)
      have HBK := Lib.hid (Below.refl w7.heap.size w7)
      go_loopw [13, 14] (fun v vi wx => ∃ j : Nat, j ≤ W.length ∧ vi = .int .i64 j ∧ OwnU wx w7.heap.size 24 v ((W.take j).map (nameOf H)) ∧ Below w7.heap.size w7 wx) (fun _ vi _ => W.length - (intOf vi).toNat)
      case atStart => exact ⟨0, by omega, rfl, HNIL.out, HBK.out⟩
      case round =>
        clear HNIL HBK
        rename World => wx
        obtain ⟨j, hj, rfl, hrow, hBx⟩ := hrel
        have HROW := Lib.hid hrow
        have HBX := Lib.hid hBx
        clear hrow hBx
        have HBXW := Lib.hid (HBW7.out.trans (HBX.out.mono HBW7.out.size))
        by_cases hlt : j < W.length
        · obtain ⟨aw, rfl, _, hcw⟩ := (HSW.out.keep HBXW.out).get (by rw [List.length_map]; omega)
          have c0 := hcw j (.int .i64 W[j]) (by rw [List.getElem?_map, List.getElem?_eq_getElem hlt]; rfl)
          have hwz := HWF.out W[j] (List.getElem_mem hlt)
          have HTK : Hid ((W.take (j + 1)).map (nameOf H) = (W.take j).map (nameOf H) ++ [nameOf H W[j]]) := Lib.hid (by rw [List.take_add_one, List.getElem?_eq_getElem hlt, List.map_append]; rfl)
          obtain ⟨z, hz⟩ : ∃ z, z = W[j] := ⟨_, rfl⟩
          rw [← hz] at c0 hwz HTK
          have kk : (j : Int) < (W.length : Int) := by omega
          have kll : j < 1000000 := by omega
          have HLEN : Hid (((W.take j).map (nameOf H)).length + 1 ≤ 4000000) := Lib.hid (by rw [List.length_map, List.length_take]; omega)
          clear hcw hz
          by_cases hin : 0 ≤ z ∧ z < H.length
          · obtain ⟨m, rfl⟩ := Int.eq_ofNat_of_zero_le hin.1
            have hmh : m < H.length := by omega
            have HNO : Hid (nameOf H (m : Int) = H[m].1) := Lib.hid (by unfold nameOf; rw [dif_pos hin]; rfl)
            obtain ⟨ah, rfl, _, hch⟩ := Sees.pc HS7.out hmh
            obtain ⟨p, hp⟩ : ∃ p, p = H[m] := ⟨_, rfl⟩
            rw [← hp] at hch HNO
            have HCH := Lib.hid (hch wx HBX.out)
            have kz : (m : Int) ≥ 0 := by omega
            have kz2 : (m : Int) < (H.length : Int) := by omega
            clear hch hp hin hwz
            go_upto_region 20 with fail
            refine wp_region_lit ?_
            try simp only [Act.put, List.setIfInBounds_toArray, List.set_cons_zero, List.set_cons_succ]
            refine lp_pure (v := ?_) (by kernel_rfl) ?_ ?_
            rotate_left
            · go_simp; try with_reducible rfl
            try simp only [Act.put, List.setIfInBounds_toArray, List.set_cons_zero, List.set_cons_succ]
            refine lp_pure (v := ?_) (by kernel_rfl) ?_ ?_
            rotate_left
            · go_simp; try with_reducible rfl
            try simp only [Act.put, List.setIfInBounds_toArray, List.set_cons_zero, List.set_cons_succ]
            refine lp_pure (v := ?_) (by kernel_rfl) ?_ ?_
            rotate_left
            · go_simp; try with_reducible rfl
            try simp only [Act.put, List.setIfInBounds_toArray, List.set_cons_zero, List.set_cons_succ]
            refine lp_pure (v := ?_) (by kernel_rfl) ?_ ?_
            rotate_left
            · go_simp; try with_reducible rfl
            try simp only [Act.put, List.setIfInBounds_toArray, List.set_cons_zero, List.set_cons_succ]
            refine lp_pure (v := ?_) (by kernel_rfl) ?_ ?_
            rotate_left
            · go_simp; try with_reducible rfl
            try simp only [Act.put, List.setIfInBounds_toArray, List.set_cons_zero, List.set_cons_succ]
            refine lp_pure (v := ?_) (by kernel_rfl) ?_ ?_
            rotate_left
            · go_simp; try with_reducible rfl
            try simp only [Act.put, List.setIfInBounds_toArray, List.set_cons_zero, List.set_cons_succ]
            refine lp_pure (v := ?_) (by kernel_rfl) ?_ ?_
            rotate_left
            · go_simp; try with_reducible rfl
            try simp only [Act.put, List.setIfInBounds_toArray, List.set_cons_zero, List.set_cons_succ]
            refine lp_pure (v := ?_) (by kernel_rfl) ?_ ?_
            rotate_left
            · go_simp; try with_reducible rfl
            try simp only [Act.put, List.setIfInBounds_toArray, List.set_cons_zero, List.set_cons_succ]
            refine lp_pure (by kernel_rfl) (load_su 24 (.tmp 129) rfl (ah.add (m * 33)) rfl elSum.2.1 szSum p.1 (fun k u hu => HCH.out k u (encP_su hu))) ?_
            try simp only [Act.put, List.setIfInBounds_toArray, List.set_cons_zero, List.set_cons_succ]
            refine wpList_one_su rfl 32 24 elSum (.tmp 130) rfl p.1 rfl ?_
            try simp only [Act.put, List.setIfInBounds_toArray, List.set_cons_zero, List.set_cons_succ]
            refine wpList_append_su rfl 32 24 elSum (.tmp 122) (.tmp 131) rfl w7.heap.size _ ((W.take j).map (nameOf H)) rfl (HROW.out.keep ((Below.refl _ _).alloc (Nat.le_refl _) _)) (some ⟨wx.heap.size, 0, none⟩) [p.1] 1 1 (wx.heap.size + 1) rfl rfl (fun h => by cases h) (Ss.one (Has.made' _ _ _ _ rfl) (by omega)) HLEN.out (by have := HBX.out.size; simp; omega) ?_
            intro v8 w8 h1 h2
            have HROW2 := Lib.hid h1
            have HB8 := Lib.hid h2
            clear h1 h2
            try simp only [Act.put, List.setIfInBounds_toArray, List.set_cons_zero, List.set_cons_succ]
            refine lp_pure (v := ?_) (by kernel_rfl) ?_ ?_
            rotate_left
            · go_simp; try with_reducible rfl
            try simp only [Act.put, List.setIfInBounds_toArray, List.set_cons_zero, List.set_cons_succ]
            refine wpList_nil ?_
            go_wp2_with fail
            go_roundw
            case rel => exact ⟨j + 1, by omega, by go_num, by rw [HTK.out, HNO.out]; exact HROW2.out, (HBX.out.trans ((Below.refl _ _).alloc HBX.out.size _)).trans HB8.out⟩
            case measure => simp [intOf]; omega
          · have HNO : Hid (nameOf H z = shaU [BitVec.ofInt 8 z]) := Lib.hid (by unfold nameOf; rw [dif_neg hin])
            have hw8 := u8_wrap z
            have HCS : Hid (#[Value.int .u8 (IntKind.u8.wrap z)] = ([BitVec.ofInt 8 z].map u8v).toArray) := Lib.hid (by rw [hw8]; rfl)
            clear hw8
            have kz : (z ≥ 0 ∧ ¬ z < (H.length : Int)) ∨ ¬ z ≥ 0 := by omega
            have KEY : Hid True := Lib.hid trivial
            rcases kz with ⟨kz1, kz2⟩ | kz1
            · clear KEY
              clear hin
              go_upto_region 21 with fail
              refine wp_region_lit ?_
              try simp only [Act.put, List.setIfInBounds_toArray, List.set_cons_zero, List.set_cons_succ]
              refine lp_pure (v := ?_) (by kernel_rfl) ?_ ?_
              rotate_left
              · go_simp; try with_reducible rfl
              try simp only [Act.put, List.setIfInBounds_toArray, List.set_cons_zero, List.set_cons_succ]
              refine lp_pure (v := ?_) (by kernel_rfl) ?_ ?_
              rotate_left
              · go_simp; try with_reducible rfl
              try simp only [Act.put, List.setIfInBounds_toArray, List.set_cons_zero, List.set_cons_succ]
              refine lp_pure (v := ?_) (by kernel_rfl) ?_ ?_
              rotate_left
              · go_simp; try with_reducible rfl
              try simp only [Act.put, List.setIfInBounds_toArray, List.set_cons_zero, List.set_cons_succ]
              refine lp_pure (v := ?_) (by kernel_rfl) ?_ ?_
              rotate_left
              · go_simp; try with_reducible rfl
              try simp only [Act.put, List.setIfInBounds_toArray, List.set_cons_zero, List.set_cons_succ]
              refine lp_pure (v := ?_) (by kernel_rfl) ?_ ?_
              rotate_left
              · go_simp; try with_reducible rfl
              try simp only [Act.put, List.setIfInBounds_toArray, List.set_cons_zero, List.set_cons_succ]
              refine lp_pure (v := ?_) (by kernel_rfl) ?_ ?_
              rotate_left
              · go_simp; try with_reducible rfl
              try simp only [Act.put, List.setIfInBounds_toArray, List.set_cons_zero, List.set_cons_succ]
              refine lp_step (by kernel_rfl) (fun K hK => wp_lit8 1 _ rfl #[Value.int .u8 (IntKind.u8.wrap z)] (by decide) (by decide) (by kernel_rfl) (hK _ _ ?_))
              try simp only [Act.put, List.setIfInBounds_toArray, List.set_cons_zero, List.set_cons_succ]
              have HBL : Hid (Bs (wx.alloc (.cells #[Value.int .u8 (IntKind.u8.wrap z)] 5)) (.slice (some ⟨wx.heap.size, 0, none⟩) 1 1) [BitVec.ofInt 8 z]) := Lib.hid (bs_litk wx [BitVec.ofInt 8 z] _ (0, 0) HCS.out 1 rfl)
              have HROWL := Lib.hid (HROW.out.keep ((Below.refl wx.heap.size wx).alloc (Nat.le_refl _) (.cells #[Value.int .u8 (IntKind.u8.wrap z)] 5)))
              have HBXL := Lib.hid (HBX.out.alloc HBX.out.size (.cells #[Value.int .u8 (IntKind.u8.wrap z)] 5))
              generalize wx.alloc (.cells #[Value.int .u8 (IntKind.u8.wrap z)] 5) = wy at *
              generalize wx.heap.size = gx at *
              have HOF := Lib.hid (of_one HBL.out (show (1 : Nat) ≤ 1000000 by decide) (HL.out.keep (HBW7.out.trans (HBXL.out.mono HBW7.out.size)) HSZ.out))
              refine lp_step (by kernel_rfl) (fun K hK => wp_one_bs (.tmp 139) rfl (some ⟨gx, 0, none⟩) 1 1 rfl (hK _ _ ?_))
              try simp only [Act.put, List.setIfInBounds_toArray, List.set_cons_zero, List.set_cons_succ]
              refine lp_step (by kernel_rfl) (fun K hK => ?_)
              go_wp2_with fail
              refine Calls.mono (HOF.out) ?_
              rintro e w9 ⟨rfl, _, hb9⟩
              have HB9 := Lib.hid hb9
              have HROW9 := Lib.hid (HROWL.out.keep hb9)
              clear hb9
              refine hK _ _ ?_
              clear hK
              try simp only [Act.put, List.setIfInBounds_toArray, List.set_cons_zero, List.set_cons_succ]
              refine wpList_one_su rfl 32 24 elSum (.tmp 141) rfl (shaU [BitVec.ofInt 8 z]) rfl ?_
              try simp only [Act.put, List.setIfInBounds_toArray, List.set_cons_zero, List.set_cons_succ]
              refine wpList_append_su rfl 32 24 elSum (.tmp 133) (.tmp 142) rfl w7.heap.size _ ((W.take j).map (nameOf H)) rfl (HROW9.out.keep ((Below.refl _ _).alloc (Nat.le_refl _) _)) (some ⟨w9.heap.size, 0, none⟩) [shaU [BitVec.ofInt 8 z]] 1 1 (w9.heap.size + 1) rfl rfl (fun h => by cases h) (Ss.one (Has.made' _ _ _ _ rfl) (by omega)) HLEN.out (by have := HBXL.out.size; have := HB9.out.size; simp; omega) ?_
              intro v8 w8 h1 h2
              have HROW2 := Lib.hid h1
              have HB8 := Lib.hid h2
              clear h1 h2
              try simp only [Act.put, List.setIfInBounds_toArray, List.set_cons_zero, List.set_cons_succ]
              refine lp_pure (v := ?_) (by kernel_rfl) ?_ ?_
              rotate_left
              · go_simp; try with_reducible rfl
              try simp only [Act.put, List.setIfInBounds_toArray, List.set_cons_zero, List.set_cons_succ]
              refine wpList_nil ?_
              go_wp2_with fail
              go_roundw
              case rel =>
                refine ⟨j + 1, by omega, by go_num, by rw [HTK.out, HNO.out]; exact HROW2.out, ?_⟩
                have h9 := HBXL.out.trans (HB9.out.mono HBXL.out.size)
                exact (h9.trans ((Below.refl _ _).alloc h9.size _)).trans HB8.out
              case measure => simp [intOf]; omega
            · clear KEY
              clear hin
              go_upto_region 21 with fail
              refine wp_region_lit ?_
              try simp only [Act.put, List.setIfInBounds_toArray, List.set_cons_zero, List.set_cons_succ]
              refine lp_pure (v := ?_) (by kernel_rfl) ?_ ?_
              rotate_left
              · go_simp; try with_reducible rfl
              try simp only [Act.put, List.setIfInBounds_toArray, List.set_cons_zero, List.set_cons_succ]
              refine lp_pure (v := ?_) (by kernel_rfl) ?_ ?_
              rotate_left
              · go_simp; try with_reducible rfl
              try simp only [Act.put, List.setIfInBounds_toArray, List.set_cons_zero, List.set_cons_succ]
              refine lp_pure (v := ?_) (by kernel_rfl) ?_ ?_
              rotate_left
              · go_simp; try with_reducible rfl
              try simp only [Act.put, List.setIfInBounds_toArray, List.set_cons_zero, List.set_cons_succ]
              refine lp_pure (v := ?_) (by kernel_rfl) ?_ ?_
              rotate_left
              · go_simp; try with_reducible rfl
              try simp only [Act.put, List.setIfInBounds_toArray, List.set_cons_zero, List.set_cons_succ]
              refine lp_pure (v := ?_) (by kernel_rfl) ?_ ?_
              rotate_left
              · go_simp; try with_reducible rfl
              try simp only [Act.put, List.setIfInBounds_toArray, List.set_cons_zero, List.set_cons_succ]
              refine lp_pure (v := ?_) (by kernel_rfl) ?_ ?_
              rotate_left
              · go_simp; try with_reducible rfl
              try simp only [Act.put, List.setIfInBounds_toArray, List.set_cons_zero, List.set_cons_succ]
              refine lp_step (by kernel_rfl) (fun K hK => wp_lit8 1 _ rfl #[Value.int .u8 (IntKind.u8.wrap z)] (by decide) (by decide) (by kernel_rfl) (hK _ _ ?_))
              try simp only [Act.put, List.setIfInBounds_toArray, List.set_cons_zero, List.set_cons_succ]
              have HBL : Hid (Bs (wx.alloc (.cells #[Value.int .u8 (IntKind.u8.wrap z)] 5)) (.slice (some ⟨wx.heap.size, 0, none⟩) 1 1) [BitVec.ofInt 8 z]) := Lib.hid (bs_litk wx [BitVec.ofInt 8 z] _ (0, 0) HCS.out 1 rfl)
              have HROWL := Lib.hid (HROW.out.keep ((Below.refl wx.heap.size wx).alloc (Nat.le_refl _) (.cells #[Value.int .u8 (IntKind.u8.wrap z)] 5)))
              have HBXL := Lib.hid (HBX.out.alloc HBX.out.size (.cells #[Value.int .u8 (IntKind.u8.wrap z)] 5))
              generalize wx.alloc (.cells #[Value.int .u8 (IntKind.u8.wrap z)] 5) = wy at *
              generalize wx.heap.size = gx at *
              have HOF := Lib.hid (of_one HBL.out (show (1 : Nat) ≤ 1000000 by decide) (HL.out.keep (HBW7.out.trans (HBXL.out.mono HBW7.out.size)) HSZ.out))
              refine lp_step (by kernel_rfl) (fun K hK => wp_one_bs (.tmp 139) rfl (some ⟨gx, 0, none⟩) 1 1 rfl (hK _ _ ?_))
              try simp only [Act.put, List.setIfInBounds_toArray, List.set_cons_zero, List.set_cons_succ]
              refine lp_step (by kernel_rfl) (fun K hK => ?_)
              go_wp2_with fail
              refine Calls.mono (HOF.out) ?_
              rintro e w9 ⟨rfl, _, hb9⟩
              have HB9 := Lib.hid hb9
              have HROW9 := Lib.hid (HROWL.out.keep hb9)
              clear hb9
              refine hK _ _ ?_
              clear hK
              try simp only [Act.put, List.setIfInBounds_toArray, List.set_cons_zero, List.set_cons_succ]
              refine wpList_one_su rfl 32 24 elSum (.tmp 141) rfl (shaU [BitVec.ofInt 8 z]) rfl ?_
              try simp only [Act.put, List.setIfInBounds_toArray, List.set_cons_zero, List.set_cons_succ]
              refine wpList_append_su rfl 32 24 elSum (.tmp 133) (.tmp 142) rfl w7.heap.size _ ((W.take j).map (nameOf H)) rfl (HROW9.out.keep ((Below.refl _ _).alloc (Nat.le_refl _) _)) (some ⟨w9.heap.size, 0, none⟩) [shaU [BitVec.ofInt 8 z]] 1 1 (w9.heap.size + 1) rfl rfl (fun h => by cases h) (Ss.one (Has.made' _ _ _ _ rfl) (by omega)) HLEN.out (by have := HBXL.out.size; have := HB9.out.size; simp; omega) ?_
              intro v8 w8 h1 h2
              have HROW2 := Lib.hid h1
              have HB8 := Lib.hid h2
              clear h1 h2
              try simp only [Act.put, List.setIfInBounds_toArray, List.set_cons_zero, List.set_cons_succ]
              refine lp_pure (v := ?_) (by kernel_rfl) ?_ ?_
              rotate_left
              · go_simp; try with_reducible rfl
              try simp only [Act.put, List.setIfInBounds_toArray, List.set_cons_zero, List.set_cons_succ]
              refine wpList_nil ?_
              go_wp2_with fail
              go_roundw
              case rel =>
                refine ⟨j + 1, by omega, by go_num, by rw [HTK.out, HNO.out]; exact HROW2.out, ?_⟩
                have h9 := HBXL.out.trans (HB9.out.mono HBXL.out.size)
                exact (h9.trans ((Below.refl _ _).alloc h9.size _)).trans HB8.out
              case measure => simp [intOf]; omega
        · have hjl : j = W.length := by omega
          subst hjl
          have kk : ¬ ((W.length : Int) < (W.length : Int)) := by omega
          have hrow := HROW.out
          rw [List.take_length] at hrow
          obtain ⟨q13, c13, rfl, hc13, hq13, hs13⟩ := hrow.us
          rw [List.length_map] at hc13 ⊢
          have HS13 := Lib.hid hs13
          have HSR' := Lib.hid (HSR.out.keep HBXW.out)
          have HRB' := Lib.hid (HRB.out.keep HBXW.out)
          have HS7' := Lib.hid ((HS7.out.keep HBX.out).more HBX.out.size)
          have HPB7' := Lib.hid (HPB7.out.keep HBX.out)
          clear hlt hrow HROW hs13 hq13 hc13 HS7 HPB7 HBX HBW7
          go_upto_region 23 with fail
          have HBK := Lib.hid (Below.refl wx.heap.size wx)
          go_loopw [15] (fun vi wz => ∃ j : Nat, j ≤ R.length ∧ vi = .int .i64 j ∧ (∀ p ∈ R.take j, p.2.2.length ≤ 500) ∧ Below wx.heap.size wx wz) (fun vi _ => R.length - (intOf vi).toNat)
          case atStart => exact ⟨0, by omega, rfl, fun p hp => by simp at hp, HBK.out⟩
          case round =>
            clear HBK
            rename World => wz
            obtain ⟨j, hj, rfl, hsm, hBz⟩ := hrel
            have HSM := Lib.hid hsm
            have HBZ := Lib.hid hBz
            clear hsm hBz
            have HBZW := Lib.hid (HBXW.out.trans (HBZ.out.mono HBXW.out.size))
            by_cases hlt : j < R.length
            · obtain ⟨ar, rfl, _, hcr2⟩ := Sees.pc HSR.out hlt
              have hbs := (HRB.out R[j] (List.getElem_mem hlt)).keep HBZW.out
              have hcut := fun w' => cut_pc 33 28 elPc (some ar) R.length cr j (by omega) w'
              have hcs := fun (w' : World) (h : Below wz.heap.size wz w') => ((HSR.out.keep HBZW.out).keep (h.mono HBZW.out.size)).pcCut hcr hlt
              have HTK : Hid (∀ p, p ∈ R.take (j + 1) ↔ p ∈ R.take j ∨ p = R[j]) := Lib.hid (fun p => by rw [List.take_add_one, List.getElem?_eq_getElem hlt, List.mem_append]; simp)
              have hmx := HR0.out R[j] (List.getElem_mem hlt)
              obtain ⟨p, hp⟩ : ∃ p, p = R[j] := ⟨_, rfl⟩
              rw [← hp] at hcr2 hbs hcs HTK hmx
              obtain ⟨s, v, x⟩ := p
              obtain ⟨qx, cx, hv, hcx, hqx, hsx⟩ := hbs
              simp only [] at hv hsx hcx hmx
              subst hv
              have HBS : Hid (Bs wz.drew (.slice qx x.length cx) x) := Lib.hid ⟨qx, cx, rfl, hcx, hqx, hsx⟩
              have HCP : Hid (∀ w', Ext wz.drew w' → ∀ k y, (encP (s, .slice qx x.length cx, x))[k]? = some y → w'.cell? ((ar.add (j * 33)).add k) = some y) := Lib.hid (fun w' h => hcr2 w' (HBZW.out.trans (Below.mono (Ext.trans (Below.refl _ _).drew h) HBZW.out.size)))
              have HC32 : Hid (∀ w', Ext wz.drew w' → w'.cell? ⟨(ar.add (j * 33)).block, (ar.add (j * 33)).off + 32, none⟩ = some (.slice qx x.length cx)) := Lib.hid (fun w' h => HCP.out w' h 32 _ (encP_b _))
              have HCT := Lib.hid hcut
              have HCS : Hid (∀ w', Ext wz.drew w' → Sees w' w'.heap.size (if cr = j then some ar else (some ar).map (·.add (j * 33))) (rowP [(s, .slice qx x.length cx, x)])) := Lib.hid (fun w' h => (hcs w' (Ext.trans (Below.refl _ _).drew h)).more (Nat.le_trans HBZW.out.size (Ext.trans (Below.refl _ _).drew h).size))
              have HLW := Lib.hid (HL.out.keep HBZW.out.drew HSZ.out)
              have kk : (j : Int) < (R.length : Int) := by omega
              have kll : j < 1000000 := by omega
              have kwi : IntKind.i64.wrap ((j : Int) + 1) = (j : Int) + 1 := by rw [IntWalk.i64_in _ (by omega)]
              obtain ⟨qc, hqc⟩ : ∃ y, y = (if cr = j then some ar else (some ar).map (·.add (j * 33))) := ⟨_, rfl⟩
              rw [← hqc] at HCS HCT
              clear hcr2 hcut hcs hp hcx hqx hsx hqc
              go_upto_region 25 with fail
              by_cases h5 : x.length > 500
              · have k5 : (x.length : Int) > 500 := by omega
                refine wp_region_org [(0, true), (1, true), (2, true), (3, true), (4, true), (5, true), (6, true), (7, true), (8, true), (9, true), (10, true), (11, true), (13, true), (14, true), (15, true), (16, true), (17, true), (12, false), (18, false), (19, true), (20, true), (21, false), (22, true), (23, true)] (by kernel_rfl) (by kernel_rfl) (by kernel_rfl) ?_
                replace HBZ := Lib.hid HBZ.out.drew
                replace HBZW := Lib.hid HBZW.out.drew
                generalize wz.drew = wd at *
                simp only [pickOrs, List.getElem?_cons_zero, List.getElem?_cons_succ]
                refine org_pure (v := ?_) (by kernel_rfl) ?_ ?_
                rotate_left
                · intro w' hv; clear hv; go_simp; try with_reducible rfl
                try simp only [Act.put, List.setIfInBounds_toArray, List.set_cons_zero, List.set_cons_succ]
                refine org_pure (v := ?_) (by kernel_rfl) ?_ ?_
                rotate_left
                · intro w' hv; clear hv; go_simp; try with_reducible rfl
                try simp only [Act.put, List.setIfInBounds_toArray, List.set_cons_zero, List.set_cons_succ]
                refine org_pure (v := ?_) (by kernel_rfl) ?_ ?_
                rotate_left
                · intro w' hv; clear hv; go_simp; try with_reducible rfl
                try simp only [Act.put, List.setIfInBounds_toArray, List.set_cons_zero, List.set_cons_succ]
                refine org_pure (v := ?_) (by kernel_rfl) ?_ ?_
                rotate_left
                · intro w' hv; clear hv; go_simp; try with_reducible rfl
                try simp only [Act.put, List.setIfInBounds_toArray, List.set_cons_zero, List.set_cons_succ]
                refine org_pure (v := ?_) (by kernel_rfl) ?_ ?_
                rotate_left
                · intro w' hv; have c32 := HC32.out _ hv; clear hv; go_simp; try with_reducible rfl
                try simp only [Act.put, List.setIfInBounds_toArray, List.set_cons_zero, List.set_cons_succ]
                refine org_pure (v := ?_) (by kernel_rfl) ?_ ?_
                rotate_left
                · intro w' hv; clear hv; go_simp; try with_reducible rfl
                try simp only [Act.put, List.setIfInBounds_toArray, List.set_cons_zero, List.set_cons_succ]
                refine org_pure (v := ?_) (by kernel_rfl) ?_ ?_
                rotate_left
                · intro w' hv; clear hv; go_simp; try with_reducible rfl
                try simp only [Act.put, List.setIfInBounds_toArray, List.set_cons_zero, List.set_cons_succ]
                refine org_pure (v := ?_) (by kernel_rfl) ?_ ?_
                rotate_left
                · intro w' hv; clear hv; go_simp; try with_reducible rfl
                try simp only [Act.put, List.setIfInBounds_toArray, List.set_cons_zero, List.set_cons_succ]
                refine org_skip (by kernel_rfl) ?_
                try simp only [Act.put, List.setIfInBounds_toArray, List.set_cons_zero, List.set_cons_succ]
                refine org_skip (by kernel_rfl) ?_
                try simp only [Act.put, List.setIfInBounds_toArray, List.set_cons_zero, List.set_cons_succ]
                refine org_skip (by kernel_rfl) ?_
                try simp only [Act.put, List.setIfInBounds_toArray, List.set_cons_zero, List.set_cons_succ]
                refine org_skip (by kernel_rfl) ?_
                try simp only [Act.put, List.setIfInBounds_toArray, List.set_cons_zero, List.set_cons_succ]
                refine org_skip (by kernel_rfl) ?_
                try simp only [Act.put, List.setIfInBounds_toArray, List.set_cons_zero, List.set_cons_succ]
                refine org_skip (by kernel_rfl) ?_
                try simp only [Act.put, List.setIfInBounds_toArray, List.set_cons_zero, List.set_cons_succ]
                refine org_skip (by kernel_rfl) ?_
                try simp only [Act.put, List.setIfInBounds_toArray, List.set_cons_zero, List.set_cons_succ]
                refine org_skip (by kernel_rfl) ?_
                try simp only [Act.put, List.setIfInBounds_toArray, List.set_cons_zero, List.set_cons_succ]
                refine org_skip (by kernel_rfl) ?_
                try simp only [Act.put, List.setIfInBounds_toArray, List.set_cons_zero, List.set_cons_succ]
                refine org_pass (by kernel_rfl) ?_
                try simp only [Act.put, List.setIfInBounds_toArray, List.set_cons_zero, List.set_cons_succ]
                refine org_pass (by kernel_rfl) ?_
                try simp only [Act.put, List.setIfInBounds_toArray, List.set_cons_zero, List.set_cons_succ]
                refine org_skip (by kernel_rfl) ?_
                try simp only [Act.put, List.setIfInBounds_toArray, List.set_cons_zero, List.set_cons_succ]
                refine org_skip (by kernel_rfl) ?_
                try simp only [Act.put, List.setIfInBounds_toArray, List.set_cons_zero, List.set_cons_succ]
                refine org_pass (by kernel_rfl) ?_
                try simp only [Act.put, List.setIfInBounds_toArray, List.set_cons_zero, List.set_cons_succ]
                refine org_skip (by kernel_rfl) ?_
                try simp only [Act.put, List.setIfInBounds_toArray, List.set_cons_zero, List.set_cons_succ]
                refine org_pure (v := ?_) (by kernel_rfl) ?_ ?_
                rotate_left
                · intro w' hv; clear hv; go_simp; try with_reducible rfl
                try simp only [Act.put, List.setIfInBounds_toArray, List.set_cons_zero, List.set_cons_succ]
                refine org_nil ?_
                have c32 := HC32.out wd (Below.refl _ _)
                go_wp2_with fail
                go_ret
                exact ⟨rfl, HBZW.out⟩
              · have k5 : ¬ (x.length : Int) > 500 := by omega
                have HX5 : Hid (x.length ≤ 500) := Lib.hid (by omega)
                refine wp_region_org [(0, true), (1, true), (2, true), (3, true), (4, true), (5, true), (6, true), (7, true), (8, true), (9, true), (10, true), (11, true), (13, true), (14, true), (15, true), (16, true), (17, true), (12, false), (18, false), (19, true), (20, true), (21, false), (22, true), (23, true)] (by kernel_rfl) (by kernel_rfl) (by kernel_rfl) ?_
                replace HBZ := Lib.hid HBZ.out.drew
                replace HBZW := Lib.hid HBZW.out.drew
                generalize wz.drew = wd at *
                simp only [pickOrs, List.getElem?_cons_zero, List.getElem?_cons_succ]
                refine org_pure (v := ?_) (by kernel_rfl) ?_ ?_
                rotate_left
                · intro w' hv; clear hv; go_simp; try with_reducible rfl
                try simp only [Act.put, List.setIfInBounds_toArray, List.set_cons_zero, List.set_cons_succ]
                refine org_pure (v := ?_) (by kernel_rfl) ?_ ?_
                rotate_left
                · intro w' hv; clear hv; go_simp; try with_reducible rfl
                try simp only [Act.put, List.setIfInBounds_toArray, List.set_cons_zero, List.set_cons_succ]
                refine org_pure (v := ?_) (by kernel_rfl) ?_ ?_
                rotate_left
                · intro w' hv; clear hv; go_simp; try with_reducible rfl
                try simp only [Act.put, List.setIfInBounds_toArray, List.set_cons_zero, List.set_cons_succ]
                refine org_pure (v := ?_) (by kernel_rfl) ?_ ?_
                rotate_left
                · intro w' hv; clear hv; go_simp; try with_reducible rfl
                try simp only [Act.put, List.setIfInBounds_toArray, List.set_cons_zero, List.set_cons_succ]
                refine org_pure (v := ?_) (by kernel_rfl) ?_ ?_
                rotate_left
                · intro w' hv; have c32 := HC32.out _ hv; clear hv; go_simp; try with_reducible rfl
                try simp only [Act.put, List.setIfInBounds_toArray, List.set_cons_zero, List.set_cons_succ]
                refine org_pure (v := ?_) (by kernel_rfl) ?_ ?_
                rotate_left
                · intro w' hv; clear hv; go_simp; try with_reducible rfl
                try simp only [Act.put, List.setIfInBounds_toArray, List.set_cons_zero, List.set_cons_succ]
                refine org_pure (v := ?_) (by kernel_rfl) ?_ ?_
                rotate_left
                · intro w' hv; clear hv; go_simp; try with_reducible rfl
                try simp only [Act.put, List.setIfInBounds_toArray, List.set_cons_zero, List.set_cons_succ]
                refine org_pure (v := ?_) (by kernel_rfl) ?_ ?_
                rotate_left
                · intro w' hv; clear hv; go_simp; try with_reducible rfl
                try simp only [Act.put, List.setIfInBounds_toArray, List.set_cons_zero, List.set_cons_succ]
                refine org_pure (v := ?_) (by kernel_rfl) ?_ ?_
                rotate_left
                · intro w' hv; clear hv; go_simp; try with_reducible rfl
                try simp only [Act.put, List.setIfInBounds_toArray, List.set_cons_zero, List.set_cons_succ]
                refine org_pure (v := ?_) (by kernel_rfl) ?_ ?_
                rotate_left
                · intro w' hv; clear hv; go_simp; try with_reducible rfl
                try simp only [Act.put, List.setIfInBounds_toArray, List.set_cons_zero, List.set_cons_succ]
                refine org_pure (v := ?_) (by kernel_rfl) ?_ ?_
                rotate_left
                · intro w' hv; clear hv; go_simp; try with_reducible rfl
                try simp only [Act.put, List.setIfInBounds_toArray, List.set_cons_zero, List.set_cons_succ]
                refine org_pure (by kernel_rfl) (fun w' hv => load_pc 33 28 elPc (.tmp 160) rfl (ar.add (j * 33)) rfl (s, .slice qx x.length cx, x) (HCP.out _ hv)) ?_
                try simp only [Act.put, List.setIfInBounds_toArray, List.set_cons_zero, List.set_cons_succ]
                refine org_pure (v := ?_) (by kernel_rfl) ?_ ?_
                rotate_left
                · intro w' hv; clear hv; go_simp; try with_reducible rfl
                try simp only [Act.put, List.setIfInBounds_toArray, List.set_cons_zero, List.set_cons_succ]
                refine org_pure (v := ?_) (by kernel_rfl) ?_ ?_
                rotate_left
                · intro w' hv; clear hv; go_simp; try with_reducible rfl
                try simp only [Act.put, List.setIfInBounds_toArray, List.set_cons_zero, List.set_cons_succ]
                refine org_pure (v := ?_) (by kernel_rfl) ?_ ?_
                rotate_left
                · intro w' hv; clear hv; go_simp; try with_reducible rfl
                try simp only [Act.put, List.setIfInBounds_toArray, List.set_cons_zero, List.set_cons_succ]
                refine org_pure (v := ?_) (by kernel_rfl) ?_ ?_
                rotate_left
                · intro w' hv; clear hv; go_simp; try with_reducible rfl
                try simp only [Act.put, List.setIfInBounds_toArray, List.set_cons_zero, List.set_cons_succ]
                refine org_pure (v := ?_) (by kernel_rfl) ?_ ?_
                rotate_left
                · intro w' hv; have c0 := HCT.out w'; clear hv; go_simp; try with_reducible rfl
                try simp only [Act.put, List.setIfInBounds_toArray, List.set_cons_zero, List.set_cons_succ]
                have HGP := Lib.hid (pgood_any (s, .slice qx x.length cx, x) wd HBS.out (by have h5 := HX5.out; show x.length < 1000000000000; omega) HLW.out)
                refine org_step (by kernel_rfl) (fun K hK => wp_callF 11 (.tmp 161) _ rfl _ rfl (by kernel_rfl) HGP.out ?_)
                rintro e w61 ⟨rfl, hb⟩
                have HE1 := Lib.hid hb
                refine ⟨_, rfl, hK _ _ ⟨hb, ?_⟩⟩
                clear hK hb
                try simp only [Act.put, List.setIfInBounds_toArray, List.set_cons_zero, List.set_cons_succ]
                have HPP : Hid (Calls Tryd.prog 20 #[.slice qc 1 (cr - j)] w61 fun e w' => (∃ v, e = .returned v ∧ OwnP w' w61.heap.size 48 v [(s, .slice qx x.length cx, x)]) ∧ Below w61.heap.size w61 w') := Lib.hid (pieces_any [(s, .slice qx x.length cx, x)] qc (cr - j) w61 (show (1 : Nat) ≤ 1000000 by decide) (HCS.out w61 HE1.out) (fun p hp => by rw [List.mem_singleton.1 hp]; exact HBS.out.keep HE1.out))
                refine org_step (by kernel_rfl) (fun K hK => wp_callF 20 (.tmp 167) _ rfl _ rfl (by kernel_rfl) HPP.out ?_)
                rintro e w62 ⟨⟨v62, rfl, h1⟩, hb⟩
                obtain ⟨q62, c62, rfl, _, _, hs62⟩ := h1.pc
                obtain ⟨a62, rfl, _, hc62⟩ := Sees.pc hs62 (i := 0) (by simp)
                simp only [List.getElem_cons_zero] at hc62
                have HE2 := Lib.hid (HE1.out.trans (Below.mono hb HE1.out.size))
                have HC62 : Hid (∀ w', Ext w62 w' → ∀ k y, (encP (s, .slice qx x.length cx, x))[k]? = some y → w'.cell? (a62.add k) = some y) := Lib.hid (fun w' h k y hy => by have := hc62 w' h k y hy; rw [add_add, Nat.zero_mul, Nat.zero_add] at this; exact this)
                refine ⟨_, rfl, hK _ _ ⟨hb, ?_⟩⟩
                clear hK hb hs62 hc62 h1
                try simp only [Act.put, List.setIfInBounds_toArray, List.set_cons_zero, List.set_cons_succ]
                refine org_pure (v := ?_) (by kernel_rfl) ?_ ?_
                rotate_left
                · intro w' hv; clear hv; go_simp; try with_reducible rfl
                try simp only [Act.put, List.setIfInBounds_toArray, List.set_cons_zero, List.set_cons_succ]
                refine org_pure (by kernel_rfl) (fun w' hv => load_pc 40 48 elRpc (.tmp 169) rfl a62 rfl (s, .slice qx x.length cx, x) (HC62.out _ hv)) ?_
                try simp only [Act.put, List.setIfInBounds_toArray, List.set_cons_zero, List.set_cons_succ]
                have HGR := Lib.hid (rgoodp_any (s, .slice qx x.length cx, x) w62 (HBS.out.keep HE2.out) (by have h5 := HX5.out; show x.length < 1000000000000; omega) (HLW.out.keep HE2.out (Nat.lt_of_lt_of_le HSZ.out HBZW.out.size)))
                refine org_step (by kernel_rfl) (fun K hK => wp_callF 19 (.tmp 170) _ rfl _ rfl (by kernel_rfl) HGR.out ?_)
                rintro e w63 ⟨rfl, hb⟩
                have HE3 := Lib.hid (HE2.out.trans (Below.mono hb HE2.out.size))
                refine ⟨_, rfl, hK _ _ ⟨hb, ?_⟩⟩
                clear hK hb
                try simp only [Act.put, List.setIfInBounds_toArray, List.set_cons_zero, List.set_cons_succ]
                generalize goodPc (s, .slice qx x.length cx, x) = gd
                refine org_pure (v := ?_) (by kernel_rfl) ?_ ?_
                rotate_left
                · intro w' hv; clear hv; go_simp; try with_reducible rfl
                try simp only [Act.put, List.setIfInBounds_toArray, List.set_cons_zero, List.set_cons_succ]
                refine org_pure (v := ?_) (by kernel_rfl) ?_ ?_
                rotate_left
                · intro w' hv; clear hv; go_simp; try with_reducible rfl
                try simp only [Act.put, List.setIfInBounds_toArray, List.set_cons_zero, List.set_cons_succ]
                refine org_nil ?_
                have HN3 := Lib.hid (HBZ.out.trans (HE3.out.mono HBZ.out.size))
                have kgd : (gd != gd) = false := by cases gd <;> rfl
                go_wp2_with fail
                go_roundw
                case rel =>
                  refine ⟨j + 1, by omega, by go_num, fun p hp => ?_, HN3.out⟩
                  rcases (HTK.out p).1 hp with h | h
                  · exact HSM.out p h
                  · rw [h]; exact HX5.out
                case measure => simp [intOf]; omega
            · have hjl : j = R.length := by omega
              subst hjl
              have kk : ¬ ((R.length : Int) < (R.length : Int)) := by omega
              have hsm := HSM.out
              rw [List.take_length] at hsm
              have HXH : Hid (∀ p ∈ H, p.2.2.length ≤ 1000000) := Lib.hid (fun p hp => by
                rcases HMEM.out p hp with h | h
                · exact Nat.le_trans (HLL.out p h) (by decide)
                · exact Nat.le_trans (hsm p h) (by decide))
              clear hlt hsm HSM
              have HB9 := Lib.hid HBZW.out
              have HSN : Hid (Sees wz wz.heap.size q13 (rowU (W.map (nameOf H)))) := Lib.hid ((HS13.out.keep HBZ.out).more HBZ.out.size)
              have HSH : Hid (Sees wz wz.heap.size q7 (rowP H)) := Lib.hid ((HS7'.out.keep HBZ.out).more HBZ.out.size)
              have HPH := Lib.hid (HPB7'.out.keep HBZ.out)
              have HLN : Hid ((W.map (nameOf H)).length = W.length) := Lib.hid (List.length_map _)
              generalize W.map (nameOf H) = N at *
              have hlen := HLN.out
              rw [← hlen]
              rw [← hlen] at h4
              clear hlen
              have hnN : N.length ≤ 1000000 := by omega
              have hmH : H.length ≤ 1000000 := Nat.le_trans HLH.out (by decide)
              have HJN : Hid (∀ w1, Below wz.heap.size wz w1 → Calls Tryd.prog 10 #[.slice q13 N.length c13, .slice q7 H.length c7] w1 fun e w' => (∃ v, e = .returned (.tuple #[v, .int .i64 ((joinA H N []).2 : Nat)]) ∧ Bs w' v (joinA H N []).1) ∧ Below w1.heap.size w1 w') := Lib.hid (fun w1 h => join_any N H q13 q7 c13 c7 w1 hnN hmH ((HSN.out.keep h).more h.size) ((HSH.out.keep h).more h.size) (HPH.out.keep h) HXH.out (HL.out.keep (HB9.out.trans (h.mono HB9.out.size)) HSZ.out))
              have HLNM : Hid (∀ w1, Below wz.heap.size wz w1 → Calls Tryd.prog 22 #[.slice q13 N.length c13] w1 fun e w' => (∃ v, e = .returned v ∧ OwnU w' w1.heap.size 46 v N) ∧ Below w1.heap.size w1 w') := Lib.hid (fun w1 h => lnames_any N q13 c13 w1 hnN ((HSN.out.keep h).more h.size))
              have HLPC : Hid (∀ w1, Below wz.heap.size wz w1 → Calls Tryd.prog 20 #[.slice q7 H.length c7] w1 fun e w' => (∃ v, e = .returned v ∧ OwnP w' w1.heap.size 48 v H) ∧ Below w1.heap.size w1 w') := Lib.hid (fun w1 h => pieces_any H q7 c7 w1 hmH ((HSH.out.keep h).more h.size) (HPH.out.keep h))
              have HRJN : Hid (∀ w1 qn ql cn cl, Below wz.heap.size wz w1 → Sees w1 w1.heap.size qn (rowU N) → Sees w1 w1.heap.size ql (rowP H) → Calls Tryd.prog 21 #[.slice qn N.length cn, .slice ql H.length cl] w1 fun e w' => (∃ v, e = .returned (.tuple #[v, .int .i64 ((joinA H N []).2 : Nat)]) ∧ Bs w' v (joinA H N []).1) ∧ Below w1.heap.size w1 w') := Lib.hid (fun w1 qn ql cn cl h h1 h2 => rjoin_any N H qn ql cn cl w1 hnN hmH h1 h2 (HPH.out.keep h) HXH.out (HL.out.keep (HB9.out.trans (h.mono HB9.out.size)) HSZ.out))
              obtain ⟨J1, hJ1⟩ : ∃ y, y = (joinA H N []).1 := ⟨_, rfl⟩
              obtain ⟨J2, hJ2⟩ : ∃ y, y = (joinA H N []).2 := ⟨_, rfl⟩
              rw [← hJ1, ← hJ2] at HJN HRJN
              clear hJ1 hJ2 h4
              go_upto_region 28 with ((with_reducible refine (HJN.out _ (Below.refl _ _)).mono ?_); rintro e wa ⟨⟨va, rfl, hba⟩, hB⟩; have HBA := Lib.hid hB; have HVA := Lib.hid hba; clear hB hba)
              go_upto_region 29 with (first
                | ((with_reducible refine (HLNM.out _ HBA.out).mono ?_); rintro e wb ⟨⟨vb, rfl, h1⟩, h2⟩; obtain ⟨qb1, cb1, rfl, _, _, hsb1⟩ := h1.us; have HBB := Lib.hid (HBA.out.trans (h2.mono HBA.out.size)); have HSB1 := Lib.hid hsb1; have HVB := Lib.hid (HVA.out.keep h2); clear h1 h2 hsb1)
                | ((with_reducible refine (HLPC.out _ HBB.out).mono ?_); rintro e wc ⟨⟨vc, rfl, h1⟩, h2⟩; obtain ⟨qc1, cc1, rfl, _, _, hsc1⟩ := h1.pc; have HBC := Lib.hid (HBB.out.trans (h2.mono HBB.out.size)); have HSC1 := Lib.hid hsc1; have HSB2 := Lib.hid ((HSB1.out.keep h2).more h2.size); have HVC := Lib.hid (HVB.out.keep h2); clear h1 h2 hsc1)
                | ((with_reducible refine (HRJN.out _ qb1 qc1 cb1 cc1 HBC.out HSB2.out HSC1.out).mono ?_); rintro e wd ⟨⟨vd, rfl, h1⟩, h2⟩; have HBD := Lib.hid (HBC.out.trans (h2.mono HBC.out.size)); have HVD := Lib.hid (HVC.out.keep h2); have HUD := Lib.hid h1; clear h1 h2))
              clear HJN HLNM HLPC HRJN
              obtain ⟨qe, ce, rfl, _, _, hse⟩ := HVD.out
              obtain ⟨qf, cf, rfl, _, _, hsf⟩ := HUD.out
              have c1 := str_run J1 qe ce wd.heap.size wd hse
              have c2 := str_run J1 qf cf wd.heap.size wd hsf
              have HBDW := Lib.hid (HB9.out.trans (HBD.out.mono HB9.out.size))
              clear hse hsf
              have HLIT : Hid (Ps (wd.alloc (.cells #[.slice qa a.length ca, .slice qb b.length cb] 26)) (.slice (some ⟨wd.heap.size, 0, none⟩) [a, b].length 2) [a, b]) := Lib.hid (by
                have hbx : Below wd.heap.size wd (wd.alloc (.cells #[.slice qa a.length ca, .slice qb b.length cb] 26)) := (Below.refl _ _).alloc (Nat.le_refl _) _
                have hbw := HBDW.out.trans (hbx.mono HBDW.out.size)
                refine ⟨some ⟨wd.heap.size, 0, none⟩, 2, [.slice qa a.length ca, .slice qb b.length cb], rfl, Sees.of_has (Has.made' wd 26 _ _ rfl) (by simp), rfl, fun i u x hu hx => ?_⟩
                match i, hu, hx with
                | 0, hu, hx => cases hu; cases hx; exact ⟨qa, ca, rfl, hca, hqa, (HSA.out.keep hbw).more hbw.size⟩
                | 1, hu, hx => cases hu; cases hx; exact ⟨qb, cb, rfl, hcb, hqb, (HSB.out.keep hbw).more hbw.size⟩)
              have HBL : Hid (Below w.heap.size w (wd.alloc (.cells #[.slice qa a.length ca, .slice qb b.length cb] 26))) := Lib.hid (HBDW.out.alloc HBDW.out.size _)
              have HNM2 : Hid (namesA [a, b] = namesU a ++ namesU b) := Lib.hid (by simp [namesA])
              obtain ⟨N2, hN2⟩ : ∃ y, y = namesU a ++ namesU b := ⟨_, rfl⟩
              have HN2 := Lib.hid hN2
              have HALL : Hid (Calls Tryd.prog 13 #[.slice (some ⟨wd.heap.size, 0, none⟩) 2 2] (wd.alloc (.cells #[.slice qa a.length ca, .slice qb b.length cb] 26)) fun e w' => (∃ v, e = .returned v ∧ OwnU w' (wd.alloc (.cells #[.slice qa a.length ca, .slice qb b.length cb] 26)).heap.size 24 v (srt N2)) ∧ Below (wd.alloc (.cells #[.slice qa a.length ca, .slice qb b.length cb] 26)).heap.size (wd.alloc (.cells #[.slice qa a.length ca, .slice qb b.length cb] 26)) w') := Lib.hid (by
                have h := all_any [a, b] (some ⟨wd.heap.size, 0, none⟩) 2 _ HLIT.out (show (2 : Nat) ≤ 100 by decide) (fun x hx => by
                  rcases List.mem_cons.1 hx with rfl | hx
                  · omega
                  · rw [List.mem_singleton.1 hx]; omega) (HL.out.keep HBL.out HSZ.out)
                rw [HNM2.out, ← hN2] at h
                exact h)
              have HLAB : Hid (N2.length ≤ 100000) := Lib.hid (by rw [hN2, List.length_append]; have h1 := HLA.out; have h2 := HLB.out; omega)
              have HLSR : Hid ((srt N2).length ≤ 1000000) := Lib.hid (Nat.le_trans (len_srt_le _) (Nat.le_trans HLAB.out (by decide)))
              have HSRT : Hid (∃ S, S = srt N2) := Lib.hid ⟨_, rfl⟩
              obtain ⟨S2, hS2⟩ := HSRT.out
              rw [← hS2] at HALL HLSR
              have HS2x := Lib.hid hS2
              clear hN2 hS2 HSRT
              have HLAP : Hid ((namesU a).length + (namesU b).length ≤ 4000000) := Lib.hid (by have h1 := HLA.out; have h2 := HLB.out; omega)
              clear HNM2 HLIT
              go_wp2_with (first
                | ((with_reducible refine HALL.out.mono ?_); rintro e we ⟨⟨ve, rfl, h1⟩, h2⟩; obtain ⟨qg, cg, rfl, _, _, hsg⟩ := h1.us; have HBE := Lib.hid (HBL.out.trans (h2.mono HBL.out.size)); have HSG := Lib.hid hsg; clear h1 h2 hsg)
                | ((with_reducible refine (HRA.out _ HBE.out).mono ?_); rintro e wf ⟨⟨vf, rfl, h1⟩, h2⟩; have HBF := Lib.hid (HBE.out.trans (h2.mono HBE.out.size)); have HOF := Lib.hid h1; have HEF := Lib.hid h2; have HSG2 := Lib.hid ((HSG.out.keep h2).more h2.size); clear h1 h2)
                | ((with_reducible refine (HRBN.out _ HBF.out).mono ?_); rintro e wg ⟨⟨vg, rfl, h1⟩, h2⟩; obtain ⟨qh, chh, rfl, _, hqh, hsh⟩ := h1.us; have HBG := Lib.hid (HBF.out.trans (h2.mono HBF.out.size)); have HOG := Lib.hid (HOF.out.keep h2); have HEG := Lib.hid (HEF.out.trans (h2.mono HEF.out.size)); have HSHH := Lib.hid hsh; have HQH := Lib.hid hqh; have HSG3 := Lib.hid ((HSG2.out.keep h2).more h2.size); clear h1 h2 hsh hqh)
                | (refine wpList_append_suOn (by kernel_rfl) 44 46 elRefs (.tmp 211) (.tmp 213) rfl we.heap.size _ (namesU a) rfl HOG.out qh (namesU b) (namesU b).length chh wg.heap.size rfl rfl HQH.out HSHH.out HLAP.out HEG.out.size ?_; intro vk wk h1 h2; rw [← HN2.out] at h1; obtain ⟨qk, ck, rfl, _, _, hsk⟩ := h1.us; have HEK := Lib.hid (HEG.out.trans h2); have HBK2 := Lib.hid (HBE.out.trans (HEK.out.mono HBE.out.size)); have HSK := Lib.hid hsk; have HSG4 := Lib.hid ((HSG.out.keep HEK.out).more HEK.out.size); clear h1 h2 hsk)
                | ((with_reducible refine (rof0_any N2 qk ck HLAB.out wk HSK.out).mono ?_); rintro e wl ⟨⟨vl, rfl, h9⟩, h2⟩; rw [← HS2x.out] at h9; obtain ⟨ql2, cl2, rfl, _, _, hsl⟩ := h9; have HBL2 := Lib.hid (HBK2.out.trans (h2.mono HBK2.out.size)); have HSL := Lib.hid hsl; have HSG5 := Lib.hid ((HSG4.out.keep h2).more h2.size); clear h2 hsl)
                | ((with_reducible refine (HSM2.out S2 qg ql2 cg cl2 wl HLSR.out HSG5.out HSL.out).mono ?_); rintro e wm ⟨rfl, h2⟩; have HBM := Lib.hid (HBL2.out.trans (h2.mono HBL2.out.size)); clear h2))
              go_ret
              exact ⟨rfl, HBM.out⟩
end Go.Proofs.YthpledfjopbchaaDoor
namespace Go.Proofs.YthpledfjopbchaaDoor
open Go.ChangeShapes Go.WideShapes Go.ChangeAt Go.RowKit
set_option maxRecDepth 100000 in
theorem chunkSays_lifted (os : Os) (started : os.Started) (H : Type) (enc : TypeId × Value → H) :
    ReturnsInHanded {} Tryd.checked os 4 .any (fun w args => (Rows.chunkSaysSpec.pre enc Tryd.prog Tryd.f4 [] false w args ∧ laidMetH Tryd.prog laidVars w) ∧ sizedMet enc Tryd.prog Tryd.f4 (OpenSpec.ofChange Rows.chunkSaysSpec) false w args)
      (Rows.chunkSaysSpec.post enc Tryd.prog Tryd.f4 false true false false) := by
  refine returnsInHanded_of_change_and (C := Tryd.checked) (X := fun w _ => laidMetH Tryd.prog laidVars w) (fun _ _ _ hh h => h.of_heap hh) own started (by kernel_rfl) Tryd.func4
    (ChangeSpec.witness_shaped (enc := enc) (C := Tryd.checked) (os := os) (X := fun w _ => laidMetH Tryd.prog laidVars w) false (World.doorLaid Tryd.prog 400 os) #[.slice none 0 0, .slice none 0 0, .slice none 0 0, .slice none 0 0] 8 rfl (World.shaped_of_RefB (by kernel_rfl) (by kernel_rfl)) (by kernel_rfl) (by kernel_rfl) (by kernel_rfl) (door_met os _)) ?_
  intro W base args ds gs before hval0 hW _ _ hL _
  have hval : ∀ (j : Nat) t v, Tryd.f4.params[j]? = some t → args[j]? = some v → Value.okWide Tryd.prog W .any base t v := hval0
  have hW' := hW
  obtain ⟨p, q, hA0, hV, rfl, hfz, hnd⟩ := hW
  have hA : DataW.TrodAll enc Tryd.prog W 0 (fun _ => true) true Tryd.f4.params.toList args.toList ds p := hA0
  rw [Tryd.params4] at hA hval
  obtain ⟨v0, vs0, d0, ds0, p0, g0, hargs, rfl, rfl, h0, r0⟩ := trodAll_cons hA
  obtain ⟨v1, vs1, d1, ds1, p1, g1, rfl, rfl, rfl, h1, r1⟩ := trodAll_cons r0
  obtain ⟨v2, vs2, d2, ds2, p2, g2, rfl, rfl, rfl, h2, r2⟩ := trodAll_cons r1
  obtain ⟨v3, vs3, d3, ds3, p3, g3, rfl, rfl, rfl, h3, r3⟩ := trodAll_cons r2
  obtain ⟨rfl, rfl, rfl⟩ := trodAll_nil r3
  obtain rfl : args = #[v0, v1, v2, v3] := by cases args; simp_all
  obtain ⟨rfl, rfl⟩ := trodVars_none hV
  have k0 := h0
  have lt0 : ∀ x ∈ p0, x.block < W.heap.size := by obtain ⟨m, hm⟩ := k0; exact DataW.trod_lt m _ _ _ hm
  obtain ⟨b0, q0, c0, rfl, hc0, hq0, hm0, hs0⟩ := open_bytes (hval 0 26 v0 rfl rfl) h0
  have k1 := h1
  have lt1 : ∀ x ∈ p1, x.block < W.heap.size := by obtain ⟨m, hm⟩ := k1; exact DataW.trod_lt m _ _ _ hm
  obtain ⟨b1, q1, c1, rfl, hc1, hq1, hm1, hs1⟩ := open_bytes (hval 1 26 v1 rfl rfl) h1
  have k2 := h2
  have lt2 : ∀ x ∈ p2, x.block < W.heap.size := by obtain ⟨m, hm⟩ := k2; exact DataW.trod_lt m _ _ _ hm
  obtain ⟨l2, q2, c2, rfl, hc2, hq2, hm2, hs2⟩ := open_nums (hval 2 39 v2 rfl rfl) h2
  have k3 := h3
  have lt3 : ∀ x ∈ p3, x.block < W.heap.size := by obtain ⟨m, hm⟩ := k3; exact DataW.trod_lt m _ _ _ hm
  obtain ⟨l3, q3, c3, rfl, hc3, hq3, hm3, hs3⟩ := open_pcs (hval 3 33 v3 rfl rfl) h3
  clear hA0 hval0
  refine (chunkSays_any b0 b1 l2 l3 q0 q1 q2 q3 c0 c1 c2 c3 W hc0 hc1 hc3 hq0 hq1 hq3 (by unfold maxLen at hm0; omega) (by unfold maxLen at hm1; omega) (by have := hm2.1; unfold maxLen at this; omega) (by have := hm3.1; unfold maxLen at this; omega) (fun p hp => by have := hm3.2 p hp; unfold maxLen at this; omega) hm2.2 hs0 hs1 hs2 hs3.1 hs3.2 (of_laid hL)).mono fun e W' ⟨he, bel⟩ => ?_
  subst he
  exact ⟨_, rfl, _, _, _, [], _, [], hW', trodAll_mk1 (shut_bool Tryd.underlying4 _), (trodAll_cons_mk (Below.trod laidOut (by kernel_rfl) (of_decide_eq_true (by kernel_rfl)) k0 bel lt0) (trodAll_cons_mk (Below.trod laidOut (by kernel_rfl) (of_decide_eq_true (by kernel_rfl)) k1 bel lt1) (trodAll_cons_mk (Below.trod laidOut (by kernel_rfl) (of_decide_eq_true (by kernel_rfl)) k2 bel lt2) (trodAll_cons_mk (Below.trod laidOut (by kernel_rfl) (of_decide_eq_true (by kernel_rfl)) k3 bel lt3) trodAll_mk0)))), rfl, bel.frame _, fun h => by cases h⟩
theorem chunkSays_row : Rows.ChunkSaysSaid :=
  OpenClaim.holds_of_wide 4 Tryd.f4 rfl rfl rfl rfl rfl rfl rfl ⟨rfl, rfl, rfl, rfl, rfl⟩ rfl rfl rfl rfl rfl (by kernel_rfl) Tryd.func4 (by kernel_rfl)
    (of_decide_eq_true (by kernel_rfl)) (by unfold Func.isWrapper; first | (rw [if_pos (by decide +kernel)]; kernel_rfl) | (rw [if_neg (by decide +kernel)]; exact ⟨rfl, rfl⟩))
    (fun os started H enc _ => chunkSays_lifted os started H enc)
theorem chunkSays_holds : Rows.ChunkSaysCardSaid :=
  Claim7.holds_tied_plain_at .later [] [.data, .data] true Rows.chunkSaysCard.stood.harness Rows.chunkSaysCard.stood.looks
    chunkSays_row (fun _ h => by cases h) (by kernel_rfl) (fun _ h => by cases h) chunkSays_row_tie rfl ⟨rfl, rfl⟩ (by kernel_rfl) rfl
    (fun f fn hf hfn => by
      obtain rfl : f = 4 := Option.some.inj ((show Tryd.prog.funcNamed "tallyman/tallymanlaw11.ChunkSays" = some 4 by kernel_rfl).symm.trans hf) |>.symm
      obtain rfl : fn = Tryd.f4 := (Option.some.inj (Tryd.func4.symm.trans hfn)).symm
      exact ⟨by kernel_rfl, fun j t ht => by
        rw [Tryd.params4] at ht
        have hm : t ∈ [26, 26, 39, 33] := by simpa using Array.mem_of_getElem? ht
        have hall : ([26, 26, 39, 33].all fun u => !Tryd.prog.wantsStandIn u) = true := by kernel_rfl
        exact (show Tryd.prog.wantsStandIn t = false by simpa using List.all_eq_true.1 hall t hm)⟩)
    (by kernel_rfl)
#print axioms chunkSays_holds
end Go.Proofs.YthpledfjopbchaaDoor
