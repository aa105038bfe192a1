/- The law CutSays returns true: where pieces end is as the document's own reckoning says. Condition: the bytes as they came in. -/
import Derived.Test.YtkfelfcmpabjoaaAwake
import Derived.Test.YtkfelfcmpabjoaaOpenR
import Derived.Test.YtkfelfcmpabjoaaRends
import Derived.Test.YtkfelfcmpabjoaaInts
import Derived.Test.YtkfelfcmpabjoaaCuto
namespace Go.Proofs.Ytkfelfcmpabjoaa
open Go.RowKit
set_option maxHeartbeats 1000000 in
set_option maxRecDepth 100000 in
theorem csays_long (m x d k t : Int) (b : List (BitVec 8)) (h : 400 < b.length) (q : Option Addr) (c : Nat) (w : World) :
    Calls Try.prog 4 #[ruleV m x d k t, .slice q b.length c] w fun e w' => e = .returned (.bool true) ∧ Below w.heap.size w w' := by
  have k0 : (400 : Int) < (b.length : Int) := by omega
  have HA := Lib.hid (fun v => awake_any v)
  have HB1 := Lib.hid ((Below.refl w.heap.size w).alloc (Nat.le_refl _) (.cells (ruleL m x d k t).toArray 25))
  unfold ruleV ruleL
  unfold ruleL at HB1
  clear h
  go_enter Try.func4, Try.ntmps4
  go_wp2_with fail
  refine (HA.out _).mono ?_
  rintro e w1 ⟨rfl, hb⟩
  have HB := Lib.hid (HB1.out.trans (hb.mono HB1.out.size))
  clear hb
  go_wp2_with fail
  go_ret
  exact ⟨rfl, HB.out⟩
theorem pieces_some {w : World} {vs : List Value} {b : List (BitVec 8)} {L : List Nat} (h : ∀ (i : Nat) (u : Value) (x : List (BitVec 8)), vs[i]? = some u → (pieces b L)[i]? = some x → Bs w u x) (i : Nat) (u : Value) (hu : vs[i]? = some u) (hi : i < L.length) : Bs w u (piece b L i) :=
  h i u _ hu (by unfold pieces; rw [List.getElem?_map, List.getElem?_range hi]; rfl)
set_option maxHeartbeats 4000000 in
set_option maxRecDepth 100000 in
theorem csays_core (m x d k t : Int) (b : List (BitVec 8)) (hl : b.length ≤ 400) (q : Option Addr) (c : Nat) (w : World) (hc : b.length ≤ c) (hs : Sees w w.heap.size q (b.map u8v)) (ok : Bool) (L : List Nat) (N : Nat)
    (hL : L.length ≤ 400) (hLT : ∀ i, i < L.length → before L i < L.getD i 0 ∧ L.getD i 0 ≤ b.length)
    (h1 : ∀ v, Calls Try.prog 10 #[ruleV m x d k t] v fun e w' => e = .returned (.bool ok) ∧ Below v.heap.size v w')
    (h2 : ∀ v, Calls Try.prog 17 #[ruleV m x d k t] v fun e w' => e = .returned (.bool ok) ∧ Below v.heap.size v w')
    (h3 : ∀ v, Below w.heap.size w v → Calls Try.prog 11 #[ruleV m x d k t, .slice q b.length c] v fun e w' => ∃ u, e = .returned u ∧ Ns w' u L ∧ Below v.heap.size v w')
    (h4 : ∀ v, Below w.heap.size w v → Calls Try.prog 16 #[ruleV m x d k t, .slice q b.length c] v fun e w' => ∃ u, e = .returned u ∧ Ns w' u L ∧ Below v.heap.size v w')
    (h5 : ∀ v, Below w.heap.size w v → Calls Try.prog 12 #[ruleV m x d k t, .slice q b.length c] v fun e w' => ∃ u, e = .returned u ∧ Ps w' u (pieces b L) ∧ Below v.heap.size v w')
    (h6 : ∀ v, Below w.heap.size w v → Calls Try.prog 13 #[ruleV m x d k t, .slice q b.length c] v fun e w' => e = .returned (.int .i64 (N : Int)) ∧ Below v.heap.size v w')
    (h7 : ∀ v, Below w.heap.size w v → Calls Try.prog 18 #[ruleV m x d k t, .slice q b.length c] v fun e w' => e = .returned (.int .i64 (N : Int)) ∧ Below v.heap.size v w') :
    Calls Try.prog 4 #[ruleV m x d k t, .slice q b.length c] w fun e w' => e = .returned (.bool true) ∧ Below w.heap.size w w' := by
  have k0 : ¬ (400 : Int) < (b.length : Int) := by omega
  have H1 := Lib.hid h1
  have H2 := Lib.hid h2
  have H3 := Lib.hid h3
  have H4 := Lib.hid h4
  have H5 := Lib.hid h5
  have H6 := Lib.hid h6
  have H7 := Lib.hid h7
  have HLT := Lib.hid hLT
  have HO := Lib.hid (fun v => own_any m x d k t v)
  have HA := Lib.hid (fun v => awake_any v)
  have HI := Lib.hid (fun q p c d v hs ht => ints_same L (by omega) q p c d v hs ht)
  have HPL := Lib.hid (pieces_length b L)
  have HS := Lib.hid hs
  have HC := Lib.hid hc
  have HR1 := Lib.hid (Has.made' w 25 _ (ruleL m x d k t) rfl)
  have HB1 := Lib.hid ((Below.refl w.heap.size w).alloc (Nat.le_refl _) (.cells (ruleL m x d k t).toArray 25))
  have HZ : Hid ((w.alloc (.cells (ruleL m x d k t).toArray 25)).heap.size = w.heap.size + 1) := Lib.hid (by simp)
  clear h1 h2 h3 h4 h5 h6 h7 hLT hs hc
  unfold ruleV at H1 H2 H3 H4 H5 H6 H7 HO ⊢
  unfold ruleL at H1 H2 H3 H4 H5 H6 H7 HO HR1 HB1 HZ ⊢
  go_enter Try.func4, Try.ntmps4
  go_wp2_with fail
  refine (HA.out _).mono ?_
  rintro e w2 ⟨rfl, hb⟩
  have HB := Lib.hid (HB1.out.trans (hb.mono HB1.out.size))
  have HR := Lib.hid (HR1.out.keep hb (by have := HZ.out; omega))
  clear hb HB1 HR1 HZ HA
  have c0 := HR.out.cellv (i := 0) rfl
  have c1 := HR.out.cellv (i := 1) rfl
  have c2 := HR.out.cellv (i := 2) rfl
  have c3 := HR.out.cellv (i := 3) rfl
  have c4 := HR.out.cellv (i := 4) rfl
  go_wp2_with fail
  refine (HO.out w2).mono ?_
  rintro e w3 ⟨rfl, hb⟩
  replace HB := Lib.hid (HB.out.trans (hb.mono HB.out.size))
  replace HR := Lib.hid (HR.out.keep hb HR.out.lt)
  clear hb HO c0 c1 c2 c3 c4
  go_wp2_with fail
  have hx := (Below.refl w3.heap.size w3).alloc (Nat.le_refl _) (.cells #[.int .i64 m, .int .i64 x, .int .i64 d, .int .u64 k, .int .u64 t] 35)
  have HQ2 := Lib.hid (Has.made' w3 35 _ [.int .i64 m, .int .i64 x, .int .i64 d, .int .u64 k, .int .u64 t] rfl)
  replace HB := Lib.hid (HB.out.trans (hx.mono HB.out.size))
  replace HR := Lib.hid (HR.out.keep hx HR.out.lt)
  clear hx
  generalize w3.heap.size = g2 at *
  generalize w3.alloc (.cells #[.int .i64 m, .int .i64 x, .int .i64 d, .int .u64 k, .int .u64 t] 35) = w4 at *
  refine (H4.out w4 HB.out).mono ?_
  rintro e w5 ⟨u, rfl, ⟨q1, c1, rfl, hs1⟩, hb⟩
  have HS1 := Lib.hid hs1
  replace HB := Lib.hid (HB.out.trans (hb.mono HB.out.size))
  replace HR := Lib.hid (HR.out.keep hb HR.out.lt)
  replace HQ2 := Lib.hid (HQ2.out.keep hb HQ2.out.lt)
  clear hb H4 hs1
  have c0 := HR.out.cellv (i := 0) rfl
  have c1 := HR.out.cellv (i := 1) rfl
  have c2 := HR.out.cellv (i := 2) rfl
  have c3 := HR.out.cellv (i := 3) rfl
  have c4 := HR.out.cellv (i := 4) rfl
  go_wp2_with fail
  refine (H5.out w5 HB.out).mono ?_
  rintro e w6 ⟨u, rfl, ⟨qp, cp, vs, rfl, hsp, hvl, hv⟩, hb⟩
  have hpl := HPL.out
  have HSP := Lib.hid hsp
  have HVL := Lib.hid hvl
  have HV := Lib.hid hv
  replace HS1 := Lib.hid ((HS1.out.keep hb).more hb.size)
  replace HB := Lib.hid (HB.out.trans (hb.mono HB.out.size))
  replace HR := Lib.hid (HR.out.keep hb HR.out.lt)
  replace HQ2 := Lib.hid (HQ2.out.keep hb HQ2.out.lt)
  clear hb H5 hsp hvl hv c0 c1 c2 c3 c4
  go_wp2_with fail
  try simp only [List.append_eq, List.cons_append, List.nil_append]
  refine wp_region_org [(0, true), (2, true), (1, false), (3, false), (4, true), (5, true), (6, true), (7, true), (9, true), (8, false), (10, false), (11, true), (12, true), (13, true), (14, true), (15, true), (17, true), (18, true), (16, false), (19, false), (20, true), (21, true), (22, true), (23, true), (24, true), (25, true), (26, true), (27, true), (28, true)] (by kernel_rfl) (by kernel_rfl) (by kernel_rfl) ?_
  replace HB := Lib.hid HB.out.drew
  replace HR := Lib.hid HR.out.drew
  replace HQ2 := Lib.hid HQ2.out.drew
  have E6 := Lib.hid ((Below.refl w6.heap.size w6).drew)
  generalize w6.drew = v0 at *
  simp only [pickOrs, List.getElem?_cons_zero, List.getElem?_cons_succ]
  refine org_pure (by kernel_rfl) (fun w' hv => load_at 25 (.tmp 2) rfl w.heap.size rfl 25 _ w' (HR.out.keep hv HR.out.lt) _ Try.underlying25 rfl (by kernel_rfl)) ?_
  try simp only [Act.put, List.setIfInBounds_toArray, List.set_cons_zero, List.set_cons_succ]
  refine org_pure (by kernel_rfl) (fun w' hv => load_at 35 (.tmp 5) rfl g2 rfl 35 _ w' (HQ2.out.keep hv HQ2.out.lt) _ Try.underlying35 rfl (by kernel_rfl)) ?_
  try simp only [Act.put, List.setIfInBounds_toArray, List.set_cons_zero, List.set_cons_succ]
  refine org_step (by kernel_rfl) (fun K hK => ?_)
  go_wp2_with fail
  refine (H1.out v0).mono ?_
  rintro e v1 ⟨rfl, hb⟩
  have HX0 : Hid (Ext v0 v1) := Lib.hid hb
  replace HB := Lib.hid (HB.out.trans (hb.mono HB.out.size))
  replace HR := Lib.hid (HR.out.keep hb HR.out.lt)
  replace HQ2 := Lib.hid (HQ2.out.keep hb HQ2.out.lt)
  replace E6 := Lib.hid (E6.out.trans (hb.mono E6.out.size))
  clear hb
  go_wp2_with fail
  refine ⟨HX0.out, ?_⟩
  try simp only [Act.put, List.setIfInBounds_toArray, List.set_cons_zero, List.set_cons_succ]
  refine org_step (by kernel_rfl) (fun K hK => ?_)
  go_wp2_with fail
  refine (H2.out v1).mono ?_
  rintro e v2 ⟨rfl, hb⟩
  have HX1 : Hid (Ext v1 v2) := Lib.hid hb
  replace HB := Lib.hid (HB.out.trans (hb.mono HB.out.size))
  replace HR := Lib.hid (HR.out.keep hb HR.out.lt)
  replace HQ2 := Lib.hid (HQ2.out.keep hb HQ2.out.lt)
  replace E6 := Lib.hid (E6.out.trans (hb.mono E6.out.size))
  clear hb
  go_wp2_with fail
  refine ⟨HX1.out, ?_⟩
  try simp only [Act.put, List.setIfInBounds_toArray, List.set_cons_zero, List.set_cons_succ]
  refine org_pure (v := ?_) (by kernel_rfl) ?_ ?_
  rotate_left
  · intro w' hv; clear hv; go_simp; try with_reducible rfl
  try simp only [Act.put, List.setIfInBounds_toArray, List.set_cons_zero, List.set_cons_succ]
  refine org_pure (v := ?_) (by kernel_rfl) ?_ ?_
  rotate_left
  · intro w' hv; clear hv; go_simp; try with_reducible rfl
  try simp only [Act.put, List.setIfInBounds_toArray, List.set_cons_zero, List.set_cons_succ]
  refine org_pure (by kernel_rfl) (fun w' hv => load_at 25 (.tmp 2) rfl w.heap.size rfl 25 _ w' (HR.out.keep hv HR.out.lt) _ Try.underlying25 rfl (by kernel_rfl)) ?_
  try simp only [Act.put, List.setIfInBounds_toArray, List.set_cons_zero, List.set_cons_succ]
  refine org_pure (v := ?_) (by kernel_rfl) ?_ ?_
  rotate_left
  · intro w' hv; clear hv; go_simp; try with_reducible rfl
  try simp only [Act.put, List.setIfInBounds_toArray, List.set_cons_zero, List.set_cons_succ]
  refine org_pure (v := ?_) (by kernel_rfl) ?_ ?_
  rotate_left
  · intro w' hv; clear hv; go_simp; try with_reducible rfl
  try simp only [Act.put, List.setIfInBounds_toArray, List.set_cons_zero, List.set_cons_succ]
  refine org_step (by kernel_rfl) (fun K hK => ?_)
  go_wp2_with fail
  refine (H3.out v2 HB.out).mono ?_
  rintro e v3 ⟨u, rfl, ⟨q2, c2, rfl, hs2⟩, hb⟩
  have HS2 := Lib.hid hs2
  have HX3 : Hid (Ext v2 v3) := Lib.hid hb
  replace HB := Lib.hid (HB.out.trans (hb.mono HB.out.size))
  replace HR := Lib.hid (HR.out.keep hb HR.out.lt)
  replace HQ2 := Lib.hid (HQ2.out.keep hb HQ2.out.lt)
  replace E6 := Lib.hid (E6.out.trans (hb.mono E6.out.size))
  clear hb hs2
  go_wp2_with fail
  refine ⟨HX3.out, ?_⟩
  try simp only [Act.put, List.setIfInBounds_toArray, List.set_cons_zero, List.set_cons_succ]
  refine org_step (by kernel_rfl) (fun K hK => ?_)
  go_wp2_with fail
  refine (HI.out q2 q1 c2 c1 v3 HS2.out ((HS1.out.keep E6.out).more E6.out.size)).mono ?_
  rintro e v4 ⟨rfl, hb⟩
  have HX3 : Hid (Ext v3 v4) := Lib.hid hb
  replace HB := Lib.hid (HB.out.trans (hb.mono HB.out.size))
  replace HR := Lib.hid (HR.out.keep hb HR.out.lt)
  replace HQ2 := Lib.hid (HQ2.out.keep hb HQ2.out.lt)
  replace E6 := Lib.hid (E6.out.trans (hb.mono E6.out.size))
  clear hb
  go_wp2_with fail
  refine ⟨HX3.out, ?_⟩
  try simp only [Act.put, List.setIfInBounds_toArray, List.set_cons_zero, List.set_cons_succ]
  refine org_pure (v := ?_) (by kernel_rfl) ?_ ?_
  rotate_left
  · intro w' hv; clear hv; go_simp; try with_reducible rfl
  try simp only [Act.put, List.setIfInBounds_toArray, List.set_cons_zero, List.set_cons_succ]
  refine org_pure (v := ?_) (by kernel_rfl) ?_ ?_
  rotate_left
  · intro w' hv; clear hv; go_simp; try with_reducible rfl
  try simp only [Act.put, List.setIfInBounds_toArray, List.set_cons_zero, List.set_cons_succ]
  refine org_pure (v := ?_) (by kernel_rfl) ?_ ?_
  rotate_left
  · intro w' hv; clear hv; go_simp; try with_reducible rfl
  try simp only [Act.put, List.setIfInBounds_toArray, List.set_cons_zero, List.set_cons_succ]
  refine org_pure (by kernel_rfl) (fun w' hv => load_at 25 (.tmp 2) rfl w.heap.size rfl 25 _ w' (HR.out.keep hv HR.out.lt) _ Try.underlying25 rfl (by kernel_rfl)) ?_
  try simp only [Act.put, List.setIfInBounds_toArray, List.set_cons_zero, List.set_cons_succ]
  refine org_pure (v := ?_) (by kernel_rfl) ?_ ?_
  rotate_left
  · intro w' hv; clear hv; go_simp; try with_reducible rfl
  try simp only [Act.put, List.setIfInBounds_toArray, List.set_cons_zero, List.set_cons_succ]
  refine org_pure (by kernel_rfl) (fun w' hv => load_at 35 (.tmp 5) rfl g2 rfl 35 _ w' (HQ2.out.keep hv HQ2.out.lt) _ Try.underlying35 rfl (by kernel_rfl)) ?_
  try simp only [Act.put, List.setIfInBounds_toArray, List.set_cons_zero, List.set_cons_succ]
  refine org_pure (v := ?_) (by kernel_rfl) ?_ ?_
  rotate_left
  · intro w' hv; clear hv; go_simp; try with_reducible rfl
  try simp only [Act.put, List.setIfInBounds_toArray, List.set_cons_zero, List.set_cons_succ]
  refine org_step (by kernel_rfl) (fun K hK => ?_)
  go_wp2_with fail
  refine (H6.out v4 HB.out).mono ?_
  rintro e v5 ⟨rfl, hb⟩
  have HX4 : Hid (Ext v4 v5) := Lib.hid hb
  replace HB := Lib.hid (HB.out.trans (hb.mono HB.out.size))
  replace HR := Lib.hid (HR.out.keep hb HR.out.lt)
  replace HQ2 := Lib.hid (HQ2.out.keep hb HQ2.out.lt)
  replace E6 := Lib.hid (E6.out.trans (hb.mono E6.out.size))
  clear hb
  go_wp2_with fail
  refine ⟨HX4.out, ?_⟩
  try simp only [Act.put, List.setIfInBounds_toArray, List.set_cons_zero, List.set_cons_succ]
  refine org_step (by kernel_rfl) (fun K hK => ?_)
  go_wp2_with fail
  refine (H7.out v5 HB.out).mono ?_
  rintro e v6 ⟨rfl, hb⟩
  have HX5 : Hid (Ext v5 v6) := Lib.hid hb
  replace HB := Lib.hid (HB.out.trans (hb.mono HB.out.size))
  replace HR := Lib.hid (HR.out.keep hb HR.out.lt)
  replace HQ2 := Lib.hid (HQ2.out.keep hb HQ2.out.lt)
  replace E6 := Lib.hid (E6.out.trans (hb.mono E6.out.size))
  clear hb
  go_wp2_with fail
  refine ⟨HX5.out, ?_⟩
  try simp only [Act.put, List.setIfInBounds_toArray, List.set_cons_zero, List.set_cons_succ]
  refine org_pure (v := ?_) (by kernel_rfl) ?_ ?_
  rotate_left
  · intro w' hv; clear hv; go_simp; try with_reducible rfl
  try simp only [Act.put, List.setIfInBounds_toArray, List.set_cons_zero, List.set_cons_succ]
  refine org_pure (v := ?_) (by kernel_rfl) ?_ ?_
  rotate_left
  · intro w' hv; clear hv; go_simp; try with_reducible rfl
  try simp only [Act.put, List.setIfInBounds_toArray, List.set_cons_zero, List.set_cons_succ]
  refine org_pure (v := ?_) (by kernel_rfl) ?_ ?_
  rotate_left
  · intro w' hv; clear hv; go_simp; try with_reducible rfl
  try simp only [Act.put, List.setIfInBounds_toArray, List.set_cons_zero, List.set_cons_succ]
  refine org_pure (v := ?_) (by kernel_rfl) ?_ ?_
  rotate_left
  · intro w' hv; clear hv; go_simp; try with_reducible rfl
  try simp only [Act.put, List.setIfInBounds_toArray, List.set_cons_zero, List.set_cons_succ]
  refine org_pure (v := ?_) (by kernel_rfl) ?_ ?_
  rotate_left
  · intro w' hv; clear hv; go_simp; try with_reducible rfl
  try simp only [Act.put, List.setIfInBounds_toArray, List.set_cons_zero, List.set_cons_succ]
  refine org_pure (v := ?_) (by kernel_rfl) ?_ ?_
  rotate_left
  · intro w' hv; clear hv; go_simp; try with_reducible rfl
  try simp only [Act.put, List.setIfInBounds_toArray, List.set_cons_zero, List.set_cons_succ]
  refine org_pure (v := ?_) (by kernel_rfl) ?_ ?_
  rotate_left
  · intro w' hv; clear hv; go_simp; try with_reducible rfl
  try simp only [Act.put, List.setIfInBounds_toArray, List.set_cons_zero, List.set_cons_succ]
  refine org_pure (v := ?_) (by kernel_rfl) ?_ ?_
  rotate_left
  · intro w' hv; clear hv; go_simp; try with_reducible rfl
  try simp only [Act.put, List.setIfInBounds_toArray, List.set_cons_zero, List.set_cons_succ]
  refine org_pure (v := ?_) (by kernel_rfl) ?_ ?_
  rotate_left
  · intro w' hv; clear hv; go_simp; try with_reducible rfl
  try simp only [Act.put, List.setIfInBounds_toArray, List.set_cons_zero, List.set_cons_succ]
  refine org_nil ?_
  clear HR HQ2 H1 H2 H3 H6 H7 HI HX0 HX1 HX3 HX4 HX5
  have hvl := HVL.out
  rw [HPL.out] at hvl
  have HVL2 := Lib.hid hvl
  clear hvl HVL
  replace HS1 := Lib.hid ((HS1.out.keep E6.out).more E6.out.size)
  replace HSP := Lib.hid ((HSP.out.keep E6.out).more E6.out.size)
  have HVV : Hid (∀ (i : Nat) (u : Value), vs[i]? = some u → i < L.length → Bs v6 u (piece b L i)) := Lib.hid (fun i u hu hi => (pieces_some HV.out i u hu hi).keep E6.out)
  replace HS := Lib.hid (HS.out.keep HB.out)
  clear HV E6
  go_wp2_with fail
  go_loopw [8, 9] (fun va vi wr => ∃ i : Nat, i ≤ L.length ∧ vi = .int .i64 i ∧ va = .int .i64 (before L i : Nat) ∧ Below v6.heap.size v6 wr) (fun _ vi _ => L.length - (intOf vi).toNat)
  case atStart => exact ⟨0, by omega, rfl, rfl, Below.refl _ _⟩
  case round =>
    rename_i wr
    obtain ⟨i, hi, rfl, rfl, hB⟩ := hrel
    have HBB := Lib.hid hB
    clear hB hpl
    by_cases hlt : i < L.length
    · have hvi : i < vs.length := by rw [HVL2.out]; exact hlt
      obtain ⟨ap, rfl, hap, hcp⟩ := HSP.out.get (by omega)
      obtain ⟨aq, rfl, haq, hcq⟩ := HS1.out.get (by rw [List.length_map]; omega)
      obtain ⟨q3, c3, he, _, _, hs3⟩ := HVV.out i vs[i] (List.getElem?_eq_getElem hvi) hlt
      obtain ⟨g1, g2'⟩ := HLT.out i hlt
      have hxl := piece_length b L i g2'
      have hsm : Sees v6 w.heap.size (cutQ q c (before L i)) ((piece b L i).map u8v) := HS.out.mid (f := before L i) (t := L.getD i 0) HC.out
      have hcm := cut_mid q b.length c (before L i) (L.getD i 0) (by omega) (by have := HC.out; omega)
      have HBS := Lib.hid ((before_succ L i hlt).trans (getD_at L i hlt).symm)
      have HCP : Hid (∀ w', Below v6.heap.size v6 w' → w'.cell? (ap.add i) = some (.slice q3 (L.getD i 0 - before L i) c3)) := Lib.hid (fun w' hb => (hb.cell (by rw [add_block]; exact hap)).trans (by rw [hcp i vs[i] (List.getElem?_eq_getElem hvi), he, hxl]))
      have HCQ : Hid (∀ w', Below v6.heap.size v6 w' → w'.cell? (aq.add i) = some (.int .i64 (L.getD i 0 : Nat))) := Lib.hid (fun w' hb => (hb.cell (by rw [add_block]; exact haq)).trans (hcq i (i64n (L.getD i 0)) (by rw [List.getElem?_map, List.getElem?_eq_getElem hlt, getD_at L i hlt]; rfl)))
      have ht1 := fun w' (hb : Below v6.heap.size v6 w') => str_run (piece b L i) q3 c3 v6.heap.size w' (hs3.keep hb)
      have ht2 := fun w' (hb : Below v6.heap.size v6 w') => str_run (piece b L i) (cutQ q c (before L i)) (c - before L i) w.heap.size w' (hsm.keep (hb.mono HB.out.size))
      rw [hxl] at ht1 ht2
      have HT1 := Lib.hid ht1
      have HT2 := Lib.hid ht2
      clear hcp hcq hap haq he hs3 hsm hxl ht1 ht2 hvi
      generalize piece b L i = xx at *
      generalize cutQ q c (before L i) = qm at *
      generalize c - before L i = cm at *
      generalize L.getD i 0 - before L i = nn at *
      generalize L.getD i 0 = e at *
      generalize before L i = p0 at *
      go_wp2_with fail
      refine wp_region_org ((List.range 14).map (·, true)) (by kernel_rfl) (by kernel_rfl) (by kernel_rfl) ?_
      replace HBB := Lib.hid HBB.out.drew
      generalize wr.drew = w13 at *
      simp only [List.range_succ, List.range_zero, List.nil_append, List.cons_append, List.map_cons, List.map_nil, pickOrs, List.getElem?_cons_zero, List.getElem?_cons_succ]
      refine org_pure (v := ?_) (by kernel_rfl) ?_ ?_
      rotate_left
      · intro w' hv; clear hv; go_simp; try with_reducible rfl
      try simp only [Act.put, List.setIfInBounds_toArray, List.set_cons_zero, List.set_cons_succ]
      refine org_pure (v := ?_) (by kernel_rfl) ?_ ?_
      rotate_left
      · intro w' hv; clear hv; go_simp; try with_reducible rfl
      try simp only [Act.put, List.setIfInBounds_toArray, List.set_cons_zero, List.set_cons_succ]
      refine org_pure (v := ?_) (by kernel_rfl) ?_ ?_
      rotate_left
      · intro w' hv; clear hv; go_simp; try with_reducible rfl
      try simp only [Act.put, List.setIfInBounds_toArray, List.set_cons_zero, List.set_cons_succ]
      refine org_pure (v := ?_) (by kernel_rfl) ?_ ?_
      rotate_left
      · intro w' hv; have cp := HCP.out w' (HBB.out.trans (Below.mono hv HBB.out.size)); clear hv; go_simp; try with_reducible rfl
      try simp only [Act.put, List.setIfInBounds_toArray, List.set_cons_zero, List.set_cons_succ]
      refine org_pure (v := ?_) (by kernel_rfl) ?_ ?_
      rotate_left
      · intro w' hv; have ct := HT1.out w' (HBB.out.trans (Below.mono hv HBB.out.size)); clear hv; go_simp; try with_reducible rfl
      try simp only [Act.put, List.setIfInBounds_toArray, List.set_cons_zero, List.set_cons_succ]
      refine org_pure (v := ?_) (by kernel_rfl) ?_ ?_
      rotate_left
      · intro w' hv; clear hv; go_simp; try with_reducible rfl
      try simp only [Act.put, List.setIfInBounds_toArray, List.set_cons_zero, List.set_cons_succ]
      refine org_pure (v := ?_) (by kernel_rfl) ?_ ?_
      rotate_left
      · intro w' hv; clear hv; go_simp; try with_reducible rfl
      try simp only [Act.put, List.setIfInBounds_toArray, List.set_cons_zero, List.set_cons_succ]
      refine org_pure (v := ?_) (by kernel_rfl) ?_ ?_
      rotate_left
      · intro w' hv; clear hv; go_simp; try with_reducible rfl
      try simp only [Act.put, List.setIfInBounds_toArray, List.set_cons_zero, List.set_cons_succ]
      refine org_pure (v := ?_) (by kernel_rfl) ?_ ?_
      rotate_left
      · intro w' hv; clear hv; go_simp; try with_reducible rfl
      try simp only [Act.put, List.setIfInBounds_toArray, List.set_cons_zero, List.set_cons_succ]
      refine org_pure (v := ?_) (by kernel_rfl) ?_ ?_
      rotate_left
      · intro w' hv; clear hv; go_simp; try with_reducible rfl
      try simp only [Act.put, List.setIfInBounds_toArray, List.set_cons_zero, List.set_cons_succ]
      refine org_pure (v := ?_) (by kernel_rfl) ?_ ?_
      rotate_left
      · intro w' hv; have cq := HCQ.out w' (HBB.out.trans (Below.mono hv HBB.out.size)); clear hv; go_simp; try with_reducible rfl
      try simp only [Act.put, List.setIfInBounds_toArray, List.set_cons_zero, List.set_cons_succ]
      refine org_pure (v := ?_) (by kernel_rfl) ?_ ?_
      rotate_left
      · intro w' hv; clear hv; go_simp; try with_reducible rfl
      try simp only [Act.put, List.setIfInBounds_toArray, List.set_cons_zero, List.set_cons_succ]
      refine org_pure (v := ?_) (by kernel_rfl) ?_ ?_
      rotate_left
      · intro w' hv; have ct := HT2.out w' (HBB.out.trans (Below.mono hv HBB.out.size)); clear hv; go_simp; try with_reducible rfl
      try simp only [Act.put, List.setIfInBounds_toArray, List.set_cons_zero, List.set_cons_succ]
      refine org_pure (v := ?_) (by kernel_rfl) ?_ ?_
      rotate_left
      · intro w' hv; clear hv; go_simp; try with_reducible rfl
      try simp only [Act.put, List.setIfInBounds_toArray, List.set_cons_zero, List.set_cons_succ]
      refine org_nil ?_
      have cq := HCQ.out w13 HBB.out
      go_wp2_with fail
      go_roundw
      case rel => exact ⟨i + 1, by omega, by go_num, by rw [HBS.out], HBB.out⟩
      case measure => simp [intOf]; omega
    · have hil : i = L.length := by omega
      have k3 : ¬ (i : Int) < (L.length : Int) := by omega
      clear hlt
      go_wp2_with fail
      go_ret
      exact ⟨rfl, HB.out.trans (HBB.out.mono HB.out.size)⟩
theorem csays_any (m x d k t : Int) (hk : 0 ≤ k ∧ k ≤ 18446744073709551615) (ht : 0 ≤ t ∧ t ≤ 18446744073709551615) (b : List (BitVec 8)) (q : Option Addr) (c : Nat) (w : World) (hc : b.length ≤ c) (hq : q = none → c = 0) (hs : Sees w w.heap.size q (b.map u8v)) :
    Calls Try.prog 4 #[ruleV m x d k t, .slice q b.length c] w fun e w' => e = .returned (.bool true) ∧ Below w.heap.size w w' := by
  by_cases hl : 400 < b.length
  · exact csays_long m x d k t b hl q c w
  · cases hok : okI m x d with
    | false =>
      refine csays_core m x d k t b (by omega) q c w hc hs false [] 0 (by simp) (fun i hi => by simp at hi) (fun v => ?_) (fun v => ?_) (fun v hb => ?_) (fun v hb => ?_) (fun v hb => ?_) (fun v hb => ?_) (fun v hb => ?_)
      · rw [← hok]; exact good_any m x d k t v
      · rw [← hok]; exact rgood_any m x d k t v
      · exact (ends_bad m x d k t hok b q c v).mono fun e w' ⟨h1, h2⟩ => ⟨_, h1, Ns.nil _, h2⟩
      · exact (rends_bad m x d k t hok b q c v).mono fun e w' ⟨h1, h2⟩ => ⟨_, h1, Ns.nil _, h2⟩
      · exact (parts_bad m x d k t hok b q c v).mono fun e w' ⟨h1, h2⟩ => ⟨_, h1, Ps.nil _, h2⟩
      · exact next_bad m x d k t hok b q c v
      · exact rnext_bad m x d k t hok b q c v
    | true =>
      obtain ⟨r, hr, h⟩ := rule_nat m x d k t hk ht hok
      refine csays_core m x d k t b (by omega) q c w hc hs true (endsL r 0 b) (nx r b) (Nat.le_trans (endsL_count hr b) (by omega)) (fun i hi => ?_) (fun v => ?_) (fun v => ?_) (fun v hb => ?_) (fun v hb => ?_) (fun v hb => ?_) (fun v hb => ?_) (fun v hb => ?_)
      · obtain ⟨k1, k2, _⟩ := endsL_lt hr b i hi
        rw [getD_at _ i hi]
        exact ⟨k1, k2⟩
      · rw [← hok]; exact good_any m x d k t v
      · rw [← hok]; exact rgood_any m x d k t v
      · rw [h]; exact ends_good r hr b q c v hc (by omega) ((hs.keep hb).more hb.size)
      · rw [h]; exact rends_good r hr b q c v hc (by omega) ((hs.keep hb).more hb.size)
      · rw [h]; exact parts_good r hr b q c v hc hq (by omega) ((hs.keep hb).more hb.size)
      · rw [h]; exact next_good r hr b q c v hc (by omega) ((hs.keep hb).more hb.size)
      · rw [h]; exact rnext_good r hr b q c v hc (by omega) ((hs.keep hb).more hb.size)
end Go.Proofs.Ytkfelfcmpabjoaa
