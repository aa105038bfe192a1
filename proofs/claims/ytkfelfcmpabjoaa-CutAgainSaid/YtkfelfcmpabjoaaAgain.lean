/- The law CutAgain returns true: two texts that are alike from an end of both on have the same ends from there on. Condition: the bytes as they came in. -/
import Derived.Test.YtkfelfcmpabjoaaAwake
import Derived.Test.YtkfelfcmpabjoaaOpenR
import Derived.Test.YtkfelfcmpabjoaaApp
import Derived.Test.YtkfelfcmpabjoaaCuto
namespace Go.Proofs.Ytkfelfcmpabjoaa
open Go.RowKit
theorem made_empty2 (w : World) (base : Nat) (h : base ≤ w.heap.size) : (w.alloc (.cells #[] 5)).ownsRow base 5 1 (.slice (some ⟨w.heap.size, 0, none⟩) 0 0) 0 [] :=
  World.ownsRow_made w #[] 0 h (by decide) rfl
set_option maxHeartbeats 1000000 in
set_option maxRecDepth 100000 in
theorem again_bad (m x d k t : Int) (hok : okI m x d = false) (a b e : List (BitVec 8)) (qa : Option Addr) (ca : Nat) (qb : Option Addr) (cb : Nat) (qe : Option Addr) (ce : Nat)  (w : World) :
    Calls Try.prog 6 #[ruleV m x d k t, .slice qa a.length ca, .slice qb b.length cb, .slice qe e.length ce] w fun e w' => e = .returned (.bool true) ∧ Below w.heap.size w w' := by
  have HG := Lib.hid (fun w1 => good_any m x d k t w1)
  rw [hok] at HG
  have HA := Lib.hid (fun v => awake_any v)
  have HR := Lib.hid (Has.made' w 25 _ (ruleL m x d k t) rfl)
  have HB1 := Lib.hid ((Below.refl w.heap.size w).alloc (Nat.le_refl _) (.cells (ruleL m x d k t).toArray 25))
  have HZ : Hid ((w.alloc (.cells (ruleL m x d k t).toArray 25)).heap.size = w.heap.size + 1) := Lib.hid (by simp)
  unfold ruleV at HG ⊢
  unfold ruleL at HG HR HB1 HZ ⊢
  go_enter Try.func6, Try.ntmps6
  go_wp2_with fail
  refine (HA.out _).mono ?_
  rintro e w2 ⟨rfl, hb⟩
  have HB2 := Lib.hid (HB1.out.trans (hb.mono (by have := HZ.out; omega)))
  have HR2 := Lib.hid (HR.out.keep hb (by have := HZ.out; omega))
  have c0 := HR2.out.cellv (i := 0) rfl
  have c1 := HR2.out.cellv (i := 1) rfl
  have c2 := HR2.out.cellv (i := 2) rfl
  have c3 := HR2.out.cellv (i := 3) rfl
  have c4 := HR2.out.cellv (i := 4) rfl
  clear hb HB1 HR HZ HA
  go_wp2_with fail
  refine (HG.out _).mono ?_
  rintro e w3 ⟨rfl, hb⟩
  have HB3 := Lib.hid (HB2.out.trans (hb.mono HB2.out.size))
  clear hb HB2
  go_wp2_with fail
  go_ret
  exact ⟨rfl, HB3.out⟩
set_option maxHeartbeats 1000000 in
set_option maxRecDepth 100000 in
theorem again_longa (m x d k t : Int) (hok : okI m x d = true) (a b e : List (BitVec 8)) (qa : Option Addr) (ca : Nat) (qb : Option Addr) (cb : Nat) (qe : Option Addr) (ce : Nat) (h : 300 < a.length) (w : World) :
    Calls Try.prog 6 #[ruleV m x d k t, .slice qa a.length ca, .slice qb b.length cb, .slice qe e.length ce] w fun e w' => e = .returned (.bool true) ∧ Below w.heap.size w w' := by
  have k0 : (300 : Int) < (a.length : Int) := by omega
  have HG := Lib.hid (fun w1 => good_any m x d k t w1)
  rw [hok] at HG
  have HA := Lib.hid (fun v => awake_any v)
  have HR := Lib.hid (Has.made' w 25 _ (ruleL m x d k t) rfl)
  have HB1 := Lib.hid ((Below.refl w.heap.size w).alloc (Nat.le_refl _) (.cells (ruleL m x d k t).toArray 25))
  have HZ : Hid ((w.alloc (.cells (ruleL m x d k t).toArray 25)).heap.size = w.heap.size + 1) := Lib.hid (by simp)
  unfold ruleV at HG ⊢
  unfold ruleL at HG HR HB1 HZ ⊢
  go_enter Try.func6, Try.ntmps6
  go_wp2_with fail
  refine (HA.out _).mono ?_
  rintro e w2 ⟨rfl, hb⟩
  have HB2 := Lib.hid (HB1.out.trans (hb.mono (by have := HZ.out; omega)))
  have HR2 := Lib.hid (HR.out.keep hb (by have := HZ.out; omega))
  have c0 := HR2.out.cellv (i := 0) rfl
  have c1 := HR2.out.cellv (i := 1) rfl
  have c2 := HR2.out.cellv (i := 2) rfl
  have c3 := HR2.out.cellv (i := 3) rfl
  have c4 := HR2.out.cellv (i := 4) rfl
  clear hb HB1 HR HZ HA
  go_wp2_with fail
  refine (HG.out _).mono ?_
  rintro e w3 ⟨rfl, hb⟩
  have HB3 := Lib.hid (HB2.out.trans (hb.mono HB2.out.size))
  clear hb HB2
  go_wp2_with fail
  go_ret
  exact ⟨rfl, HB3.out⟩
set_option maxHeartbeats 1000000 in
set_option maxRecDepth 100000 in
theorem again_longb (m x d k t : Int) (hok : okI m x d = true) (a b e : List (BitVec 8)) (qa : Option Addr) (ca : Nat) (qb : Option Addr) (cb : Nat) (qe : Option Addr) (ce : Nat) (h0 : ¬ 300 < a.length) (h : 300 < b.length) (w : World) :
    Calls Try.prog 6 #[ruleV m x d k t, .slice qa a.length ca, .slice qb b.length cb, .slice qe e.length ce] w fun e w' => e = .returned (.bool true) ∧ Below w.heap.size w w' := by
  have k0 : ¬ (300 : Int) < (a.length : Int) := by omega
  have k1 : (300 : Int) < (b.length : Int) := by omega
  have HG := Lib.hid (fun w1 => good_any m x d k t w1)
  rw [hok] at HG
  have HA := Lib.hid (fun v => awake_any v)
  have HR := Lib.hid (Has.made' w 25 _ (ruleL m x d k t) rfl)
  have HB1 := Lib.hid ((Below.refl w.heap.size w).alloc (Nat.le_refl _) (.cells (ruleL m x d k t).toArray 25))
  have HZ : Hid ((w.alloc (.cells (ruleL m x d k t).toArray 25)).heap.size = w.heap.size + 1) := Lib.hid (by simp)
  unfold ruleV at HG ⊢
  unfold ruleL at HG HR HB1 HZ ⊢
  go_enter Try.func6, Try.ntmps6
  go_wp2_with fail
  refine (HA.out _).mono ?_
  rintro e w2 ⟨rfl, hb⟩
  have HB2 := Lib.hid (HB1.out.trans (hb.mono (by have := HZ.out; omega)))
  have HR2 := Lib.hid (HR.out.keep hb (by have := HZ.out; omega))
  have c0 := HR2.out.cellv (i := 0) rfl
  have c1 := HR2.out.cellv (i := 1) rfl
  have c2 := HR2.out.cellv (i := 2) rfl
  have c3 := HR2.out.cellv (i := 3) rfl
  have c4 := HR2.out.cellv (i := 4) rfl
  clear hb HB1 HR HZ HA
  go_wp2_with fail
  refine (HG.out _).mono ?_
  rintro e w3 ⟨rfl, hb⟩
  have HB3 := Lib.hid (HB2.out.trans (hb.mono HB2.out.size))
  clear hb HB2
  go_wp2_with fail
  go_ret
  exact ⟨rfl, HB3.out⟩
set_option maxHeartbeats 1000000 in
set_option maxRecDepth 100000 in
theorem again_longe (m x d k t : Int) (hok : okI m x d = true) (a b e : List (BitVec 8)) (qa : Option Addr) (ca : Nat) (qb : Option Addr) (cb : Nat) (qe : Option Addr) (ce : Nat) (h0 : ¬ 300 < a.length) (h1 : ¬ 300 < b.length) (h : 300 < e.length) (w : World) :
    Calls Try.prog 6 #[ruleV m x d k t, .slice qa a.length ca, .slice qb b.length cb, .slice qe e.length ce] w fun e w' => e = .returned (.bool true) ∧ Below w.heap.size w w' := by
  have k0 : ¬ (300 : Int) < (a.length : Int) := by omega
  have k1 : ¬ (300 : Int) < (b.length : Int) := by omega
  have k2 : (300 : Int) < (e.length : Int) := by omega
  have HG := Lib.hid (fun w1 => good_any m x d k t w1)
  rw [hok] at HG
  have HA := Lib.hid (fun v => awake_any v)
  have HR := Lib.hid (Has.made' w 25 _ (ruleL m x d k t) rfl)
  have HB1 := Lib.hid ((Below.refl w.heap.size w).alloc (Nat.le_refl _) (.cells (ruleL m x d k t).toArray 25))
  have HZ : Hid ((w.alloc (.cells (ruleL m x d k t).toArray 25)).heap.size = w.heap.size + 1) := Lib.hid (by simp)
  unfold ruleV at HG ⊢
  unfold ruleL at HG HR HB1 HZ ⊢
  go_enter Try.func6, Try.ntmps6
  go_wp2_with fail
  refine (HA.out _).mono ?_
  rintro e w2 ⟨rfl, hb⟩
  have HB2 := Lib.hid (HB1.out.trans (hb.mono (by have := HZ.out; omega)))
  have HR2 := Lib.hid (HR.out.keep hb (by have := HZ.out; omega))
  have c0 := HR2.out.cellv (i := 0) rfl
  have c1 := HR2.out.cellv (i := 1) rfl
  have c2 := HR2.out.cellv (i := 2) rfl
  have c3 := HR2.out.cellv (i := 3) rfl
  have c4 := HR2.out.cellv (i := 4) rfl
  clear hb HB1 HR HZ HA
  go_wp2_with fail
  refine (HG.out _).mono ?_
  rintro e w3 ⟨rfl, hb⟩
  have HB3 := Lib.hid (HB2.out.trans (hb.mono HB2.out.size))
  clear hb HB2
  go_wp2_with fail
  go_ret
  exact ⟨rfl, HB3.out⟩
set_option maxHeartbeats 4000000 in
set_option maxRecDepth 100000 in
theorem again_main (r : Rl) (hr : r.Ok) (a b e : List (BitVec 8)) (qa : Option Addr) (ca : Nat) (qb : Option Addr) (cb : Nat) (qe : Option Addr) (ce : Nat) (hal : a.length ≤ 300) (hbl : b.length ≤ 300) (hel : e.length ≤ 300) (w : World)
    (hqa : qa = none → ca = 0) (hsa : Sees w w.heap.size qa (a.map u8v)) (hqb : qb = none → cb = 0) (hsb : Sees w w.heap.size qb (b.map u8v)) (hqe : qe = none → ce = 0) (hse : Sees w w.heap.size qe (e.map u8v)) :
    Calls Try.prog 6 #[r.val, .slice qa a.length ca, .slice qb b.length cb, .slice qe e.length ce] w fun e w' => e = .returned (.bool true) ∧ Below w.heap.size w w' := by
  have k0 : ¬ (300 : Int) < (a.length : Int) := by omega
  have k1 : ¬ (300 : Int) < (b.length : Int) := by omega
  have k2 : ¬ (300 : Int) < (e.length : Int) := by omega
  have hxl : (a ++ e).length = a.length + e.length := List.length_append
  have hyl : (b ++ e).length = b.length + e.length := List.length_append
  have HN1 := Lib.hid (fun (q : Option Addr) (c : Nat) (v : World) (hc : (a ++ e).length ≤ c) (hs : Sees v v.heap.size q ((a ++ e).map u8v)) => ends_good r hr (a ++ e) q c v hc (by omega) hs)
  have HN2 := Lib.hid (fun (q : Option Addr) (c : Nat) (v : World) (hc : (b ++ e).length ≤ c) (hs : Sees v v.heap.size q ((b ++ e).map u8v)) => ends_good r hr (b ++ e) q c v hc (by omega) hs)
  have HAG := Lib.hid (fun i k hi hk h1 h2 h3 => ends_again hr a b e i k hi hk h1 h2 h3)
  have HPL : Hid ((endsL r 0 (a ++ e)).length ≤ 600 ∧ ∀ i (hi : i < (endsL r 0 (a ++ e)).length), (endsL r 0 (a ++ e))[i] ≤ 600) := Lib.hid ⟨Nat.le_trans (endsL_count hr _) (by omega), fun i hi => Nat.le_trans (endsL_lt hr _ i hi).2.1 (by omega)⟩
  have HQL : Hid ((endsL r 0 (b ++ e)).length ≤ 600 ∧ ∀ i (hi : i < (endsL r 0 (b ++ e)).length), (endsL r 0 (b ++ e))[i] ≤ 600) := Lib.hid ⟨Nat.le_trans (endsL_count hr _) (by omega), fun i hi => Nat.le_trans (endsL_lt hr _ i hi).2.1 (by omega)⟩
  obtain ⟨x, hx⟩ : ∃ x, x = a ++ e := ⟨_, rfl⟩
  obtain ⟨y, hy⟩ : ∃ y, y = b ++ e := ⟨_, rfl⟩
  rw [← hx] at HN1 HAG HPL
  rw [← hy] at HN2 HAG HQL
  generalize endsL r 0 x = P at *
  generalize endsL r 0 y = Q at *
  have HX := Lib.hid hx
  have HY := Lib.hid hy
  have hok := okI_of hr
  have HSA := Lib.hid hsa
  have HSB := Lib.hid hsb
  have HSE := Lib.hid hse
  have HQA := Lib.hid hqa
  have HQB := Lib.hid hqb
  have HQE := Lib.hid hqe
  have HLA : Hid (0 + a.length ≤ 140737488355328) := Lib.hid (by omega)
  have HLB : Hid (0 + b.length ≤ 140737488355328) := Lib.hid (by omega)
  have HLX : Hid (a.length + e.length ≤ 140737488355328) := Lib.hid (by omega)
  have HLY : Hid (b.length + e.length ≤ 140737488355328) := Lib.hid (by omega)
  have HG := Lib.hid (fun w1 => good_any r.mn r.mx r.wd r.mask r.want w1)
  rw [hok] at HG
  have HA := Lib.hid (fun v => awake_any v)
  have HR := Lib.hid (Has.made' w 25 _ (ruleL r.mn r.mx r.wd r.mask r.want) rfl)
  have HB1 := Lib.hid ((Below.refl w.heap.size w).alloc (Nat.le_refl _) (.cells (ruleL r.mn r.mx r.wd r.mask r.want).toArray 25))
  have HZ : Hid ((w.alloc (.cells (ruleL r.mn r.mx r.wd r.mask r.want).toArray 25)).heap.size = w.heap.size + 1) := Lib.hid (by simp)
  clear hr hok hsa hsb hse hqa hqb hqe hx hy hxl hyl
  unfold Rl.val at HN1 HN2 ⊢
  unfold ruleV ruleL at HN1 HN2
  unfold ruleV at HG ⊢
  unfold ruleL at HG HR HB1 HZ ⊢
  go_enter Try.func6, Try.ntmps6
  go_wp2_with fail
  refine (HA.out _).mono ?_
  rintro e w2 ⟨rfl, hb⟩
  have HB2 := Lib.hid (HB1.out.trans (hb.mono (by have := HZ.out; omega)))
  have HR2 := Lib.hid (HR.out.keep hb (by have := HZ.out; omega))
  have c0 := HR2.out.cellv (i := 0) rfl
  have c1 := HR2.out.cellv (i := 1) rfl
  have c2 := HR2.out.cellv (i := 2) rfl
  have c3 := HR2.out.cellv (i := 3) rfl
  have c4 := HR2.out.cellv (i := 4) rfl
  clear hb HB1 HR HZ HA
  go_wp2_with fail
  refine (HG.out _).mono ?_
  rintro e w3 ⟨rfl, hb⟩
  have HB3 := Lib.hid (HB2.out.trans (hb.mono HB2.out.size))
  have HR3 := Lib.hid (HR2.out.keep hb HR2.out.lt)
  clear hb HB2 HR2 c0 c1 c2 c3 c4 HG
  have HO4 := Lib.hid (made_empty2 w3 w3.heap.size (Nat.le_refl _))
  have HX4 := Lib.hid ((Below.refl w3.heap.size w3).alloc (Nat.le_refl _) (.cells #[] 5))
  go_upto_region 6 with (first
    | (refine wpList_append_sees rfl (.tmp 36) (.tmp 37) rfl w3.heap.size _ 0 [] rfl HO4.out qa a ca w.heap.size rfl HQA.out (HSA.out.keep (HB3.out.trans (HX4.out.mono HB3.out.size))) HLA.out HX4.out.size ?_; intro v5 w5 h1 h2; have HO5 : Hid (w5.ownsRow w3.heap.size 5 1 v5 a.length (a.map u8v)) := Lib.hid (by rw [Nat.zero_add, List.nil_append] at h1; exact h1); have HX5 := Lib.hid (HX4.out.trans h2); clear h1 h2 HO4 HX4)
    | (refine wpList_append_sees rfl (.tmp 38) (.tmp 39) rfl w3.heap.size v5 a.length (a.map u8v) rfl HO5.out qe e ce w.heap.size rfl HQE.out (HSE.out.keep (HB3.out.trans (HX5.out.mono HB3.out.size))) HLX.out HX5.out.size ?_; intro v6 w6 h1 h2; have HO6 : Hid (Bs w6 v6 x) := Lib.hid (by rw [← List.map_append, ← HX.out] at h1; exact Bs.own h1); have HX6 := Lib.hid (HX5.out.trans h2); clear h1 h2 HO5 HX5; have HO7 := Lib.hid (made_empty2 w6 w6.heap.size (Nat.le_refl _)); have HX7 := Lib.hid ((Below.refl w6.heap.size w6).alloc (Nat.le_refl _) (.cells #[] 5)); have HB6 := Lib.hid (HB3.out.trans (HX6.out.mono HB3.out.size)))
    | (refine wpList_append_sees rfl (.tmp 41) (.tmp 42) rfl w6.heap.size _ 0 [] rfl HO7.out qb b cb w.heap.size rfl HQB.out (HSB.out.keep (HB6.out.trans (HX7.out.mono HB6.out.size))) HLB.out HX7.out.size ?_; intro v8 w8 h1 h2; have HO8 : Hid (w8.ownsRow w6.heap.size 5 1 v8 b.length (b.map u8v)) := Lib.hid (by rw [Nat.zero_add, List.nil_append] at h1; exact h1); have HX8 := Lib.hid (HX7.out.trans h2); clear h1 h2 HO7 HX7)
    | (refine wpList_append_sees rfl (.tmp 43) (.tmp 44) rfl w6.heap.size v8 b.length (b.map u8v) rfl HO8.out qe e ce w.heap.size rfl HQE.out (HSE.out.keep (HB6.out.trans (HX8.out.mono HB6.out.size))) HLY.out HX8.out.size ?_; intro v9 w9 h1 h2; have HO9 : Hid (Bs w9 v9 y) := Lib.hid (by rw [← List.map_append, ← HY.out] at h1; exact Bs.own h1); have HX9 := Lib.hid (HX8.out.trans h2); clear h1 h2 HO8 HX8))
  have HB9 := Lib.hid (HB6.out.trans (HX9.out.mono HB6.out.size)).drew
  have HR9 := Lib.hid (HR3.out.keep (HX6.out.trans (HX9.out.mono HX6.out.size)) HR3.out.lt).drew
  have HZ1 : Hid (Bs w9.drew v6 x) := Lib.hid (HO6.out.keep HX9.out.drew)
  have HZ2 : Hid (Bs w9.drew v9 y) := HO9
  clear HO6 HO9 HX6 HX9 HB6 HB3 HR3 HX HY HSA HSB HSE HQA HQB HQE HLA HLB HLX HLY
  refine wp_region_org [(0, true), (1, true), (3, true), (4, true), (2, false), (5, false), (6, true), (7, true)] (by kernel_rfl) (by kernel_rfl) (by kernel_rfl) ?_
  generalize w9.drew = w10 at *
  obtain ⟨q1, c1, rfl, hc1, _, hs1⟩ := HZ1.out
  obtain ⟨q2, c2, rfl, hc2, _, hs2⟩ := HZ2.out
  have HS1 := Lib.hid hs1
  have HS2 := Lib.hid hs2
  have HC1 := Lib.hid hc1
  have HC2 := Lib.hid hc2
  clear hs1 hs2 hc1 hc2 HZ1 HZ2
  simp only [pickOrs, List.getElem?_cons_zero, List.getElem?_cons_succ]
  refine org_pure (by kernel_rfl) (fun w' hv => load_at 25 (.tmp 4) rfl w.heap.size rfl 25 _ w' (HR9.out.keep hv HR9.out.lt) _ Try.underlying25 rfl (by kernel_rfl)) ?_
  try simp only [Act.put, List.setIfInBounds_toArray, List.set_cons_zero, List.set_cons_succ]
  refine org_pure (v := ?_) (by kernel_rfl) ?_ ?_
  rotate_left
  · intro w' hv; clear hv; go_simp; try with_reducible rfl
  try simp only [Act.put, List.setIfInBounds_toArray, List.set_cons_zero, List.set_cons_succ]
  refine org_pure (by kernel_rfl) (fun w' hv => load_at 25 (.tmp 4) rfl w.heap.size rfl 25 _ w' (HR9.out.keep hv HR9.out.lt) _ Try.underlying25 rfl (by kernel_rfl)) ?_
  try simp only [Act.put, List.setIfInBounds_toArray, List.set_cons_zero, List.set_cons_succ]
  refine org_pure (v := ?_) (by kernel_rfl) ?_ ?_
  rotate_left
  · intro w' hv; clear hv; go_simp; try with_reducible rfl
  try simp only [Act.put, List.setIfInBounds_toArray, List.set_cons_zero, List.set_cons_succ]
  refine org_step (by kernel_rfl) (fun K hK => ?_)
  go_wp2_with fail
  refine (HN1.out q1 c1 w10 HC1.out HS1.out).mono ?_
  rintro e w11 ⟨u1, rfl, hn1, hb⟩
  have HP1 := Lib.hid hn1
  have HX11 : Hid (Ext w10 w11) := Lib.hid hb
  clear hn1 hb
  go_wp2_with fail
  refine ⟨HX11.out, ?_⟩
  try simp only [Act.put, List.setIfInBounds_toArray, List.set_cons_zero, List.set_cons_succ]
  refine org_step (by kernel_rfl) (fun K hK => ?_)
  go_wp2_with fail
  refine (HN2.out q2 c2 w11 HC2.out ((HS2.out.keep HX11.out).more (Below.size HX11.out))).mono ?_
  rintro e w12 ⟨u2, rfl, hn2, hb⟩
  have HP2 := Lib.hid hn2
  have HP3 := Lib.hid (HP1.out.keep hb)
  have HX12 : Hid (Ext w11 w12) := Lib.hid hb
  have HB12 := Lib.hid (HB9.out.trans ((Ext.trans HX11.out hb).mono HB9.out.size))
  clear hn2 hb
  go_wp2_with fail
  refine ⟨HX12.out, ?_⟩
  try simp only [Act.put, List.setIfInBounds_toArray, List.set_cons_zero, List.set_cons_succ]
  refine org_pure (v := ?_) (by kernel_rfl) ?_ ?_
  rotate_left
  · intro w' hv; clear hv; go_simp; try with_reducible rfl
  try simp only [Act.put, List.setIfInBounds_toArray, List.set_cons_zero, List.set_cons_succ]
  refine org_pure (v := ?_) (by kernel_rfl) ?_ ?_
  rotate_left
  · intro w' hv; clear hv; go_simp; try with_reducible rfl
  try simp only [Act.put, List.setIfInBounds_toArray, List.set_cons_zero, List.set_cons_succ]
  refine org_nil ?_
  clear HX11 HX12 HB9 HR9 HS1 HS2 HC1 HC2 HN1 HN2 HP1
  obtain ⟨qp, cp, rfl, hsp⟩ := HP3.out
  obtain ⟨qq, cq, rfl, hsq⟩ := HP2.out
  have HSP := Lib.hid hsp
  have HSQ := Lib.hid hsq
  clear HP2 HP3 hsp hsq
  go_wp2_with fail
  go_loopw [13] (fun vi wr => ∃ i : Nat, i ≤ P.length ∧ vi = .int .i64 i ∧ Below w12.heap.size w12 wr) (fun vi _ => P.length - (intOf vi).toNat)
  case atStart => exact ⟨0, by omega, rfl, Below.refl _ _⟩
  case round =>
    rename_i wr1
    obtain ⟨i, hi, rfl, hB⟩ := hrel
    have hpl := HPL.out.1
    have hql := HQL.out.1
    by_cases hlt : i < P.length
    · have HB1 := Lib.hid hB
      clear hB
      go_wp2_with fail
      go_loopw [14] (fun vk wr => ∃ k : Nat, k ≤ Q.length ∧ vk = .int .i64 k ∧ Below w12.heap.size w12 wr) (fun vk _ => Q.length - (intOf vk).toNat)
      case atStart => exact ⟨0, by omega, rfl, HB1.out⟩
      case round =>
        obtain ⟨k, hk, rfl, hB⟩ := hrel
        have HBB := Lib.hid hB
        clear hB
        by_cases hlk : k < Q.length
        · obtain ⟨ap, rfl, hap, hcp⟩ := HSP.out.get (by rw [List.length_map]; omega)
          obtain ⟨aq, rfl, haq, hcq⟩ := HSQ.out.get (by rw [List.length_map]; omega)
          have HCP : Hid (∀ w', Below w12.heap.size w12 w' → w'.cell? (ap.add i) = some (.int .i64 (P[i] : Nat))) := Lib.hid (fun w' hb => (hb.cell (by rw [add_block]; exact hap)).trans (hcp i (i64n P[i]) (by rw [List.getElem?_map, List.getElem?_eq_getElem hlt]; rfl)))
          have HCQ : Hid (∀ w', Below w12.heap.size w12 w' → w'.cell? (aq.add k) = some (.int .i64 (Q[k] : Nat))) := Lib.hid (fun w' hb => (hb.cell (by rw [add_block]; exact haq)).trans (hcq k (i64n Q[k]) (by rw [List.getElem?_map, List.getElem?_eq_getElem hlk]; rfl)))
          have HCP2 : Hid (∀ n, n < P.length → ∀ w', Below w12.heap.size w12 w' → w'.cell? (ap.add n) = some (.int .i64 (P.getD n 0 : Nat))) := Lib.hid (fun n hn w' hb => (hb.cell (by rw [add_block]; exact hap)).trans (hcp n (i64n (P.getD n 0)) (by rw [List.getElem?_map, List.getElem?_eq_getElem hn, getD_at P n hn]; rfl)))
          have HCQ2 : Hid (∀ n, n < Q.length → ∀ w', Below w12.heap.size w12 w' → w'.cell? (aq.add n) = some (.int .i64 (Q.getD n 0 : Nat))) := Lib.hid (fun n hn w' hb => (hb.cell (by rw [add_block]; exact haq)).trans (hcq n (i64n (Q.getD n 0)) (by rw [List.getElem?_map, List.getElem?_eq_getElem hn, getD_at Q n hn]; rfl)))
          have HAI := Lib.hid (HAG.out i k hlt hlk)
          have gp := HPL.out.2 i hlt
          have gq := HQL.out.2 k hlk
          clear hcp hcq hap haq
          generalize P[i] = pi at *
          generalize Q[k] = qk at *
          by_cases x1 : a.length ≤ pi
          · have y1 : (a.length : Int) ≤ (pi : Int) := by omega
            by_cases x2 : b.length ≤ qk
            · have y2 : (b.length : Int) ≤ (qk : Int) := by omega
              have z1 : IntKind.i64.wrap ((pi : Int) - (a.length : Int)) = ((pi - a.length : Nat) : Int) := by rw [IntWalk.i64_in _ (by omega)]; omega
              have z2 : IntKind.i64.wrap ((qk : Int) - (b.length : Int)) = ((qk - b.length : Nat) : Int) := by rw [IntWalk.i64_in _ (by omega)]; omega
              by_cases x3 : pi - a.length = qk - b.length
              · obtain ⟨g1, g2⟩ := HAI.out x1 x2 x3
                have HG2 := Lib.hid g2
                have y3 : (((pi - a.length : Nat) : Int) == ((qk - b.length : Nat) : Int)) = true := by rw [x3]; simp
                have z3 : IntKind.i64.wrap ((P.length : Int) - (i : Int)) = ((P.length - i : Nat) : Int) := by rw [IntWalk.i64_in _ (by omega)]; omega
                have z4 : IntKind.i64.wrap ((Q.length : Int) - (k : Int)) = ((P.length - i : Nat) : Int) := by rw [g1, IntWalk.i64_in _ (by omega)]; omega
                have HG0 : Hid (P.length + k = Q.length + i) := Lib.hid (by omega)
                clear x1 x2 x3 g1 g2 HAI gp gq
                generalize pi - a.length = u at *
                generalize qk - b.length = v at *
                generalize P.length - i = dd at *
                go_wp2_with fail
                try simp only [List.append_eq, List.cons_append, List.nil_append]
                refine wp_region_org ((List.range 33).map (·, true)) (by kernel_rfl) (by kernel_rfl) (by kernel_rfl) ?_
                replace HBB := Lib.hid HBB.out.drew
                generalize wr.drew = w13 at *
                simp only [List.range_succ, List.range_zero, List.nil_append, List.cons_append, List.map_cons, List.map_nil, pickOrs, List.getElem?_cons_zero, List.getElem?_cons_succ]
                refine org_pure (v := ?_) (by kernel_rfl) ?_ ?_
                rotate_left
                · intro w' hw; clear hw; go_simp; try with_reducible rfl
                try simp only [Act.put, List.setIfInBounds_toArray, List.set_cons_zero, List.set_cons_succ]
                refine org_pure (v := ?_) (by kernel_rfl) ?_ ?_
                rotate_left
                · intro w' hw; clear hw; go_simp; try with_reducible rfl
                try simp only [Act.put, List.setIfInBounds_toArray, List.set_cons_zero, List.set_cons_succ]
                refine org_pure (v := ?_) (by kernel_rfl) ?_ ?_
                rotate_left
                · intro w' hw; clear hw; go_simp; try with_reducible rfl
                try simp only [Act.put, List.setIfInBounds_toArray, List.set_cons_zero, List.set_cons_succ]
                refine org_pure (v := ?_) (by kernel_rfl) ?_ ?_
                rotate_left
                · intro w' hw; have cp := HCP.out w' (HBB.out.trans (Below.mono hw HBB.out.size)); clear hw; go_simp; try with_reducible rfl
                try simp only [Act.put, List.setIfInBounds_toArray, List.set_cons_zero, List.set_cons_succ]
                refine org_pure (v := ?_) (by kernel_rfl) ?_ ?_
                rotate_left
                · intro w' hw; clear hw; go_simp; try with_reducible rfl
                try simp only [Act.put, List.setIfInBounds_toArray, List.set_cons_zero, List.set_cons_succ]
                refine org_pure (v := ?_) (by kernel_rfl) ?_ ?_
                rotate_left
                · intro w' hw; clear hw; go_simp; try with_reducible rfl
                try simp only [Act.put, List.setIfInBounds_toArray, List.set_cons_zero, List.set_cons_succ]
                refine org_pure (v := ?_) (by kernel_rfl) ?_ ?_
                rotate_left
                · intro w' hw; clear hw; go_simp; try with_reducible rfl
                try simp only [Act.put, List.setIfInBounds_toArray, List.set_cons_zero, List.set_cons_succ]
                refine org_pure (v := ?_) (by kernel_rfl) ?_ ?_
                rotate_left
                · intro w' hw; clear hw; go_simp; try with_reducible rfl
                try simp only [Act.put, List.setIfInBounds_toArray, List.set_cons_zero, List.set_cons_succ]
                refine org_pure (v := ?_) (by kernel_rfl) ?_ ?_
                rotate_left
                · intro w' hw; clear hw; go_simp; try with_reducible rfl
                try simp only [Act.put, List.setIfInBounds_toArray, List.set_cons_zero, List.set_cons_succ]
                refine org_pure (v := ?_) (by kernel_rfl) ?_ ?_
                rotate_left
                · intro w' hw; clear hw; go_simp; try with_reducible rfl
                try simp only [Act.put, List.setIfInBounds_toArray, List.set_cons_zero, List.set_cons_succ]
                refine org_pure (v := ?_) (by kernel_rfl) ?_ ?_
                rotate_left
                · intro w' hw; clear hw; go_simp; try with_reducible rfl
                try simp only [Act.put, List.setIfInBounds_toArray, List.set_cons_zero, List.set_cons_succ]
                refine org_pure (v := ?_) (by kernel_rfl) ?_ ?_
                rotate_left
                · intro w' hw; have cq := HCQ.out w' (HBB.out.trans (Below.mono hw HBB.out.size)); clear hw; go_simp; try with_reducible rfl
                try simp only [Act.put, List.setIfInBounds_toArray, List.set_cons_zero, List.set_cons_succ]
                refine org_pure (v := ?_) (by kernel_rfl) ?_ ?_
                rotate_left
                · intro w' hw; clear hw; go_simp; try with_reducible rfl
                try simp only [Act.put, List.setIfInBounds_toArray, List.set_cons_zero, List.set_cons_succ]
                refine org_pure (v := ?_) (by kernel_rfl) ?_ ?_
                rotate_left
                · intro w' hw; clear hw; go_simp; try with_reducible rfl
                try simp only [Act.put, List.setIfInBounds_toArray, List.set_cons_zero, List.set_cons_succ]
                refine org_pure (v := ?_) (by kernel_rfl) ?_ ?_
                rotate_left
                · intro w' hw; clear hw; go_simp; try with_reducible rfl
                try simp only [Act.put, List.setIfInBounds_toArray, List.set_cons_zero, List.set_cons_succ]
                refine org_pure (v := ?_) (by kernel_rfl) ?_ ?_
                rotate_left
                · intro w' hw; clear hw; go_simp; try with_reducible rfl
                try simp only [Act.put, List.setIfInBounds_toArray, List.set_cons_zero, List.set_cons_succ]
                refine org_pure (v := ?_) (by kernel_rfl) ?_ ?_
                rotate_left
                · intro w' hw; clear hw; go_simp; try with_reducible rfl
                try simp only [Act.put, List.setIfInBounds_toArray, List.set_cons_zero, List.set_cons_succ]
                refine org_pure (v := ?_) (by kernel_rfl) ?_ ?_
                rotate_left
                · intro w' hw; clear hw; go_simp; try with_reducible rfl
                try simp only [Act.put, List.setIfInBounds_toArray, List.set_cons_zero, List.set_cons_succ]
                refine org_pure (v := ?_) (by kernel_rfl) ?_ ?_
                rotate_left
                · intro w' hw; clear hw; go_simp; try with_reducible rfl
                try simp only [Act.put, List.setIfInBounds_toArray, List.set_cons_zero, List.set_cons_succ]
                refine org_pure (v := ?_) (by kernel_rfl) ?_ ?_
                rotate_left
                · intro w' hw; clear hw; go_simp; try with_reducible rfl
                try simp only [Act.put, List.setIfInBounds_toArray, List.set_cons_zero, List.set_cons_succ]
                refine org_pure (v := ?_) (by kernel_rfl) ?_ ?_
                rotate_left
                · intro w' hw; have cp := HCP.out w' (HBB.out.trans (Below.mono hw HBB.out.size)); clear hw; go_simp; try with_reducible rfl
                try simp only [Act.put, List.setIfInBounds_toArray, List.set_cons_zero, List.set_cons_succ]
                refine org_pure (v := ?_) (by kernel_rfl) ?_ ?_
                rotate_left
                · intro w' hw; clear hw; go_simp; try with_reducible rfl
                try simp only [Act.put, List.setIfInBounds_toArray, List.set_cons_zero, List.set_cons_succ]
                refine org_pure (v := ?_) (by kernel_rfl) ?_ ?_
                rotate_left
                · intro w' hw; clear hw; go_simp; try with_reducible rfl
                try simp only [Act.put, List.setIfInBounds_toArray, List.set_cons_zero, List.set_cons_succ]
                refine org_pure (v := ?_) (by kernel_rfl) ?_ ?_
                rotate_left
                · intro w' hw; clear hw; go_simp; try with_reducible rfl
                try simp only [Act.put, List.setIfInBounds_toArray, List.set_cons_zero, List.set_cons_succ]
                refine org_pure (v := ?_) (by kernel_rfl) ?_ ?_
                rotate_left
                · intro w' hw; clear hw; go_simp; try with_reducible rfl
                try simp only [Act.put, List.setIfInBounds_toArray, List.set_cons_zero, List.set_cons_succ]
                refine org_pure (v := ?_) (by kernel_rfl) ?_ ?_
                rotate_left
                · intro w' hw; clear hw; go_simp; try with_reducible rfl
                try simp only [Act.put, List.setIfInBounds_toArray, List.set_cons_zero, List.set_cons_succ]
                refine org_pure (v := ?_) (by kernel_rfl) ?_ ?_
                rotate_left
                · intro w' hw; clear hw; go_simp; try with_reducible rfl
                try simp only [Act.put, List.setIfInBounds_toArray, List.set_cons_zero, List.set_cons_succ]
                refine org_pure (v := ?_) (by kernel_rfl) ?_ ?_
                rotate_left
                · intro w' hw; have cq := HCQ.out w' (HBB.out.trans (Below.mono hw HBB.out.size)); clear hw; go_simp; try with_reducible rfl
                try simp only [Act.put, List.setIfInBounds_toArray, List.set_cons_zero, List.set_cons_succ]
                refine org_pure (v := ?_) (by kernel_rfl) ?_ ?_
                rotate_left
                · intro w' hw; clear hw; go_simp; try with_reducible rfl
                try simp only [Act.put, List.setIfInBounds_toArray, List.set_cons_zero, List.set_cons_succ]
                refine org_pure (v := ?_) (by kernel_rfl) ?_ ?_
                rotate_left
                · intro w' hw; clear hw; go_simp; try with_reducible rfl
                try simp only [Act.put, List.setIfInBounds_toArray, List.set_cons_zero, List.set_cons_succ]
                refine org_pure (v := ?_) (by kernel_rfl) ?_ ?_
                rotate_left
                · intro w' hw; clear hw; go_simp; try with_reducible rfl
                try simp only [Act.put, List.setIfInBounds_toArray, List.set_cons_zero, List.set_cons_succ]
                refine org_pure (v := ?_) (by kernel_rfl) ?_ ?_
                rotate_left
                · intro w' hw; clear hw; go_simp; try with_reducible rfl
                try simp only [Act.put, List.setIfInBounds_toArray, List.set_cons_zero, List.set_cons_succ]
                refine org_pure (v := ?_) (by kernel_rfl) ?_ ?_
                rotate_left
                · intro w' hw; clear hw; go_simp; try with_reducible rfl
                try simp only [Act.put, List.setIfInBounds_toArray, List.set_cons_zero, List.set_cons_succ]
                refine org_nil ?_
                clear HCP HCQ y1 y2 y3 z1 z2
                go_wp2_with fail
                clear z3 z4
                go_loopw [15] (fun vn wr => ∃ n : Nat, i + n ≤ P.length ∧ vn = .int .i64 n ∧ Below w12.heap.size w12 wr) (fun vn _ => P.length - (i + (intOf vn).toNat))
                case atStart => exact ⟨0, by omega, rfl, HBB.out⟩
                case round =>
                  obtain ⟨n, hn, rfl, hB⟩ := hrel
                  have HBB := Lib.hid hB
                  clear hB
                  have hnb : n ≤ 600 := by omega
                  have ki : IntKind.i64.wrap ((i : Int) + (n : Int)) = ((i + n : Nat) : Int) := by rw [IntWalk.i64_in _ (by omega)]; omega
                  by_cases hln : i + n < P.length
                  · have hq : k + n < Q.length := by have := HG0.out; omega
                    have kk : IntKind.i64.wrap ((k : Int) + (n : Int)) = ((k + n : Nat) : Int) := by rw [IntWalk.i64_in _ (by omega)]; omega
                    have g2 := HG2.out n hln
                    have b1 := HPL.out.2 (i + n) hln
                    have b2 := HQL.out.2 (k + n) hq
                    rw [← getD_at P (i + n) hln] at b1
                    rw [← getD_at Q (k + n) hq] at b2
                    have HCP := Lib.hid (HCP2.out (i + n) hln)
                    have HCQ := Lib.hid (HCQ2.out (k + n) hq)
                    generalize P.getD (i + n) 0 = ps at *
                    generalize Q.getD (k + n) 0 = qs at *
                    obtain ⟨d, hd⟩ : ∃ d : Int, d = (ps : Int) - (a.length : Int) := ⟨_, rfl⟩
                    have z5 : IntKind.i64.wrap ((ps : Int) - (a.length : Int)) = d := by rw [IntWalk.i64_in _ (by omega)]; omega
                    have z6 : IntKind.i64.wrap ((qs : Int) - (b.length : Int)) = d := by rw [IntWalk.i64_in _ (by omega)]; omega
                    have HNX : Hid (i + (n + 1) ≤ P.length ∧ P.length - (i + (n + 1)) < P.length - (i + n)) := Lib.hid (by omega)
                    clear g2 b1 b2 hd
                    obtain ⟨s, hs⟩ : ∃ s, s = i + n := ⟨_, rfl⟩
                    rw [← hs] at ki hln HCP
                    have HSN := Lib.hid hs
                    clear hs
                    generalize k + n = s2 at *
                    go_wp2_with fail
                    try simp only [List.append_eq, List.cons_append, List.nil_append]
                    refine wp_region_org ((List.range 19).map (·, true)) (by kernel_rfl) (by kernel_rfl) (by kernel_rfl) ?_
                    replace HBB := Lib.hid HBB.out.drew
                    generalize wr.drew = w14 at *
                    simp only [List.range_succ, List.range_zero, List.nil_append, List.cons_append, List.map_cons, List.map_nil, pickOrs, List.getElem?_cons_zero, List.getElem?_cons_succ]
                    refine org_pure (v := ?_) (by kernel_rfl) ?_ ?_
                    rotate_left
                    · intro w' hw; clear hw; go_simp; try with_reducible rfl
                    try simp only [Act.put, List.setIfInBounds_toArray, List.set_cons_zero, List.set_cons_succ]
                    refine org_pure (v := ?_) (by kernel_rfl) ?_ ?_
                    rotate_left
                    · intro w' hw; clear hw; go_simp; try with_reducible rfl
                    try simp only [Act.put, List.setIfInBounds_toArray, List.set_cons_zero, List.set_cons_succ]
                    refine org_pure (v := ?_) (by kernel_rfl) ?_ ?_
                    rotate_left
                    · intro w' hw; clear hw; go_simp; try with_reducible rfl
                    try simp only [Act.put, List.setIfInBounds_toArray, List.set_cons_zero, List.set_cons_succ]
                    refine org_pure (v := ?_) (by kernel_rfl) ?_ ?_
                    rotate_left
                    · intro w' hw; clear hw; go_simp; try with_reducible rfl
                    try simp only [Act.put, List.setIfInBounds_toArray, List.set_cons_zero, List.set_cons_succ]
                    refine org_pure (v := ?_) (by kernel_rfl) ?_ ?_
                    rotate_left
                    · intro w' hw; clear hw; go_simp; try with_reducible rfl
                    try simp only [Act.put, List.setIfInBounds_toArray, List.set_cons_zero, List.set_cons_succ]
                    refine org_pure (v := ?_) (by kernel_rfl) ?_ ?_
                    rotate_left
                    · intro w' hw; have cp := HCP.out w' (HBB.out.trans (Below.mono hw HBB.out.size)); clear hw; go_simp; try with_reducible rfl
                    try simp only [Act.put, List.setIfInBounds_toArray, List.set_cons_zero, List.set_cons_succ]
                    refine org_pure (v := ?_) (by kernel_rfl) ?_ ?_
                    rotate_left
                    · intro w' hw; clear hw; go_simp; try with_reducible rfl
                    try simp only [Act.put, List.setIfInBounds_toArray, List.set_cons_zero, List.set_cons_succ]
                    refine org_pure (v := ?_) (by kernel_rfl) ?_ ?_
                    rotate_left
                    · intro w' hw; clear hw; go_simp; try with_reducible rfl
                    try simp only [Act.put, List.setIfInBounds_toArray, List.set_cons_zero, List.set_cons_succ]
                    refine org_pure (v := ?_) (by kernel_rfl) ?_ ?_
                    rotate_left
                    · intro w' hw; clear hw; go_simp; try with_reducible rfl
                    try simp only [Act.put, List.setIfInBounds_toArray, List.set_cons_zero, List.set_cons_succ]
                    refine org_pure (v := ?_) (by kernel_rfl) ?_ ?_
                    rotate_left
                    · intro w' hw; clear hw; go_simp; try with_reducible rfl
                    try simp only [Act.put, List.setIfInBounds_toArray, List.set_cons_zero, List.set_cons_succ]
                    refine org_pure (v := ?_) (by kernel_rfl) ?_ ?_
                    rotate_left
                    · intro w' hw; clear hw; go_simp; try with_reducible rfl
                    try simp only [Act.put, List.setIfInBounds_toArray, List.set_cons_zero, List.set_cons_succ]
                    refine org_pure (v := ?_) (by kernel_rfl) ?_ ?_
                    rotate_left
                    · intro w' hw; clear hw; go_simp; try with_reducible rfl
                    try simp only [Act.put, List.setIfInBounds_toArray, List.set_cons_zero, List.set_cons_succ]
                    refine org_pure (v := ?_) (by kernel_rfl) ?_ ?_
                    rotate_left
                    · intro w' hw; clear hw; go_simp; try with_reducible rfl
                    try simp only [Act.put, List.setIfInBounds_toArray, List.set_cons_zero, List.set_cons_succ]
                    refine org_pure (v := ?_) (by kernel_rfl) ?_ ?_
                    rotate_left
                    · intro w' hw; clear hw; go_simp; try with_reducible rfl
                    try simp only [Act.put, List.setIfInBounds_toArray, List.set_cons_zero, List.set_cons_succ]
                    refine org_pure (v := ?_) (by kernel_rfl) ?_ ?_
                    rotate_left
                    · intro w' hw; have cq := HCQ.out w' (HBB.out.trans (Below.mono hw HBB.out.size)); clear hw; go_simp; try with_reducible rfl
                    try simp only [Act.put, List.setIfInBounds_toArray, List.set_cons_zero, List.set_cons_succ]
                    refine org_pure (v := ?_) (by kernel_rfl) ?_ ?_
                    rotate_left
                    · intro w' hw; clear hw; go_simp; try with_reducible rfl
                    try simp only [Act.put, List.setIfInBounds_toArray, List.set_cons_zero, List.set_cons_succ]
                    refine org_pure (v := ?_) (by kernel_rfl) ?_ ?_
                    rotate_left
                    · intro w' hw; clear hw; go_simp; try with_reducible rfl
                    try simp only [Act.put, List.setIfInBounds_toArray, List.set_cons_zero, List.set_cons_succ]
                    refine org_pure (v := ?_) (by kernel_rfl) ?_ ?_
                    rotate_left
                    · intro w' hw; clear hw; go_simp; try with_reducible rfl
                    try simp only [Act.put, List.setIfInBounds_toArray, List.set_cons_zero, List.set_cons_succ]
                    refine org_pure (v := ?_) (by kernel_rfl) ?_ ?_
                    rotate_left
                    · intro w' hw; clear hw; go_simp; try with_reducible rfl
                    try simp only [Act.put, List.setIfInBounds_toArray, List.set_cons_zero, List.set_cons_succ]
                    refine org_nil ?_
                    go_wp2_with fail
                    go_roundw
                    case rel => exact ⟨n + 1, HNX.out.1, by go_num, HBB.out⟩
                    case measure => have := HNX.out.1; simp [intOf]; omega
                  · have k3 : ¬ ((i + n : Nat) : Int) < (P.length : Int) := by omega
                    clear hln
                    generalize i + n = s at *
                    go_wp2_with fail
                    go_ret
                    exact ⟨rfl, HB12.out.trans (HBB.out.mono HB12.out.size)⟩
              · have y3 : (((pi - a.length : Nat) : Int) == ((qk - b.length : Nat) : Int)) = false := by rw [beq_eq_false_iff_ne]; omega
                clear x1 x2 x3 HAI gp gq
                generalize pi - a.length = u at *
                generalize qk - b.length = v at *
                go_wp2_with fail
                try simp only [List.append_eq, List.cons_append, List.nil_append]
                refine wp_region_org ((List.range 33).map (·, true)) (by kernel_rfl) (by kernel_rfl) (by kernel_rfl) ?_
                replace HBB := Lib.hid HBB.out.drew
                generalize wr.drew = w13 at *
                simp only [List.range_succ, List.range_zero, List.nil_append, List.cons_append, List.map_cons, List.map_nil, pickOrs, List.getElem?_cons_zero, List.getElem?_cons_succ]
                refine org_pure (v := ?_) (by kernel_rfl) ?_ ?_
                rotate_left
                · intro w' hw; clear hw; go_simp; try with_reducible rfl
                try simp only [Act.put, List.setIfInBounds_toArray, List.set_cons_zero, List.set_cons_succ]
                refine org_pure (v := ?_) (by kernel_rfl) ?_ ?_
                rotate_left
                · intro w' hw; clear hw; go_simp; try with_reducible rfl
                try simp only [Act.put, List.setIfInBounds_toArray, List.set_cons_zero, List.set_cons_succ]
                refine org_pure (v := ?_) (by kernel_rfl) ?_ ?_
                rotate_left
                · intro w' hw; clear hw; go_simp; try with_reducible rfl
                try simp only [Act.put, List.setIfInBounds_toArray, List.set_cons_zero, List.set_cons_succ]
                refine org_pure (v := ?_) (by kernel_rfl) ?_ ?_
                rotate_left
                · intro w' hw; have cp := HCP.out w' (HBB.out.trans (Below.mono hw HBB.out.size)); clear hw; go_simp; try with_reducible rfl
                try simp only [Act.put, List.setIfInBounds_toArray, List.set_cons_zero, List.set_cons_succ]
                refine org_pure (v := ?_) (by kernel_rfl) ?_ ?_
                rotate_left
                · intro w' hw; clear hw; go_simp; try with_reducible rfl
                try simp only [Act.put, List.setIfInBounds_toArray, List.set_cons_zero, List.set_cons_succ]
                refine org_pure (v := ?_) (by kernel_rfl) ?_ ?_
                rotate_left
                · intro w' hw; clear hw; go_simp; try with_reducible rfl
                try simp only [Act.put, List.setIfInBounds_toArray, List.set_cons_zero, List.set_cons_succ]
                refine org_pure (v := ?_) (by kernel_rfl) ?_ ?_
                rotate_left
                · intro w' hw; clear hw; go_simp; try with_reducible rfl
                try simp only [Act.put, List.setIfInBounds_toArray, List.set_cons_zero, List.set_cons_succ]
                refine org_pure (v := ?_) (by kernel_rfl) ?_ ?_
                rotate_left
                · intro w' hw; clear hw; go_simp; try with_reducible rfl
                try simp only [Act.put, List.setIfInBounds_toArray, List.set_cons_zero, List.set_cons_succ]
                refine org_pure (v := ?_) (by kernel_rfl) ?_ ?_
                rotate_left
                · intro w' hw; clear hw; go_simp; try with_reducible rfl
                try simp only [Act.put, List.setIfInBounds_toArray, List.set_cons_zero, List.set_cons_succ]
                refine org_pure (v := ?_) (by kernel_rfl) ?_ ?_
                rotate_left
                · intro w' hw; clear hw; go_simp; try with_reducible rfl
                try simp only [Act.put, List.setIfInBounds_toArray, List.set_cons_zero, List.set_cons_succ]
                refine org_pure (v := ?_) (by kernel_rfl) ?_ ?_
                rotate_left
                · intro w' hw; clear hw; go_simp; try with_reducible rfl
                try simp only [Act.put, List.setIfInBounds_toArray, List.set_cons_zero, List.set_cons_succ]
                refine org_pure (v := ?_) (by kernel_rfl) ?_ ?_
                rotate_left
                · intro w' hw; have cq := HCQ.out w' (HBB.out.trans (Below.mono hw HBB.out.size)); clear hw; go_simp; try with_reducible rfl
                try simp only [Act.put, List.setIfInBounds_toArray, List.set_cons_zero, List.set_cons_succ]
                refine org_pure (v := ?_) (by kernel_rfl) ?_ ?_
                rotate_left
                · intro w' hw; clear hw; go_simp; try with_reducible rfl
                try simp only [Act.put, List.setIfInBounds_toArray, List.set_cons_zero, List.set_cons_succ]
                refine org_pure (v := ?_) (by kernel_rfl) ?_ ?_
                rotate_left
                · intro w' hw; clear hw; go_simp; try with_reducible rfl
                try simp only [Act.put, List.setIfInBounds_toArray, List.set_cons_zero, List.set_cons_succ]
                refine org_pure (v := ?_) (by kernel_rfl) ?_ ?_
                rotate_left
                · intro w' hw; clear hw; go_simp; try with_reducible rfl
                try simp only [Act.put, List.setIfInBounds_toArray, List.set_cons_zero, List.set_cons_succ]
                refine org_pure (v := ?_) (by kernel_rfl) ?_ ?_
                rotate_left
                · intro w' hw; clear hw; go_simp; try with_reducible rfl
                try simp only [Act.put, List.setIfInBounds_toArray, List.set_cons_zero, List.set_cons_succ]
                refine org_pure (v := ?_) (by kernel_rfl) ?_ ?_
                rotate_left
                · intro w' hw; clear hw; go_simp; try with_reducible rfl
                try simp only [Act.put, List.setIfInBounds_toArray, List.set_cons_zero, List.set_cons_succ]
                refine org_pure (v := ?_) (by kernel_rfl) ?_ ?_
                rotate_left
                · intro w' hw; clear hw; go_simp; try with_reducible rfl
                try simp only [Act.put, List.setIfInBounds_toArray, List.set_cons_zero, List.set_cons_succ]
                refine org_pure (v := ?_) (by kernel_rfl) ?_ ?_
                rotate_left
                · intro w' hw; clear hw; go_simp; try with_reducible rfl
                try simp only [Act.put, List.setIfInBounds_toArray, List.set_cons_zero, List.set_cons_succ]
                refine org_pure (v := ?_) (by kernel_rfl) ?_ ?_
                rotate_left
                · intro w' hw; clear hw; go_simp; try with_reducible rfl
                try simp only [Act.put, List.setIfInBounds_toArray, List.set_cons_zero, List.set_cons_succ]
                refine org_pure (v := ?_) (by kernel_rfl) ?_ ?_
                rotate_left
                · intro w' hw; have cp := HCP.out w' (HBB.out.trans (Below.mono hw HBB.out.size)); clear hw; go_simp; try with_reducible rfl
                try simp only [Act.put, List.setIfInBounds_toArray, List.set_cons_zero, List.set_cons_succ]
                refine org_pure (v := ?_) (by kernel_rfl) ?_ ?_
                rotate_left
                · intro w' hw; clear hw; go_simp; try with_reducible rfl
                try simp only [Act.put, List.setIfInBounds_toArray, List.set_cons_zero, List.set_cons_succ]
                refine org_pure (v := ?_) (by kernel_rfl) ?_ ?_
                rotate_left
                · intro w' hw; clear hw; go_simp; try with_reducible rfl
                try simp only [Act.put, List.setIfInBounds_toArray, List.set_cons_zero, List.set_cons_succ]
                refine org_pure (v := ?_) (by kernel_rfl) ?_ ?_
                rotate_left
                · intro w' hw; clear hw; go_simp; try with_reducible rfl
                try simp only [Act.put, List.setIfInBounds_toArray, List.set_cons_zero, List.set_cons_succ]
                refine org_pure (v := ?_) (by kernel_rfl) ?_ ?_
                rotate_left
                · intro w' hw; clear hw; go_simp; try with_reducible rfl
                try simp only [Act.put, List.setIfInBounds_toArray, List.set_cons_zero, List.set_cons_succ]
                refine org_pure (v := ?_) (by kernel_rfl) ?_ ?_
                rotate_left
                · intro w' hw; clear hw; go_simp; try with_reducible rfl
                try simp only [Act.put, List.setIfInBounds_toArray, List.set_cons_zero, List.set_cons_succ]
                refine org_pure (v := ?_) (by kernel_rfl) ?_ ?_
                rotate_left
                · intro w' hw; clear hw; go_simp; try with_reducible rfl
                try simp only [Act.put, List.setIfInBounds_toArray, List.set_cons_zero, List.set_cons_succ]
                refine org_pure (v := ?_) (by kernel_rfl) ?_ ?_
                rotate_left
                · intro w' hw; have cq := HCQ.out w' (HBB.out.trans (Below.mono hw HBB.out.size)); clear hw; go_simp; try with_reducible rfl
                try simp only [Act.put, List.setIfInBounds_toArray, List.set_cons_zero, List.set_cons_succ]
                refine org_pure (v := ?_) (by kernel_rfl) ?_ ?_
                rotate_left
                · intro w' hw; clear hw; go_simp; try with_reducible rfl
                try simp only [Act.put, List.setIfInBounds_toArray, List.set_cons_zero, List.set_cons_succ]
                refine org_pure (v := ?_) (by kernel_rfl) ?_ ?_
                rotate_left
                · intro w' hw; clear hw; go_simp; try with_reducible rfl
                try simp only [Act.put, List.setIfInBounds_toArray, List.set_cons_zero, List.set_cons_succ]
                refine org_pure (v := ?_) (by kernel_rfl) ?_ ?_
                rotate_left
                · intro w' hw; clear hw; go_simp; try with_reducible rfl
                try simp only [Act.put, List.setIfInBounds_toArray, List.set_cons_zero, List.set_cons_succ]
                refine org_pure (v := ?_) (by kernel_rfl) ?_ ?_
                rotate_left
                · intro w' hw; clear hw; go_simp; try with_reducible rfl
                try simp only [Act.put, List.setIfInBounds_toArray, List.set_cons_zero, List.set_cons_succ]
                refine org_pure (v := ?_) (by kernel_rfl) ?_ ?_
                rotate_left
                · intro w' hw; clear hw; go_simp; try with_reducible rfl
                try simp only [Act.put, List.setIfInBounds_toArray, List.set_cons_zero, List.set_cons_succ]
                refine org_nil ?_
                go_wp2_with fail
                go_roundw
                case rel => exact ⟨k + 1, by omega, by go_num, HBB.out⟩
                case measure => simp [intOf]; omega
            · have y2 : ¬ (b.length : Int) ≤ (qk : Int) := by omega
              have XN := Lib.hid x2
              clear x1 x2 HAI gp gq
              go_wp2_with fail
              try simp only [List.append_eq, List.cons_append, List.nil_append]
              refine wp_region_org ((List.range 33).map (·, true)) (by kernel_rfl) (by kernel_rfl) (by kernel_rfl) ?_
              replace HBB := Lib.hid HBB.out.drew
              generalize wr.drew = w13 at *
              simp only [List.range_succ, List.range_zero, List.nil_append, List.cons_append, List.map_cons, List.map_nil, pickOrs, List.getElem?_cons_zero, List.getElem?_cons_succ]
              refine org_pure (v := ?_) (by kernel_rfl) ?_ ?_
              rotate_left
              · intro w' hw; clear hw; go_simp; try with_reducible rfl
              try simp only [Act.put, List.setIfInBounds_toArray, List.set_cons_zero, List.set_cons_succ]
              refine org_pure (v := ?_) (by kernel_rfl) ?_ ?_
              rotate_left
              · intro w' hw; clear hw; go_simp; try with_reducible rfl
              try simp only [Act.put, List.setIfInBounds_toArray, List.set_cons_zero, List.set_cons_succ]
              refine org_pure (v := ?_) (by kernel_rfl) ?_ ?_
              rotate_left
              · intro w' hw; clear hw; go_simp; try with_reducible rfl
              try simp only [Act.put, List.setIfInBounds_toArray, List.set_cons_zero, List.set_cons_succ]
              refine org_pure (v := ?_) (by kernel_rfl) ?_ ?_
              rotate_left
              · intro w' hw; have cp := HCP.out w' (HBB.out.trans (Below.mono hw HBB.out.size)); clear hw; go_simp; try with_reducible rfl
              try simp only [Act.put, List.setIfInBounds_toArray, List.set_cons_zero, List.set_cons_succ]
              refine org_pure (v := ?_) (by kernel_rfl) ?_ ?_
              rotate_left
              · intro w' hw; clear hw; go_simp; try with_reducible rfl
              try simp only [Act.put, List.setIfInBounds_toArray, List.set_cons_zero, List.set_cons_succ]
              refine org_pure (v := ?_) (by kernel_rfl) ?_ ?_
              rotate_left
              · intro w' hw; clear hw; go_simp; try with_reducible rfl
              try simp only [Act.put, List.setIfInBounds_toArray, List.set_cons_zero, List.set_cons_succ]
              refine org_pure (v := ?_) (by kernel_rfl) ?_ ?_
              rotate_left
              · intro w' hw; clear hw; go_simp; try with_reducible rfl
              try simp only [Act.put, List.setIfInBounds_toArray, List.set_cons_zero, List.set_cons_succ]
              refine org_pure (v := ?_) (by kernel_rfl) ?_ ?_
              rotate_left
              · intro w' hw; clear hw; go_simp; try with_reducible rfl
              try simp only [Act.put, List.setIfInBounds_toArray, List.set_cons_zero, List.set_cons_succ]
              refine org_pure (v := ?_) (by kernel_rfl) ?_ ?_
              rotate_left
              · intro w' hw; clear hw; go_simp; try with_reducible rfl
              try simp only [Act.put, List.setIfInBounds_toArray, List.set_cons_zero, List.set_cons_succ]
              refine org_pure (v := ?_) (by kernel_rfl) ?_ ?_
              rotate_left
              · intro w' hw; clear hw; go_simp; try with_reducible rfl
              try simp only [Act.put, List.setIfInBounds_toArray, List.set_cons_zero, List.set_cons_succ]
              refine org_pure (v := ?_) (by kernel_rfl) ?_ ?_
              rotate_left
              · intro w' hw; clear hw; go_simp; try with_reducible rfl
              try simp only [Act.put, List.setIfInBounds_toArray, List.set_cons_zero, List.set_cons_succ]
              refine org_pure (v := ?_) (by kernel_rfl) ?_ ?_
              rotate_left
              · intro w' hw; have cq := HCQ.out w' (HBB.out.trans (Below.mono hw HBB.out.size)); clear hw; go_simp; try with_reducible rfl
              try simp only [Act.put, List.setIfInBounds_toArray, List.set_cons_zero, List.set_cons_succ]
              refine org_pure (v := ?_) (by kernel_rfl) ?_ ?_
              rotate_left
              · intro w' hw; clear hw; go_simp; try with_reducible rfl
              try simp only [Act.put, List.setIfInBounds_toArray, List.set_cons_zero, List.set_cons_succ]
              refine org_pure (v := ?_) (by kernel_rfl) ?_ ?_
              rotate_left
              · intro w' hw; clear hw; go_simp; try with_reducible rfl
              try simp only [Act.put, List.setIfInBounds_toArray, List.set_cons_zero, List.set_cons_succ]
              refine org_pure (v := ?_) (by kernel_rfl) ?_ ?_
              rotate_left
              · intro w' hw; have y9 := XN.out; clear hw; go_simp; try with_reducible rfl
              try simp only [Act.put, List.setIfInBounds_toArray, List.set_cons_zero, List.set_cons_succ]
              refine org_pure (v := ?_) (by kernel_rfl) ?_ ?_
              rotate_left
              · intro w' hw; clear hw; go_simp; try with_reducible rfl
              try simp only [Act.put, List.setIfInBounds_toArray, List.set_cons_zero, List.set_cons_succ]
              refine org_pure (v := ?_) (by kernel_rfl) ?_ ?_
              rotate_left
              · intro w' hw; clear hw; go_simp; try with_reducible rfl
              try simp only [Act.put, List.setIfInBounds_toArray, List.set_cons_zero, List.set_cons_succ]
              refine org_skip (by kernel_rfl) ?_
              try simp only [Act.put, List.setIfInBounds_toArray, List.set_cons_zero, List.set_cons_succ]
              refine org_skip (by kernel_rfl) ?_
              try simp only [Act.put, List.setIfInBounds_toArray, List.set_cons_zero, List.set_cons_succ]
              refine org_skip (by kernel_rfl) ?_
              try simp only [Act.put, List.setIfInBounds_toArray, List.set_cons_zero, List.set_cons_succ]
              refine org_skip (by kernel_rfl) ?_
              try simp only [Act.put, List.setIfInBounds_toArray, List.set_cons_zero, List.set_cons_succ]
              refine org_skip (by kernel_rfl) ?_
              try simp only [Act.put, List.setIfInBounds_toArray, List.set_cons_zero, List.set_cons_succ]
              refine org_skip (by kernel_rfl) ?_
              try simp only [Act.put, List.setIfInBounds_toArray, List.set_cons_zero, List.set_cons_succ]
              refine org_skip (by kernel_rfl) ?_
              try simp only [Act.put, List.setIfInBounds_toArray, List.set_cons_zero, List.set_cons_succ]
              refine org_skip (by kernel_rfl) ?_
              try simp only [Act.put, List.setIfInBounds_toArray, List.set_cons_zero, List.set_cons_succ]
              refine org_skip (by kernel_rfl) ?_
              try simp only [Act.put, List.setIfInBounds_toArray, List.set_cons_zero, List.set_cons_succ]
              refine org_skip (by kernel_rfl) ?_
              try simp only [Act.put, List.setIfInBounds_toArray, List.set_cons_zero, List.set_cons_succ]
              refine org_skip (by kernel_rfl) ?_
              try simp only [Act.put, List.setIfInBounds_toArray, List.set_cons_zero, List.set_cons_succ]
              refine org_skip (by kernel_rfl) ?_
              try simp only [Act.put, List.setIfInBounds_toArray, List.set_cons_zero, List.set_cons_succ]
              refine org_skip (by kernel_rfl) ?_
              try simp only [Act.put, List.setIfInBounds_toArray, List.set_cons_zero, List.set_cons_succ]
              refine org_skip (by kernel_rfl) ?_
              try simp only [Act.put, List.setIfInBounds_toArray, List.set_cons_zero, List.set_cons_succ]
              refine org_skip (by kernel_rfl) ?_
              try simp only [Act.put, List.setIfInBounds_toArray, List.set_cons_zero, List.set_cons_succ]
              refine org_pure (v := ?_) (by kernel_rfl) ?_ ?_
              rotate_left
              · intro w' hw; clear hw; go_simp; try with_reducible rfl
              try simp only [Act.put, List.setIfInBounds_toArray, List.set_cons_zero, List.set_cons_succ]
              refine org_nil ?_
              go_wp2_with fail
              go_roundw
              case rel => exact ⟨k + 1, by omega, by go_num, HBB.out⟩
              case measure => simp [intOf]; omega
          · have y1 : ¬ (a.length : Int) ≤ (pi : Int) := by omega
            have XN := Lib.hid x1
            clear x1 HAI gp gq
            go_wp2_with fail
            try simp only [List.append_eq, List.cons_append, List.nil_append]
            refine wp_region_org ((List.range 33).map (·, true)) (by kernel_rfl) (by kernel_rfl) (by kernel_rfl) ?_
            replace HBB := Lib.hid HBB.out.drew
            generalize wr.drew = w13 at *
            simp only [List.range_succ, List.range_zero, List.nil_append, List.cons_append, List.map_cons, List.map_nil, pickOrs, List.getElem?_cons_zero, List.getElem?_cons_succ]
            refine org_pure (v := ?_) (by kernel_rfl) ?_ ?_
            rotate_left
            · intro w' hw; clear hw; go_simp; try with_reducible rfl
            try simp only [Act.put, List.setIfInBounds_toArray, List.set_cons_zero, List.set_cons_succ]
            refine org_pure (v := ?_) (by kernel_rfl) ?_ ?_
            rotate_left
            · intro w' hw; clear hw; go_simp; try with_reducible rfl
            try simp only [Act.put, List.setIfInBounds_toArray, List.set_cons_zero, List.set_cons_succ]
            refine org_pure (v := ?_) (by kernel_rfl) ?_ ?_
            rotate_left
            · intro w' hw; clear hw; go_simp; try with_reducible rfl
            try simp only [Act.put, List.setIfInBounds_toArray, List.set_cons_zero, List.set_cons_succ]
            refine org_pure (v := ?_) (by kernel_rfl) ?_ ?_
            rotate_left
            · intro w' hw; have cp := HCP.out w' (HBB.out.trans (Below.mono hw HBB.out.size)); clear hw; go_simp; try with_reducible rfl
            try simp only [Act.put, List.setIfInBounds_toArray, List.set_cons_zero, List.set_cons_succ]
            refine org_pure (v := ?_) (by kernel_rfl) ?_ ?_
            rotate_left
            · intro w' hw; clear hw; go_simp; try with_reducible rfl
            try simp only [Act.put, List.setIfInBounds_toArray, List.set_cons_zero, List.set_cons_succ]
            refine org_pure (v := ?_) (by kernel_rfl) ?_ ?_
            rotate_left
            · intro w' hw; clear hw; go_simp; try with_reducible rfl
            try simp only [Act.put, List.setIfInBounds_toArray, List.set_cons_zero, List.set_cons_succ]
            refine org_pure (v := ?_) (by kernel_rfl) ?_ ?_
            rotate_left
            · intro w' hw; have y9 := XN.out; clear hw; go_simp; try with_reducible rfl
            try simp only [Act.put, List.setIfInBounds_toArray, List.set_cons_zero, List.set_cons_succ]
            refine org_pure (v := ?_) (by kernel_rfl) ?_ ?_
            rotate_left
            · intro w' hw; clear hw; go_simp; try with_reducible rfl
            try simp only [Act.put, List.setIfInBounds_toArray, List.set_cons_zero, List.set_cons_succ]
            refine org_skip (by kernel_rfl) ?_
            try simp only [Act.put, List.setIfInBounds_toArray, List.set_cons_zero, List.set_cons_succ]
            refine org_skip (by kernel_rfl) ?_
            try simp only [Act.put, List.setIfInBounds_toArray, List.set_cons_zero, List.set_cons_succ]
            refine org_skip (by kernel_rfl) ?_
            try simp only [Act.put, List.setIfInBounds_toArray, List.set_cons_zero, List.set_cons_succ]
            refine org_skip (by kernel_rfl) ?_
            try simp only [Act.put, List.setIfInBounds_toArray, List.set_cons_zero, List.set_cons_succ]
            refine org_skip (by kernel_rfl) ?_
            try simp only [Act.put, List.setIfInBounds_toArray, List.set_cons_zero, List.set_cons_succ]
            refine org_skip (by kernel_rfl) ?_
            try simp only [Act.put, List.setIfInBounds_toArray, List.set_cons_zero, List.set_cons_succ]
            refine org_skip (by kernel_rfl) ?_
            try simp only [Act.put, List.setIfInBounds_toArray, List.set_cons_zero, List.set_cons_succ]
            refine org_pure (v := ?_) (by kernel_rfl) ?_ ?_
            rotate_left
            · intro w' hw; clear hw; go_simp; try with_reducible rfl
            try simp only [Act.put, List.setIfInBounds_toArray, List.set_cons_zero, List.set_cons_succ]
            refine org_pure (v := ?_) (by kernel_rfl) ?_ ?_
            rotate_left
            · intro w' hw; clear hw; go_simp; try with_reducible rfl
            try simp only [Act.put, List.setIfInBounds_toArray, List.set_cons_zero, List.set_cons_succ]
            refine org_skip (by kernel_rfl) ?_
            try simp only [Act.put, List.setIfInBounds_toArray, List.set_cons_zero, List.set_cons_succ]
            refine org_skip (by kernel_rfl) ?_
            try simp only [Act.put, List.setIfInBounds_toArray, List.set_cons_zero, List.set_cons_succ]
            refine org_skip (by kernel_rfl) ?_
            try simp only [Act.put, List.setIfInBounds_toArray, List.set_cons_zero, List.set_cons_succ]
            refine org_skip (by kernel_rfl) ?_
            try simp only [Act.put, List.setIfInBounds_toArray, List.set_cons_zero, List.set_cons_succ]
            refine org_skip (by kernel_rfl) ?_
            try simp only [Act.put, List.setIfInBounds_toArray, List.set_cons_zero, List.set_cons_succ]
            refine org_skip (by kernel_rfl) ?_
            try simp only [Act.put, List.setIfInBounds_toArray, List.set_cons_zero, List.set_cons_succ]
            refine org_skip (by kernel_rfl) ?_
            try simp only [Act.put, List.setIfInBounds_toArray, List.set_cons_zero, List.set_cons_succ]
            refine org_skip (by kernel_rfl) ?_
            try simp only [Act.put, List.setIfInBounds_toArray, List.set_cons_zero, List.set_cons_succ]
            refine org_skip (by kernel_rfl) ?_
            try simp only [Act.put, List.setIfInBounds_toArray, List.set_cons_zero, List.set_cons_succ]
            refine org_skip (by kernel_rfl) ?_
            try simp only [Act.put, List.setIfInBounds_toArray, List.set_cons_zero, List.set_cons_succ]
            refine org_skip (by kernel_rfl) ?_
            try simp only [Act.put, List.setIfInBounds_toArray, List.set_cons_zero, List.set_cons_succ]
            refine org_skip (by kernel_rfl) ?_
            try simp only [Act.put, List.setIfInBounds_toArray, List.set_cons_zero, List.set_cons_succ]
            refine org_skip (by kernel_rfl) ?_
            try simp only [Act.put, List.setIfInBounds_toArray, List.set_cons_zero, List.set_cons_succ]
            refine org_skip (by kernel_rfl) ?_
            try simp only [Act.put, List.setIfInBounds_toArray, List.set_cons_zero, List.set_cons_succ]
            refine org_skip (by kernel_rfl) ?_
            try simp only [Act.put, List.setIfInBounds_toArray, List.set_cons_zero, List.set_cons_succ]
            refine org_pure (v := ?_) (by kernel_rfl) ?_ ?_
            rotate_left
            · intro w' hw; clear hw; go_simp; try with_reducible rfl
            try simp only [Act.put, List.setIfInBounds_toArray, List.set_cons_zero, List.set_cons_succ]
            refine org_nil ?_
            go_wp2_with fail
            go_roundw
            case rel => exact ⟨k + 1, by omega, by go_num, HBB.out⟩
            case measure => simp [intOf]; omega
        · have hkl : k = Q.length := by omega
          have k3 : ¬ (k : Int) < (Q.length : Int) := by omega
          clear hlk
          go_wp2_with fail
          go_roundw
          case rel => exact ⟨i + 1, by omega, by go_num, HBB.out⟩
          case measure => simp [intOf]; omega
    · have hil : i = P.length := by omega
      have k3 : ¬ (i : Int) < (P.length : Int) := by omega
      have HB1 := Lib.hid hB
      clear hlt hB
      go_wp2_with fail
      go_ret
      exact ⟨rfl, HB12.out.trans (HB1.out.mono HB12.out.size)⟩
theorem again_any (m x d k t : Int) (hk : 0 ≤ k ∧ k ≤ 18446744073709551615) (ht : 0 ≤ t ∧ t ≤ 18446744073709551615) (a b e : List (BitVec 8)) (qa : Option Addr) (ca : Nat) (qb : Option Addr) (cb : Nat) (qe : Option Addr) (ce : Nat) (w : World)
    (hqa : qa = none → ca = 0) (hsa : Sees w w.heap.size qa (a.map u8v)) (hqb : qb = none → cb = 0) (hsb : Sees w w.heap.size qb (b.map u8v)) (hqe : qe = none → ce = 0) (hse : Sees w w.heap.size qe (e.map u8v)) :
    Calls Try.prog 6 #[ruleV m x d k t, .slice qa a.length ca, .slice qb b.length cb, .slice qe e.length ce] w fun e w' => e = .returned (.bool true) ∧ Below w.heap.size w w' := by
  cases hok : okI m x d with
  | false => exact again_bad m x d k t hok a b e qa ca qb cb qe ce w
  | true =>
    by_cases h1 : 300 < a.length
    · exact again_longa m x d k t hok a b e qa ca qb cb qe ce h1 w
    · by_cases h2 : 300 < b.length
      · exact again_longb m x d k t hok a b e qa ca qb cb qe ce h1 h2 w
      · by_cases h3 : 300 < e.length
        · exact again_longe m x d k t hok a b e qa ca qb cb qe ce h1 h2 h3 w
        · obtain ⟨r, hr, h⟩ := rule_nat m x d k t hk ht hok
          rw [h]
          exact again_main r hr a b e qa ca qb cb qe ce (by omega) (by omega) (by omega) w hqa hsa hqb hsb hqe hse
end Go.Proofs.Ytkfelfcmpabjoaa
