/- Package set's Of over a value that reads as these sums. Condition: at most 10^4 sums. -/
import Derived.Test.YtnkcehmgagpadaaDoorGp9
import Derived.Test.YtnkcehmgagpadaaDoorGp3
import Derived.Test.YtnkcehmgagpadaaDoorSq
import Derived.Test.YtnkcehmgagpadaaDoorGp4
import Derived.Test.YtnkcehmgagpadaaDoorGp11
import Derived.Test.YtnkcehmgagpadaaDoorGp10
namespace Go.Proofs.YtnkcehmgagpadaaDoor
open Go.RowKit
theorem us_of {v0 : Value} {A : List Su} {w : World} (h : Us w v0 A) (hn : A.length ≤ 10000) : Calls Tryd.prog 30 #[v0] w fun e w' => (∃ v, e = .returned v ∧ Us w' v (srt A)) ∧ Below w.heap.size w w' := by
  obtain ⟨q, c, rfl, h2, h3, h4⟩ := h
  refine Calls.mono (setOf_any A q c (by omega) w h4) ?_
  rintro e w' ⟨⟨v, rfl, h5⟩, h6⟩
  exact ⟨⟨v, rfl, OwnU.us h5⟩, h6⟩
end Go.Proofs.YtnkcehmgagpadaaDoor
/- Contract: package table's Of. Conditions: the sums' tables are laid; a seed of 64 bits; at most 10^4 sums. -/
namespace Go.Proofs.YtnkcehmgagpadaaDoor
open Go.RowKit
theorem newT_t (s : Nat) (n : Int) (m : Nat) (hg : goodN n = true) (hm : n = m) (w : World) (b : Nat) (hb : b ≤ w.heap.size) : Calls Tryd.prog 10 #[.int .u64 (s : Int), .int .i64 n] w fun e w' => (∃ v, e = .returned v ∧ ∃ x, v = .tuple #[.agg #[.int .u64 (s : Int), x], .int .i64 0] ∧ RowO b 47 w' x (List.replicate m zC)) ∧ Below w.heap.size w w' := by
 have e : newT s n = (s, List.replicate m zC, 0) := by unfold newT; rw [if_pos hg, hm]; rfl
 refine Calls.mono (newT_any s n w) fun e' w' ⟨⟨v, h1, x, h2, h3⟩, h4⟩ => ?_
 rw [e] at h2 h3
 exact ⟨⟨v, h1, x, h2, h3.less hb⟩, h4⟩
theorem newT_f (s : Nat) (n : Int) (hg : goodN n = false) (w : World) (b : Nat) (hb : b ≤ w.heap.size) : Calls Tryd.prog 10 #[.int .u64 (s : Int), .int .i64 n] w fun e w' => (∃ v, e = .returned v ∧ ∃ x, v = .tuple #[.agg #[.int .u64 0, x], .int .i64 1] ∧ RowO b 47 w' x []) ∧ Below w.heap.size w w' := by
 have e : newT s n = (0, [], 1) := by unfold newT; rw [hg]; rfl
 refine Calls.mono (newT_any s n w) fun e' w' ⟨⟨v, h1, x, h2, h3⟩, h4⟩ => ?_
 rw [e] at h2 h3
 exact ⟨⟨v, h1, x, h2, h3.less hb⟩, h4⟩
theorem setOf_in {v0 : Value} {A : List Su} {w : World} (h : Us w v0 A) (hn : A.length ≤ 10000) (b : Nat) (hb : b ≤ w.heap.size) : Calls Tryd.prog 30 #[v0] w fun e w' => (∃ v, e = .returned v ∧ ∃ x, v = x ∧ RowS b w' x (srt A)) ∧ Below w.heap.size w w' := by
 obtain ⟨q, c, rfl, h2, h3, h4⟩ := h
 refine Calls.mono (setOf_any A q c (by omega) w h4) ?_
 rintro e w' ⟨⟨v, rfl, h5⟩, h6⟩
 exact ⟨⟨v, rfl, v, rfl, OwnU.less h5 hb⟩, h6⟩
def waitTofb1 (i : Nat) : List Nat := ([[], [], [0, 1], [2], [3], [3], [], [0, 1, 2, 3, 4, 5, 6], [0, 1, 2, 3, 4, 5, 6, 7]] : List (List Nat)).getD i []
def slotsTofb1 : List (Nat × Nat) := [(13, 0), (14, 1), (15, 2), (12, 3), (16, 4), (17, 5), (8, 6), (9, 8)]
theorem sbTofb1 : slotsB slotsTofb1 = true := by kernel_rfl
theorem chkTofb1 : flwO slotsTofb1 waitTofb1 7 (regOf Tryd.f11.body 1) = true := by kernel_rfl
def waitTofb2 (i : Nat) : List Nat := ([[], [0]] : List (List Nat)).getD i []
def slotsTofb2 : List (Nat × Nat) := [(18, 0), (19, 1)]
theorem sbTofb2 : slotsB slotsTofb2 = true := by kernel_rfl
theorem chkTofb2 : flwO slotsTofb2 waitTofb2 2 (regOf Tryd.f11.body 2) = true := by kernel_rfl
def waitTofb3 (i : Nat) : List Nat := ([[], [], [0, 1], [0, 1, 2]] : List (List Nat)).getD i []
def slotsTofb3 : List (Nat × Nat) := [(20, 0), (21, 1), (7, 3)]
theorem chkTofb3 : flwO slotsTofb3 waitTofb3 2 (regOf Tryd.f11.body 3) = true := by kernel_rfl
def waitTofg4 (i : Nat) : List Nat := ([[], [0], [1], []] : List (List Nat)).getD i []
def slotsTofg4 : List (Nat × Nat) := [(22, 0), (23, 1), (24, 2), (25, 3)]
theorem sbTofg4 : slotsB slotsTofg4 = true := by kernel_rfl
theorem chkTofg4 : flwO slotsTofg4 waitTofg4 4 (regOf Tryd.f11.body 4) = true := by kernel_rfl
def waitTofl6 (i : Nat) : List Nat := ([[], [0], [], [0, 1, 2]] : List (List Nat)).getD i []
def slotsTofl6 : List (Nat × Nat) := [(27, 0), (28, 1), (11, 2)]
theorem sbTofl6 : slotsB slotsTofl6 = true := by kernel_rfl
theorem chkTofl6 : flwO slotsTofl6 waitTofl6 3 (regOf Tryd.f11.body 6) = true := by kernel_rfl
def waitTofl7 (i : Nat) : List Nat := ([[], [], [0, 1]] : List (List Nat)).getD i []
def slotsTofl7 : List (Nat × Nat) := [(29, 0), (30, 1), (31, 2)]
theorem chkTofl7 : flwO slotsTofl7 waitTofl7 2 (regOf Tryd.f11.body 7) = true := by kernel_rfl
def waitTofe9 (i : Nat) : List Nat := ([[], [0], [0, 1]] : List (List Nat)).getD i []
def slotsTofe9 : List (Nat × Nat) := [(33, 0), (7, 2)]
theorem chkTofe9 : flwO slotsTofe9 waitTofe9 1 (regOf Tryd.f11.body 9) = true := by kernel_rfl
set_option maxHeartbeats 16000000 in
set_option maxRecDepth 100000 in
theorem ofTO_b (s : Nat) (n : Int) (v : Value) (A : List Su) (w w0 : World) (hB : Below w.heap.size w w0) (hs : s < 18446744073709551616) (hL : Laid w) (hn : A.length ≤ 10000) (hU : Us w v A) : Calls Tryd.prog 11 #[.int .u64 (s : Int), .int .i64 n, v] w0 fun e w' => (∃ v, e = .returned v ∧ ∃ x, v = .tuple #[.agg #[.int .u64 ((ofT s n A).1 : Int), x], .int .i64 (ofT s n A).2.2] ∧ RowO w.heap.size 47 w' x (ofT s n A).2.1) ∧ Below w.heap.size w w' := by
 have HOF : Hid (ofT s n A = if goodN n = true then (s, layA putC s (srt A) (List.replicate n.toNat zC), 0) else (0, [], 1)) := Lib.hid rfl
 go_enter Tryd.func11, Tryd.ntmps11
 have HB := Lib.hid hB
 clear hB
 have HU := Lib.hid hU
 have HL := Lib.hid hL
 have HSZ := Lib.hid hL.size
 have HSD := Lib.hid hs
 have HNA := Lib.hid hn
 clear hU hL hs hn
 go_upto_region 0 with fail
 refine wp_region_lit ?_
 try simp only [Act.put, List.setIfInBounds_toArray, List.set_cons_zero, List.set_cons_succ]
 refine lp_step rfl (fun K hK => wp_alloc_row 28 rfl (.agg #[.int .u64 0, .slice none 0 0]) (fun w => by kernel_rfl) (hK _ _ ?_))
 try simp only [Act.put, List.setIfInBounds_toArray, List.set_cons_zero, List.set_cons_succ]
 show wpList _ _ _ _ _ (w0.alloc (.cells (([.int .u64 0, .slice none 0 0] : List Value)).toArray 28))
 have HST : Hid (Below w0.heap.size w0 (w0.alloc (.cells (([.int .u64 0, .slice none 0 0] : List Value)).toArray 28))) := Lib.hid ((Below.refl _ _).alloc (Nat.le_refl _) _)
 have HX1 : Hid (Has (w0.alloc (.cells (([.int .u64 0, .slice none 0 0] : List Value)).toArray 28)) w0.heap.size 28 ([.int .u64 0, .slice none 0 0])) := Lib.hid (Has.made' _ _ _ _ rfl)
 have HGg1 : Hid (w.heap.size ≤ w0.heap.size) := Lib.hid HB.out.size
 replace HB := Lib.hid (HB.out.trans (HST.out.mono HB.out.size))
 clear HST
 generalize w0.alloc (.cells (([.int .u64 0, .slice none 0 0] : List Value)).toArray 28) = w1 at *
 generalize w0.heap.size = g1 at *
 refine lp_pure (v := .int .i64 0) rfl (ex_assign _ rfl rfl) ?_
 try simp only [Act.put, List.setIfInBounds_toArray, List.set_cons_zero, List.set_cons_succ]
 refine wpList_nil ?_
 obtain ⟨y1, hy1⟩ : ∃ z, z = w1 := ⟨_, rfl⟩
 subst hy1
 obtain ⟨gd, hgd⟩ : ∃ gd, goodN n = gd := ⟨_, rfl⟩
 have HGD := Lib.hid hgd
 clear hgd
 cases gd
 ·go_upto_region 1 with fail
  refine wp_act (fun a0 ha0 => ?_)
  have zsz : a0.tmps.size = 34 := by rw [ha0]; rfl
  have z0 : a0.eval (.tmp 0) = .int .u64 (s : Int) := by rw [ha0]; rfl
  have z1 : a0.eval (.tmp 1) = .int .i64 n := by rw [ha0]; rfl
  refine wrO [] slotsTofb1 waitTofb1 [Fct.val Flz 0 (.int .u64 (s : Int)), Fct.val Flz 1 (.int .i64 n), Fct.obj 2 (fun v w => ∃ zz, v = .tuple #[.agg #[.int .u64 0, zz], .int .i64 1] ∧ RowO y1.heap.size 47 w zz (([] : List Ce))) (fun _ _ _ ⟨zz, a, b⟩ he => ⟨zz, a, b.flz he⟩), Fct.obj 3 (fun v w => ∃ zz, v = .tuple #[.agg #[.int .u64 0, zz], .int .i64 1] ∧ RowO y1.heap.size 47 w zz (([] : List Ce))) (fun _ _ _ ⟨zz, a, b⟩ he => ⟨zz, a, b.flz he⟩), Fct.obj 4 (fun v w => ∃ zz, v = .agg #[.int .u64 0, zz] ∧ RowO y1.heap.size 47 w zz (([] : List Ce))) (fun _ _ _ ⟨zz, a, b⟩ he => ⟨zz, a, b.flz he⟩), Fct.val Flz 5 (.int .i64 1), Fct.obj 6 (fun v w => ∃ g, v = .pointer (some ⟨g, 0, none⟩) ∧ y1.heap.size ≤ g ∧ Has w g 28 ([.int .u64 0, .slice none 0 0])) (fun _ _ _ ⟨g, a, b, c⟩ he => ⟨g, a, b, c.flz he (by decide)⟩)] (fun w' => Below y1.heap.size y1 w') _ 7 2 chkTofb1 (by kernel_rfl) (by kernel_rfl) (by kernel_rfl) (by decide) (Below.refl _ _) ?_ ?_
  ·refine lt_s (lt_s (lt_s (lt_s (lt_s (lt_s (lt_s (lt_0) ?_) ?_) ?_) ?_) ?_) ?_) ?_
   ·intro f w1 hS hf aA hA
    have r0 := qO 0 hA z0
    exact fV rfl rfl _ (ex_move (.tmp 0) rfl r0) hS uS
   ·intro f w1 hS hf aA hA
    have r1 := qO 1 hA z1
    exact fV rfl rfl _ (ex_move (.tmp 1) rfl r1) hS uS
   ·intro f w1 hS hf aA hA
    have r13 := qA 13 0 hA sbTofb1 zsz (hf 0 (by decide))
    have r14 := qA 14 1 hA sbTofb1 zsz (hf 1 (by decide))
    exact fC rfl rfl 10 #[(.tmp 13), (.tmp 14)] _ rfl #[.int .u64 (s : Int), .int .i64 n] (mp2 r13 r14) (fun w => by kernel_rfl) _ (newT_f s n HGD.out w1 y1.heap.size hS.size) hS (fun _ _ ⟨zz, a, b⟩ => ⟨zz, uS.trans a, b⟩)
   ·intro f w1 hS hf aA hA
    obtain ⟨x15, hx15, hr15⟩ := hf 2 (by decide)
    have e15 := pA 15 2 hA sbTofb1 (by kernel_rfl) zsz rfl hx15
    exact flw_val rfl rfl (.tuple #[.agg #[.int .u64 0, x15], .int .i64 1]) (ex_move (.tmp 15) rfl e15) hS (Flz.refl _) ⟨x15, uS, hr15⟩
   ·intro f w1 hS hf aA hA
    obtain ⟨x12, hx12, hr12⟩ := hf 3 (by decide)
    have e12 := pA 12 3 hA sbTofb1 (by kernel_rfl) zsz rfl hx12
    exact flw_val rfl rfl (.agg #[.int .u64 0, x12]) (ex_extract (.tmp 12) 0 rfl e12 rfl) hS (Flz.refl _) ⟨x12, uS, hr12⟩
   ·intro f w1 hS hf aA hA
    obtain ⟨x12, hx12, hr12⟩ := hf 3 (by decide)
    have e12 := pA 12 3 hA sbTofb1 (by kernel_rfl) zsz rfl hx12
    exact fV rfl rfl _ (ex_extract (.tmp 12) 1 rfl e12 rfl) hS uS
   ·intro f w1 hS hf aA hA
    exact flw_wp rfl rfl (fun K hK => wp_alloc_row 28 rfl (.agg #[.int .u64 0, .slice none 0 0]) (fun w => by kernel_rfl) (hK _ _ (hS.alloc hS.size _) (Flz.al _ _) ⟨_, uS, hS.size, Has.made' _ _ _ _ rfl⟩))
  intro f u1 hS hf hap
  have h0 := eqL (hf 0 (by decide)) rfl
  have h1 := eqL (hf 1 (by decide)) rfl
  obtain ⟨v1_2, h2, -⟩ := hf 2 (by decide)
  obtain ⟨v1_3, h3, -⟩ := hf 3 (by decide)
  obtain ⟨v1_4, h4, hu4⟩ := hf 4 (by decide)
  have HU1_4 := Lib.hid hu4
  clear hu4
  have h5 := eqL (hf 5 (by decide)) rfl
  obtain ⟨b1_6, h6, hgb6, hhb6⟩ := hf 6 (by decide)
  clear hf hap
  clear zsz z0 z1
  subst ha0
  simp only [slotsTofb1, putAll, h0, h1, h2, h3, h4, h5, h6, Act.put, List.setIfInBounds_toArray, List.set_cons_zero, List.set_cons_succ]
  clear h0 h1 h2 h3 h4 h5 h6
  refine tl_store rfl (by kernel_rfl) 28 (.tmp 8) (.tmp 16) rfl b1_6 ([.int .u64 0, v1_4]) _ rfl rfl _ hhb6 (by kernel_rfl) rfl (tb_ones _ HU1_4.out.one) ?_
  intro u2 hp6 hbl hot
  replace hS := hS.trans (hbl _ hgb6)
  replace HU1_4 := Lib.hid (HU1_4.out.hotb hhb6 ⟨_, _, _, rfl⟩ (by decide) (hbl 0 (Nat.zero_le _)).size hot)
  clear hbl hot hhb6
  try simp only [Act.put]
  refine tl_pure rfl (by kernel_rfl) (.int .i64 1) (ex_assign (.tmp 17) rfl rfl) ?_
  try simp only [Act.put, List.setIfInBounds_toArray, List.set_cons_zero, List.set_cons_succ]
  refine tl_nil ?_
  replace HX1 := Lib.hid (HX1.out.keepB hS)
  have HBW := Lib.hid HB.out.size
  replace HB := Lib.hid (HB.out.trans (hS.mono HB.out.size))
  clear hS
  have HGb1_6 : Hid (w.heap.size ≤ b1_6) := Lib.hid (Nat.le_trans HBW.out hgb6)
  have HX_b1_6 : Hid (Has u2 b1_6 28 ([.int .u64 0, v1_4])) := Lib.hid hp6
  clear hp6 hgb6
  clear HBW
  go_upto_region 2 with fail
  refine wp_act (fun a0 ha0 => ?_)
  have zsz : a0.tmps.size = 34 := by rw [ha0]; rfl
  have z9 : a0.eval (.tmp 9) = .int .i64 1 := by rw [ha0]; rfl
  refine wrO [] slotsTofb2 waitTofb2 [Fct.val Flz 0 (.int .i64 1), Fct.val Flz 1 (.bool true)] (fun w' => Below u2.heap.size u2 w') _ 2 0 chkTofb2 (by kernel_rfl) (by kernel_rfl) (by kernel_rfl) (by decide) (Below.refl _ _) ?_ ?_
  ·refine lt_s (lt_s (lt_0) ?_) ?_
   ·intro f w1 hS hf aA hA
    have r9 := qO 9 hA z9
    exact fV rfl rfl _ (ex_move (.tmp 9) rfl r9) hS uS
   ·intro f w1 hS hf aA hA
    have r18 := qA 18 0 hA sbTofb2 zsz (hf 0 (by decide))
    exact fV rfl rfl _ (Eq.trans (ex_int .neq _ _ (.tmp 18) _ rfl .i64 1 0 r18 rfl (.bool ((1 : Int) != (0 : Int))) (fun _ => rfl)) (by rw [(by decide : ((1 : Int) != (0 : Int)) = true)])) hS uS
  intro f u3 hS hf hap
  have h0 := eqL (hf 0 (by decide)) rfl
  have h1 := eqL (hf 1 (by decide)) rfl
  clear hf hap
  clear zsz z9
  subst ha0
  simp only [slotsTofb2, putAll, h0, h1, Act.put, List.setIfInBounds_toArray, List.set_cons_zero, List.set_cons_succ]
  clear h0 h1
  refine tl_nil ?_
  replace HX1 := Lib.hid (HX1.out.keepB hS)
  replace HB := Lib.hid (HB.out.trans (hS.mono HB.out.size))
  clear hS
  go_upto_region 3 with fail
  refine wp_act (fun a0 ha0 => ?_)
  have zsz : a0.tmps.size = 34 := by rw [ha0]; rfl
  have z9 : a0.eval (.tmp 9) = .int .i64 1 := by rw [ha0]; rfl
  refine wrO [] slotsTofb3 waitTofb3 [Fct.val Flz 0 (.agg #[.int .u64 0, .slice none 0 0]), Fct.val Flz 1 (.int .i64 1)] (fun w' => Below u3.heap.size u3 w') _ 2 2 chkTofb3 (by kernel_rfl) (by kernel_rfl) (by kernel_rfl) (by decide) (Below.refl _ _) ?_ ?_
  ·refine lt_s (lt_s (lt_0) ?_) ?_
   ·intro f w1 hS hf aA hA
    exact fV rfl rfl _ (ex_build 28 _ rfl #[.int .u64 0, .slice none 0 0] [] (by kernel_rfl) builtT0) hS uS
   ·intro f w1 hS hf aA hA
    have r9 := qO 9 hA z9
    exact fV rfl rfl _ (ex_move (.tmp 9) rfl r9) hS uS
  intro f u4 hS hf hap
  have h0 := eqL (hf 0 (by decide)) rfl
  have h1 := eqL (hf 1 (by decide)) rfl
  clear hf hap
  clear zsz z9
  subst ha0
  simp only [slotsTofb3, putAll, h0, h1, Act.put, List.setIfInBounds_toArray, List.set_cons_zero, List.set_cons_succ]
  clear h0 h1
  have hBS := HB.out.trans (hS.mono HB.out.size)
  replace HX1 := Lib.hid (HX1.out.keepB hS)
  clear hS
  refine tl_store rfl (by kernel_rfl) 28 (.tmp 6) (.tmp 20) rfl g1 ([.int .u64 0, .slice none 0 0]) _ rfl rfl _ HX1.out (by kernel_rfl) rfl (tb_ones _ rfl) ?_
  intro u5 hp hbl hot
  replace HX1 : Hid (Has u5 g1 28 ([.int .u64 0, .slice none 0 0])) := Lib.hid hp
  replace hBS := hBS.trans (hbl _ HGg1.out)
  clear hp hbl hot
  try simp only [Act.put]
  refine tl_pure rfl (by kernel_rfl) (.int .i64 1) (ex_assign (.tmp 21) rfl rfl) ?_
  try simp only [Act.put, List.setIfInBounds_toArray, List.set_cons_zero, List.set_cons_succ]
  refine tl_nil ?_
  replace HB := Lib.hid hBS
  clear hBS
  go_wp2_with fail
  (try simp only [Exit.inBlock, Exit.then])
  have HN : Hid (ofT s n A = (0, [], 1)) := Lib.hid (by rw [HOF.out, HGD.out]; rfl)
  refine bodyPost_ret (v := .tuple #[.agg #[.int .u64 0, .slice none 0 0], .int .i64 1]) ?_ rfl ⟨⟨_, rfl, .slice none 0 0, by rw [HN.out]; rfl, by rw [HN.out]; exact RowO.nil _ _ _ (by decide)⟩, HB.out⟩
  exact results_twoT rfl _ _ g1 28 _ (0, 0) rfl HX1.out _ rfl Tryd.underlying28 (by kernel_rfl)
 ·obtain ⟨m, hm, hm3, hm4⟩ := good_int HGD.out
  have HM := Lib.hid hm
  have HBB : Hid (w.heap.size ≤ y1.heap.size) := Lib.hid HB.out.size
  clear hm hm3 hm4
  go_upto_region 1 with fail
  refine wp_act (fun a0 ha0 => ?_)
  have zsz : a0.tmps.size = 34 := by rw [ha0]; rfl
  have z0 : a0.eval (.tmp 0) = .int .u64 (s : Int) := by rw [ha0]; rfl
  have z1 : a0.eval (.tmp 1) = .int .i64 n := by rw [ha0]; rfl
  refine wrO [] slotsTofb1 waitTofb1 [Fct.val Flz 0 (.int .u64 (s : Int)), Fct.val Flz 1 (.int .i64 n), Fct.obj 2 (fun v w => ∃ zz, v = .tuple #[.agg #[.int .u64 (s : Int), zz], .int .i64 0] ∧ RowO y1.heap.size 47 w zz (List.replicate m zC)) (fun _ _ _ ⟨zz, a, b⟩ he => ⟨zz, a, b.flz he⟩), Fct.obj 3 (fun v w => ∃ zz, v = .tuple #[.agg #[.int .u64 (s : Int), zz], .int .i64 0] ∧ RowO y1.heap.size 47 w zz (List.replicate m zC)) (fun _ _ _ ⟨zz, a, b⟩ he => ⟨zz, a, b.flz he⟩), Fct.obj 4 (fun v w => ∃ zz, v = .agg #[.int .u64 (s : Int), zz] ∧ RowO y1.heap.size 47 w zz (List.replicate m zC)) (fun _ _ _ ⟨zz, a, b⟩ he => ⟨zz, a, b.flz he⟩), Fct.val Flz 5 (.int .i64 0), Fct.obj 6 (fun v w => ∃ g, v = .pointer (some ⟨g, 0, none⟩) ∧ y1.heap.size ≤ g ∧ Has w g 28 ([.int .u64 0, .slice none 0 0])) (fun _ _ _ ⟨g, a, b, c⟩ he => ⟨g, a, b, c.flz he (by decide)⟩)] (fun w' => Below y1.heap.size y1 w') _ 7 2 chkTofb1 (by kernel_rfl) (by kernel_rfl) (by kernel_rfl) (by decide) (Below.refl _ _) ?_ ?_
  ·refine lt_s (lt_s (lt_s (lt_s (lt_s (lt_s (lt_s (lt_0) ?_) ?_) ?_) ?_) ?_) ?_) ?_
   ·intro f w1 hS hf aA hA
    have r0 := qO 0 hA z0
    exact fV rfl rfl _ (ex_move (.tmp 0) rfl r0) hS uS
   ·intro f w1 hS hf aA hA
    have r1 := qO 1 hA z1
    exact fV rfl rfl _ (ex_move (.tmp 1) rfl r1) hS uS
   ·intro f w1 hS hf aA hA
    have r13 := qA 13 0 hA sbTofb1 zsz (hf 0 (by decide))
    have r14 := qA 14 1 hA sbTofb1 zsz (hf 1 (by decide))
    exact fC rfl rfl 10 #[(.tmp 13), (.tmp 14)] _ rfl #[.int .u64 (s : Int), .int .i64 n] (mp2 r13 r14) (fun w => by kernel_rfl) _ (newT_t s n m HGD.out HM.out w1 y1.heap.size hS.size) hS (fun _ _ ⟨zz, a, b⟩ => ⟨zz, uS.trans a, b⟩)
   ·intro f w1 hS hf aA hA
    obtain ⟨x15, hx15, hr15⟩ := hf 2 (by decide)
    have e15 := pA 15 2 hA sbTofb1 (by kernel_rfl) zsz rfl hx15
    exact flw_val rfl rfl (.tuple #[.agg #[.int .u64 (s : Int), x15], .int .i64 0]) (ex_move (.tmp 15) rfl e15) hS (Flz.refl _) ⟨x15, uS, hr15⟩
   ·intro f w1 hS hf aA hA
    obtain ⟨x12, hx12, hr12⟩ := hf 3 (by decide)
    have e12 := pA 12 3 hA sbTofb1 (by kernel_rfl) zsz rfl hx12
    exact flw_val rfl rfl (.agg #[.int .u64 (s : Int), x12]) (ex_extract (.tmp 12) 0 rfl e12 rfl) hS (Flz.refl _) ⟨x12, uS, hr12⟩
   ·intro f w1 hS hf aA hA
    obtain ⟨x12, hx12, hr12⟩ := hf 3 (by decide)
    have e12 := pA 12 3 hA sbTofb1 (by kernel_rfl) zsz rfl hx12
    exact fV rfl rfl _ (ex_extract (.tmp 12) 1 rfl e12 rfl) hS uS
   ·intro f w1 hS hf aA hA
    exact flw_wp rfl rfl (fun K hK => wp_alloc_row 28 rfl (.agg #[.int .u64 0, .slice none 0 0]) (fun w => by kernel_rfl) (hK _ _ (hS.alloc hS.size _) (Flz.al _ _) ⟨_, uS, hS.size, Has.made' _ _ _ _ rfl⟩))
  intro f u1 hS hf hap
  have h0 := eqL (hf 0 (by decide)) rfl
  have h1 := eqL (hf 1 (by decide)) rfl
  obtain ⟨v1_2, h2, -⟩ := hf 2 (by decide)
  obtain ⟨v1_3, h3, -⟩ := hf 3 (by decide)
  obtain ⟨v1_4, h4, hu4⟩ := hf 4 (by decide)
  have HU1_4 := Lib.hid hu4
  clear hu4
  have h5 := eqL (hf 5 (by decide)) rfl
  have HG1L : Hid (g1 < y1.heap.size) := Lib.hid HX1.out.lt
  obtain ⟨b1_6, h6, hgb6, hhb6⟩ := hf 6 (by decide)
  clear hf hap
  clear zsz z0 z1
  subst ha0
  simp only [slotsTofb1, putAll, h0, h1, h2, h3, h4, h5, h6, Act.put, List.setIfInBounds_toArray, List.set_cons_zero, List.set_cons_succ]
  clear h0 h1 h2 h3 h4 h5 h6
  refine tl_store rfl (by kernel_rfl) 28 (.tmp 8) (.tmp 16) rfl b1_6 ([.int .u64 (s : Int), v1_4]) _ rfl rfl _ hhb6 (by kernel_rfl) rfl (tb_ones _ HU1_4.out.one) ?_
  intro u2 hp6 hbl hot
  replace hS := hS.trans (hbl _ hgb6)
  replace HU1_4 := Lib.hid (HU1_4.out.hotb hhb6 ⟨_, _, _, rfl⟩ (by decide) (hbl 0 (Nat.zero_le _)).size hot)
  clear hbl hot hhb6
  try simp only [Act.put]
  refine tl_pure rfl (by kernel_rfl) (.int .i64 0) (ex_assign (.tmp 17) rfl rfl) ?_
  try simp only [Act.put, List.setIfInBounds_toArray, List.set_cons_zero, List.set_cons_succ]
  refine tl_nil ?_
  replace HX1 := Lib.hid (HX1.out.keepB hS)
  have HBW := Lib.hid HB.out.size
  replace HB := Lib.hid (HB.out.trans (hS.mono HB.out.size))
  clear hS
  have HNE16 : Hid (b1_6 ≠ g1) := Lib.hid (by have := HG1L.out; omega)
  have HGb1_6 : Hid (w.heap.size ≤ b1_6) := Lib.hid (Nat.le_trans HBW.out hgb6)
  have HX_b1_6 : Hid (Has u2 b1_6 28 ([.int .u64 (s : Int), v1_4])) := Lib.hid hp6
  clear hp6 hgb6
  clear HBW
  go_upto_region 2 with fail
  refine wp_act (fun a0 ha0 => ?_)
  have zsz : a0.tmps.size = 34 := by rw [ha0]; rfl
  have z9 : a0.eval (.tmp 9) = .int .i64 0 := by rw [ha0]; rfl
  refine wrO [] slotsTofb2 waitTofb2 [Fct.val Flz 0 (.int .i64 0), Fct.val Flz 1 (.bool false)] (fun w' => Below u2.heap.size u2 w') _ 2 0 chkTofb2 (by kernel_rfl) (by kernel_rfl) (by kernel_rfl) (by decide) (Below.refl _ _) ?_ ?_
  ·refine lt_s (lt_s (lt_0) ?_) ?_
   ·intro f w1 hS hf aA hA
    have r9 := qO 9 hA z9
    exact fV rfl rfl _ (ex_move (.tmp 9) rfl r9) hS uS
   ·intro f w1 hS hf aA hA
    have r18 := qA 18 0 hA sbTofb2 zsz (hf 0 (by decide))
    exact fV rfl rfl _ (Eq.trans (ex_int .neq _ _ (.tmp 18) _ rfl .i64 0 0 r18 rfl (.bool ((0 : Int) != (0 : Int))) (fun _ => rfl)) (by rw [(by decide : ((0 : Int) != (0 : Int)) = false)])) hS uS
  intro f u3 hS hf hap
  have h0 := eqL (hf 0 (by decide)) rfl
  have h1 := eqL (hf 1 (by decide)) rfl
  clear hf hap
  clear zsz z9
  subst ha0
  simp only [slotsTofb2, putAll, h0, h1, Act.put, List.setIfInBounds_toArray, List.set_cons_zero, List.set_cons_succ]
  clear h0 h1
  refine tl_nil ?_
  replace HX1 := Lib.hid (HX1.out.keepB hS)
  replace HX_b1_6 := Lib.hid (HX_b1_6.out.keepB hS)
  replace HU1_4 := Lib.hid (HU1_4.out.keep hS)
  replace HB := Lib.hid (HB.out.trans (hS.mono HB.out.size))
  clear hS
  go_upto_region 4 with fail
  refine wp_act (fun a0 ha0 => ?_)
  have zsz : a0.tmps.size = 34 := by rw [ha0]; rfl
  have z2 : a0.eval (.tmp 2) = v := by rw [ha0]; rfl
  refine wrO [] slotsTofg4 waitTofg4 [Fct.val Flz 0 (v), Fct.obj 1 (fun v w => ∃ zz, v = zz ∧ RowS u3.heap.size w zz (srt A)) (fun _ _ _ ⟨zz, a, b⟩ he => ⟨zz, a, b.flz he⟩), Fct.val Flz 2 (.int .i64 (((srt A).length : Int))), Fct.val Flz 3 (.int .i64 0)] (fun w' => Below u3.heap.size u3 w') _ 4 0 chkTofg4 (by kernel_rfl) (by kernel_rfl) (by kernel_rfl) (by decide) (Below.refl _ _) ?_ ?_
  ·refine lt_s (lt_s (lt_s (lt_s (lt_0) ?_) ?_) ?_) ?_
   ·intro f w1 hS hf aA hA
    have r2 := qO 2 hA z2
    exact fV rfl rfl _ (ex_move (.tmp 2) rfl r2) hS uS
   ·intro f w1 hS hf aA hA
    have r22 := qA 22 0 hA sbTofg4 zsz (hf 0 (by decide))
    exact fC rfl rfl 30 #[(.tmp 22)] _ rfl #[v] (mp1 r22) (fun w => by kernel_rfl) _ (setOf_in (HU.out.keep (HB.out.trans (hS.mono HB.out.size))) HNA.out u3.heap.size hS.size) hS (fun _ _ ⟨zz, a, b⟩ => ⟨zz, uS.trans a, b⟩)
   ·intro f w1 hS hf aA hA
    obtain ⟨x23, hx23, hr23⟩ := hf 1 (by decide)
    have e23 := pA 23 1 hA sbTofg4 (by kernel_rfl) zsz rfl hx23
    obtain ⟨q9, c9, hv9, _⟩ := hr23.cs
    exact fV rfl rfl _ (ex_len 24 42 (.tmp 23) rfl (by kernel_rfl) q9 (srt A).length c9 (e23.trans hv9)) hS uS
   ·intro f w1 hS hf aA hA
    exact fV rfl rfl (.int .i64 0) (ex_move _ rfl rfl) hS uS
  intro f u4 hS hf hap
  have h0 : f 0 = v := hf 0 (by decide)
  obtain ⟨v4_1, h1, hu1⟩ := hf 1 (by decide)
  have HU4_1 := Lib.hid hu1
  clear hu1
  have h2 := eqL (hf 2 (by decide)) rfl
  have h3 := eqL (hf 3 (by decide)) rfl
  clear hf hap
  clear zsz z2
  subst ha0
  simp only [slotsTofg4, putAll, h0, h1, h2, h3, Act.put, List.setIfInBounds_toArray, List.set_cons_zero, List.set_cons_succ]
  clear h0 h1 h2 h3
  refine tl_nil ?_
  replace HX1 := Lib.hid (HX1.out.keepB hS)
  replace HX_b1_6 := Lib.hid (HX_b1_6.out.keepB hS)
  replace HU1_4 := Lib.hid (HU1_4.out.keep hS)
  replace HB := Lib.hid (HB.out.trans (hS.mono HB.out.size))
  clear hS
  have hSl : (srt A).length ≤ 1000000 := by have := len_srt_le A; have := HNA.out; omega
  have HFIN : Hid (ofT s n A = (s, layA putC s (srt A) (List.replicate m zC), 0)) := Lib.hid (by rw [HOF.out, HGD.out, HM.out]; rfl)
  generalize srt A = S at *
  go_wp2_with fail
  go_loopw [25] (fun vi wr => ∃ i : Nat, i ≤ S.length ∧ vi = .int .i64 i ∧ RowO y1.heap.size 47 wr v1_4 (layA putC s (S.take i) (List.replicate m zC)) ∧ RowS u3.heap.size wr v4_1 S ∧ Has wr b1_6 28 [.int .u64 (s : Int), v1_4] ∧ Has wr g1 28 [.int .u64 0, .slice none 0 0] ∧ Below w.heap.size w wr) (fun vi _ => S.length - (intOf vi).toNat)
  case atStart => exact ⟨0, by omega, rfl, HU1_4.out, HU4_1.out, HX_b1_6.out, HX1.out, HB.out⟩
  case round =>
   clear HU1_4 HU4_1 HX_b1_6 HX1 HB
   rename_i wr
   obtain ⟨i, hi, rfl, ho, hs, hx6, hx1, hB⟩ := hrel
   have HO := Lib.hid ho
   have HS := Lib.hid hs
   have HX_b1_6 := Lib.hid hx6
   have HX1 := Lib.hid hx1
   have HB := Lib.hid hB
   clear ho hs hx6 hx1 hB
   by_cases hlt : i < S.length
   ·have HTK : Hid (S.take (i + 1) = S.take i ++ [S[i]]) := Lib.hid (List.take_succ_eq_append_getElem hlt)
    obtain ⟨a, cp2, hv, hc⟩ := HS.out.el hlt
    have HV := Lib.hid hv
    have HCC := Lib.hid hc
    have k3 : (i : Int) < (S.length : Int) := by omega
    clear hv hc
    go_upto_region 6 with fail
    refine wp_act (fun a0 ha0 => ?_)
    have zsz : a0.tmps.size = 34 := by rw [ha0]; rfl
    have z23 : a0.eval (.tmp 23) = v4_1 := by rw [ha0]; rfl
    have z25 : a0.eval (.tmp 25) = .int .i64 ((i : Int)) := by rw [ha0]; rfl
    refine wrO [] slotsTofl6 waitTofl6 [Fct.val Flz 0 (.pointer (some (a.add (i * 32)))), Fct.val Flz 1 (.agg (encU ((S[i]))).toArray), Fct.obj 2 (fun v w => ∃ g, v = .pointer (some ⟨g, 0, none⟩) ∧ wr.heap.size ≤ g ∧ Has w g 42 (encU zS)) (fun _ _ _ ⟨g, a, b, c⟩ he => ⟨g, a, b, c.flz he (by decide)⟩)] (fun w' => Below wr.heap.size wr w') _ 3 1 chkTofl6 (by kernel_rfl) (by kernel_rfl) (by kernel_rfl) (by decide) (Below.refl _ _) ?_ ?_
    ·refine lt_s (lt_s (lt_s (lt_0) ?_) ?_) ?_
     ·intro f w1 hS hf aA hA
      have r23 := qO 23 hA z23
      have r25 := qO 25 hA z25
      exact fV rfl rfl _ (ex_indexS 24 42 (.tmp 23) (.tmp 25) rfl a S.length cp2 i 32 (by kernel_rfl) (fun _ => by kernel_rfl) (Eq.trans r23 HV.out) r25 hlt) hS uS
     ·intro f w1 hS hf aA hA
      have r27 := qA 27 0 hA sbTofl6 zsz (hf 0 (by decide))
      exact fV rfl rfl _ (ex_loadR 42 (.tmp 27) rfl (a.add (i * 32)) r27 (fun _ => by kernel_rfl) (encU ((S[i]))) (by rw [encU_len]; kernel_rfl) (HCC.out w1 hS.block)) hS uS
     ·intro f w1 hS hf aA hA
      exact flw_wp rfl rfl (fun K hK => wp_alloc_row 42 rfl (.agg (encU zS).toArray) (fun w => by kernel_rfl) (hK _ _ (hS.alloc hS.size _) (Flz.al _ _) ⟨_, uS, hS.size, Has.made' _ _ _ _ rfl⟩))
    intro f u6 hS hf hap
    have h0 := eqL (hf 0 (by decide)) rfl
    have h1 := eqL (hf 1 (by decide)) rfl
    obtain ⟨b6_2, h2, hgb2, hhb2⟩ := hf 2 (by decide)
    clear hf hap
    clear zsz z23 z25
    subst ha0
    simp only [slotsTofl6, putAll, h0, h1, h2, Act.put, List.setIfInBounds_toArray, List.set_cons_zero, List.set_cons_succ]
    clear h0 h1 h2
    refine tl_store rfl (by kernel_rfl) 42 (.tmp 11) (.tmp 28) rfl b6_2 (encU ((S[i]))) _ rfl rfl _ hhb2 (by rw [encU_len]; kernel_rfl) (by simp only [encU_len]) (encU_all _) ?_
    intro u7 hp2 hbl hot
    replace hS := hS.trans (hbl _ hgb2)
    clear hbl hot hhb2
    try simp only [Act.put]
    refine tl_nil ?_
    replace HO := Lib.hid (HO.out.keep hS)
    replace HS := Lib.hid (HS.out.keep hS)
    replace HX_b1_6 := Lib.hid (HX_b1_6.out.keepB hS)
    replace HX1 := Lib.hid (HX1.out.keepB hS)
    have HBW := Lib.hid HB.out.size
    replace HB := Lib.hid (HB.out.trans (hS.mono HB.out.size))
    clear hS
    have HGb6_2 : Hid (w.heap.size ≤ b6_2) := Lib.hid (Nat.le_trans HBW.out hgb2)
    have HX_b6_2 : Hid (Has u7 b6_2 42 (encU ((S[i])))) := Lib.hid hp2
    clear hp2 hgb2
    clear HBW
    go_upto_region 7 with fail
    refine wp_act (fun a0 ha0 => ?_)
    have zsz : a0.tmps.size = 34 := by rw [ha0]; rfl
    have z8 : a0.eval (.tmp 8) = .pointer (some ⟨b1_6, 0, none⟩) := by rw [ha0]; rfl
    have z11 : a0.eval (.tmp 11) = .pointer (some ⟨b6_2, 0, none⟩) := by rw [ha0]; rfl
    refine wrO [] slotsTofl7 waitTofl7 [Fct.val Flz 0 (.agg #[.int .u64 (s : Int), v1_4]), Fct.val Flz 1 (.agg (encU ((S[i]))).toArray)] (fun w' => Below u7.heap.size u7 w') _ 2 1 chkTofl7 (by kernel_rfl) (by kernel_rfl) (by kernel_rfl) (by decide) (Below.refl _ _) ?_ ?_
    ·refine lt_s (lt_s (lt_0) ?_) ?_
     ·intro f w1 hS hf aA hA
      have r8 := qO 8 hA z8
      exact fV rfl rfl _ (ex_loadR 28 (.tmp 8) rfl ⟨b1_6, 0, none⟩ r8 (fun _ => by kernel_rfl) [.int .u64 (s : Int), v1_4] (by kernel_rfl) ((HX_b1_6.out.keepB hS).part [.int .u64 (s : Int), v1_4] 0 (fun j u hu => by rw [Nat.zero_add]; exact hu))) hS uS
     ·intro f w1 hS hf aA hA
      have r11 := qO 11 hA z11
      exact fV rfl rfl _ (ex_loadR 42 (.tmp 11) rfl ⟨b6_2, 0, none⟩ r11 (fun _ => by kernel_rfl) (encU ((S[i]))) (by rw [encU_len]; kernel_rfl) ((HX_b6_2.out.keepB hS).part (encU ((S[i]))) 0 (encU_all' ((S[i]))))) hS uS
    intro f u8 hS hf hap
    have h0 := eqL (hf 0 (by decide)) rfl
    have h1 := eqL (hf 1 (by decide)) rfl
    clear hf hap
    clear zsz z8 z11
    subst ha0
    simp only [slotsTofl7, putAll, h0, h1, Act.put, List.setIfInBounds_toArray, List.set_cons_zero, List.set_cons_succ]
    clear h0 h1
    have HB8 := Lib.hid (HB.out.trans (hS.mono HB.out.size))
    have HO8 := Lib.hid (HO.out.keep hS)
    have HS8 := Lib.hid (HS.out.keep hS)
    have HX68 := Lib.hid (HX_b1_6.out.keepB hS)
    have HX18 := Lib.hid (HX1.out.keepB hS)
    clear hS HX_b1_6 HX1 HB HO HS
    refine tl_call rfl rfl 32 #[(.tmp 29), (.tmp 30), (.func 33)] _ rfl #[.agg #[.int .u64 (s : Int), v1_4], .agg (encU S[i]).toArray, .func (.func 33) #[] #[]] (by kernel_rfl) (fun w => by kernel_rfl) _ (change_b s HSD.out S[i] v1_4 _ _ putC byPut y1.heap.size w u8 HB8.out HL.out HO8.out HBB.out) ?_
    rintro e u9 ⟨⟨z, rfl⟩, hO, hb9, hg9⟩
    refine ⟨z, rfl, ?_⟩
    have HO := Lib.hid hO
    have HB := Lib.hid hb9
    have HX_b1_6 := Lib.hid (hg9.has HX68.out (HO8.out.ne HX68.out (by decide)))
    have HX1 := Lib.hid (hg9.has HX18.out (HO8.out.ne HX18.out (by decide)))
    have HS := Lib.hid (HS8.out.grw HO8.out (by decide) hg9)
    clear hO hb9 hg9 HX68 HX18 HB8 HO8 HS8
    try simp only [Act.put]
    refine tl_nil ?_
    go_wp2_with fail
    go_roundw
    case rel => exact ⟨i + 1, by omega, by go_num, by rw [HTK.out, layA_snoc]; exact HO.out, HS.out, HX_b1_6.out, HX1.out, HB.out⟩
    case measure => simp [intOf]; omega
   ·obtain rfl : i = S.length := by omega
    have k3 : ¬ (S.length : Int) < (S.length : Int) := by omega
    rw [List.take_length] at HO
    have HNE_b1_6_g1 : Hid (b1_6 ≠ g1) := HNE16
    have HGg1 := HGg1
    clear HS
    go_upto_region 9 with fail
    refine wp_act (fun a0 ha0 => ?_)
    have zsz : a0.tmps.size = 34 := by rw [ha0]; rfl
    have z8 : a0.eval (.tmp 8) = .pointer (some ⟨b1_6, 0, none⟩) := by rw [ha0]; rfl
    refine wrO [] slotsTofe9 waitTofe9 [Fct.val Flz 0 (.agg #[.int .u64 (s : Int), v1_4])] (fun w' => Below wr.heap.size wr w') _ 1 2 chkTofe9 (by kernel_rfl) (by kernel_rfl) (by kernel_rfl) (by decide) (Below.refl _ _) ?_ ?_
    ·refine lt_s (lt_0) ?_
     ·intro f w1 hS hf aA hA
      have r8 := qO 8 hA z8
      exact fV rfl rfl _ (ex_loadR 28 (.tmp 8) rfl ⟨b1_6, 0, none⟩ r8 (fun _ => by kernel_rfl) [.int .u64 (s : Int), v1_4] (by kernel_rfl) ((HX_b1_6.out.keepB hS).part [.int .u64 (s : Int), v1_4] 0 (fun j u hu => by rw [Nat.zero_add]; exact hu))) hS uS
    intro f u10 hS hf hap
    have h0 := eqL (hf 0 (by decide)) rfl
    clear hf hap
    clear zsz z8
    subst ha0
    simp only [slotsTofe9, putAll, h0, Act.put, List.setIfInBounds_toArray, List.set_cons_zero, List.set_cons_succ]
    clear h0
    have hBS := HB.out.trans (hS.mono HB.out.size)
    replace HO := Lib.hid (HO.out.keep hS)
    replace HX_b1_6 := Lib.hid (HX_b1_6.out.keepB hS)
    replace HX1 := Lib.hid (HX1.out.keepB hS)
    clear hS
    refine tl_store rfl (by kernel_rfl) 28 (.tmp 6) (.tmp 33) rfl g1 ([.int .u64 (s : Int), v1_4]) _ rfl rfl _ HX1.out (by kernel_rfl) rfl (tb_ones _ HO.out.one) ?_
    intro u11 hp hbl hot
    replace HO := Lib.hid (HO.out.hotb HX1.out ⟨_, _, _, rfl⟩ (by decide) (hbl 0 (Nat.zero_le _)).size hot)
    replace HX_b1_6 : Hid (Has u11 b1_6 28 ([.int .u64 (s : Int), v1_4])) := Lib.hid ((hot _ (HNE_b1_6_g1.out)).trans HX_b1_6.out)
    replace HX1 : Hid (Has u11 g1 28 ([.int .u64 (s : Int), v1_4])) := Lib.hid hp
    replace hBS := hBS.trans (hbl _ HGg1.out)
    clear hp hbl hot
    try simp only [Act.put]
    refine tl_pure rfl (by kernel_rfl) (.int .i64 0) (ex_assign _ rfl rfl) ?_
    try simp only [Act.put, List.setIfInBounds_toArray, List.set_cons_zero, List.set_cons_succ]
    refine tl_nil ?_
    replace HB := Lib.hid hBS
    clear hBS
    go_wp2_with fail
    (try simp only [Exit.inBlock, Exit.then])
    have HN : Hid (ofT s n A = (s, layA putC s S (List.replicate m zC), 0)) := Lib.hid (HFIN.out)
    refine bodyPost_ret (v := .tuple #[.agg #[.int .u64 (s : Int), v1_4], .int .i64 0]) ?_ rfl ⟨⟨_, rfl, v1_4, by rw [HN.out], by rw [HN.out]; exact HO.out.less HBB.out⟩, HB.out⟩
    exact results_twoT rfl _ _ g1 28 _ (0, 0) rfl HX1.out _ rfl Tryd.underlying28 (by kernel_rfl)
theorem ofTO_any (s : Nat) (n : Int) (v : Value) (A : List Su) (w : World) (hs : s < 18446744073709551616) (hL : Laid w) (hn : A.length ≤ 10000) (hU : Us w v A) : Calls Tryd.prog 11 #[.int .u64 (s : Int), .int .i64 n, v] w fun e w' => (∃ v, e = .returned v ∧ ∃ x, v = .tuple #[.agg #[.int .u64 ((ofT s n A).1 : Int), x], .int .i64 (ofT s n A).2.2] ∧ RowO w.heap.size 47 w' x (ofT s n A).2.1) ∧ Below w.heap.size w w' := ofTO_b s n v A w w (Below.refl _ _) hs hL hn hU
theorem ofT_any (s : Nat) (n : Int) (v : Value) (A : List Su) (w : World) (hs : s < 18446744073709551616) (hL : Laid w) (hn : A.length ≤ 10000) (hU : Us w v A) : Calls Tryd.prog 11 #[.int .u64 (s : Int), .int .i64 n, v] w fun e w' => (∃ v, e = .returned v ∧ ∃ x, v = .tuple #[.agg #[.int .u64 ((ofT s n A).1 : Int), x], .int .i64 (ofT s n A).2.2] ∧ Cs w' x (ofT s n A).2.1) ∧ Below w.heap.size w w' :=
 Calls.mono (ofTO_any s n v A w hs hL hn hU) fun _ _ ⟨⟨u, h1, x, h2, h3⟩, h4⟩ => ⟨⟨u, h1, x, h2, h3.cs⟩, h4⟩
end Go.Proofs.YtnkcehmgagpadaaDoor
/- Contracts: the law's own row, own, few. Conditions: the sums' tables are laid (few); at most 10^5 each. -/
namespace Go.Proofs.YtnkcehmgagpadaaDoor
open Go.RowKit
/-- A number's low byte; the number's two bytes; their sum. -/
def fb (n : Int) : BitVec 8 := BitVec.ofInt 8 n
theorem fb_wrap (n : Int) : IntKind.u8.wrap n = B (fb n) := by
 rw [IntKind.wrap_u8']; unfold B fb; rw [BitVec.toNat_ofInt]; omega
def sh8 (n : Int) : Int := n / 2 ^ min ((8 : Int).toNat) IntKind.i64.bits
def fbs (n : Int) : List (BitVec 8) := [fb n, fb (sh8 n)]
def fewS (n : Int) : Su := shaU (fbs n)
theorem ex_conv8 {o : Oper} {ev : Operand → Value} {w : World} (x : Operand) (ho : o.op = .convert 3 5 x) (n : Int) (hx : ev x = .int .i64 n) : (execOp ev o).run Tryd.prog w = .ok (.value (.int .u8 (B (fb n)))) w := by
 have h : (convert 3 5 (.int .i64 n)).run Tryd.prog w = .ok (.int .u8 (B (fb n))) w := by
  rw [← fb_wrap]
  simp [convert, run_underlying Tryd.underlying3, run_underlying Tryd.underlying5, Conv.intToInt]
 unfold execOp
 simp only [ho, hx, Sem.run_bind, h, Result.andThen_ok]
 rfl
theorem ex_shr8 {o : Oper} {ev : Operand → Value} {w : World} (x y : Operand) (T T2 : TypeId) (ho : o.op = .binOp .shr T x y T2) (n : Int) (hx : ev x = .int .i64 n) (hy : ev y = .int .u64 8) : (execOp ev o).run Tryd.prog w = .ok (.value (.int .i64 (sh8 n))) w := by
 have hg : (eqGuard .shr T x y (.int .i64 n) (.int .u64 8)).run Tryd.prog w = .ok () w := rfl
 have h : (binOp .shr T (.int .i64 n) (.int .u64 8)).run Tryd.prog w = .ok (.int .i64 (sh8 n)) w := by
  show (Op.shift .shr .i64 n .u64 8).run Tryd.prog w = _
  rw [shift_shr_any _ _ _ _ (by omega)]
  rfl
 unfold execOp
 simp only [ho, hx, hy, Sem.run_bind, hg, h, Result.andThen_ok]
 rfl
theorem wp_val9 {P : Program} {o : Oper} {a : Act} {w : World} {K : Act → World → Prop} {Q : Exit → Act → World → Prop} {v : Value} (hr : (execOp a.eval o).run P w = .ok (.value v) w) (h : K (a.put o.dst v) w) : o.wp P a w K Q := by
 unfold Oper.wp; rw [hr]; exact h
theorem of_at9 {w : World} {g k : Nat} {n : Int} (hk : Cl w k 45 [.slice (some ⟨g, 0, none⟩) 2 2]) (hc : Cl w g 5 ((fbs n).map u8v)) (hL : Laid w) :
  Calls Tryd.prog 15 #[.slice (some ⟨k, 0, none⟩) 1 1] w fun e w' => (∃ v, e = .returned v ∧ v = .agg (encU (fewS n)).toArray) ∧ Below w.heap.size w w' :=
 of_at (x := fbs n) hk (some ⟨g, 0, none⟩) 2 rfl (Nat.le_refl 2) hc.sees (show 2 ≤ 1000000 by decide) hL
def waitTfel3 (i : Nat) : List Nat := ([[], [], [1], [0, 2]] : List (List Nat)).getD i []
def slotsTfel3 : List (Nat × Nat) := [(5, 0), (6, 1), (7, 2), (8, 3)]
theorem sbTfel3 : slotsB slotsTfel3 = true := by kernel_rfl
theorem chkTfel3 : flwO slotsTfel3 waitTfel3 4 (regOf Tryd.f12.body 3) = true := by kernel_rfl
def waitTfe5 (i : Nat) : List Nat := ([[], [], [], [1, 2], [1, 2, 3], [1, 2, 3, 4], [], [], [6, 7], [6, 7, 8], [6, 7, 8, 9], [6, 7, 8, 9, 10], [1, 2, 3, 4, 5, 6, 7, 8, 9, 10, 11], [1, 2, 3, 4, 5, 6, 7, 8, 9, 10, 11, 12], [1, 2, 3, 4, 5, 6, 7, 8, 9, 10, 11, 12, 13], [1, 2, 3, 4, 5, 6, 7, 8, 9, 10, 11, 12, 13, 14], [0, 1, 2, 3, 4, 5, 6, 7, 8, 9, 10, 11, 12, 13, 14, 15], []] : List (List Nat)).getD i []
def slotsTfe5 : List (Nat × Nat) := [(11, 0), (12, 1), (13, 2), (14, 3), (15, 4), (16, 5), (17, 6), (18, 7), (19, 8), (20, 9), (21, 10), (22, 11), (23, 12), (24, 13), (25, 14), (26, 15)]
theorem sbTfe5 : slotsB slotsTfe5 = true := by kernel_rfl
theorem chkTfe5 : stgB slotsTfe5 waitTfe5 0 16 (regOf Tryd.f12.body 5) = true := by kernel_rfl
set_option maxHeartbeats 16000000 in
set_option maxRecDepth 100000 in
theorem few16_b (v : Value) (l : List Int) (w w0 : World) (hB : Below w.heap.size w w0) (hL : Laid w) (hn : l.length ≤ 1000) (hI : Ins w v l) : Calls Tryd.prog 12 #[v] w0 fun e w' => (∃ v, e = .returned v ∧ ∃ x, v = x ∧ Us w' x (srt (l.map fewS))) ∧ Below w.heap.size w w' := by
 go_enter Tryd.func12, Tryd.ntmps12
 have HB := Lib.hid hB
 clear hB
 have HL := Lib.hid hL
 have HSZ := Lib.hid hL.size
 have HI : Hid (InsF 0 w v l) := Lib.hid ⟨hI, fun _ _ => Nat.zero_le _⟩
 clear hL hI
 obtain ⟨b0, hb0⟩ : ∃ b, b = w0.heap.size := ⟨_, rfl⟩
 have HBB : Hid (w.heap.size ≤ b0) := Lib.hid (by rw [hb0]; exact HB.out.size)
 have HBS : Hid (Szl b0 w0) := Lib.hid (Nat.le_of_eq hb0)
 have HZ0 : Hid (RowS b0 w0 (.slice none 0 0) ((l.take 0).map fewS)) := Lib.hid (OwnU.nil _ _ _)
 clear hb0
 go_wp2_with fail
 go_loopw [3, 4] (fun vs vi wr => ∃ i : Nat, i ≤ l.length ∧ vi = .int .i64 i ∧ (∃ z, z = vs ∧ RowS b0 wr z ((l.take i).map fewS)) ∧ Szl b0 wr ∧ Below w.heap.size w wr) (fun _ vi _ => l.length - (intOf vi).toNat)
 case atStart => exact ⟨0, by omega, rfl, ⟨_, rfl, HZ0.out⟩, HBS.out, HB.out⟩
 case round =>
  clear HZ0 HB HBS
  rename_i wr
  obtain ⟨i, hi, rfl, ⟨vs, rfl, ho⟩, hz, hB⟩ := hrel
  have HO := Lib.hid ho
  have HBS := Lib.hid hz
  have HB := Lib.hid hB
  clear ho hz hB
  by_cases hlt : i < l.length
  ·have HLT : Hid (decide (((i : Int)) < (((l).length : Int))) = true) := Lib.hid (decide_eq_true (by omega))
   have HTK : Hid ((l.take (i + 1)).map fewS = (l.take i).map fewS ++ [fewS l[i]]) := Lib.hid (by rw [List.take_succ_eq_append_getElem hlt, List.map_append]; rfl)
   have HLN : Hid (((l.take i).map fewS).length + 1 ≤ 4000000) := Lib.hid (by simp; omega)
   go_upto_region 3 with fail
   refine wp_act (fun a0 ha0 => ?_)
   have zsz : a0.tmps.size = 30 := by rw [ha0]; rfl
   have z4 : a0.eval (.tmp 4) = .int .i64 ((i : Int)) := by rw [ha0]; rfl
   have z0 : a0.eval (.tmp 0) = v := by rw [ha0]; rfl
   refine wrO [] slotsTfel3 waitTfel3 [Fct.val Flz 0 (.int .i64 ((i : Int))), Fct.val Flz 1 (v), Fct.val Flz 2 (.int .i64 (((l).length : Int))), Fct.val Flz 3 (.bool true)] (fun w' => Below wr.heap.size wr w') _ 4 0 chkTfel3 (by kernel_rfl) (by kernel_rfl) (by kernel_rfl) (by decide) (Below.refl _ _) ?_ ?_
   ·refine lt_s (lt_s (lt_s (lt_s (lt_0) ?_) ?_) ?_) ?_
    ·intro f w1 hS hf aA hA
     have r4 := qO 4 hA z4
     exact fV rfl rfl _ (ex_move (.tmp 4) rfl r4) hS uS
    ·intro f w1 hS hf aA hA
     have r0 := qO 0 hA z0
     exact fV rfl rfl _ (ex_move (.tmp 0) rfl r0) hS uS
    ·intro f w1 hS hf aA hA
     have r6 := qA 6 1 hA sbTfel3 zsz (hf 1 (by decide))
     obtain ⟨q9, c9, hv9, _⟩ := (HI.out.keep (HB.out.trans (hS.mono HB.out.size))).len
     exact fV rfl rfl _ (ex_len 38 3 (.tmp 6) rfl (by kernel_rfl) q9 (l).length c9 (r6.trans hv9)) hS uS
    ·intro f w1 hS hf aA hA
     have r5 := qA 5 0 hA sbTfel3 zsz (hf 0 (by decide))
     have r7 := qA 7 2 hA sbTfel3 zsz (hf 2 (by decide))
     exact fV rfl rfl _ (Eq.trans (ex_int .lss _ _ (.tmp 5) (.tmp 7) rfl .i64 ((i : Int)) (((l).length : Int)) r5 r7 (.bool (decide (((i : Int)) < (((l).length : Int))))) (fun _ => rfl)) (by rw [HLT.out])) hS uS
   intro f u3 hS hf hap
   have h0 := eqL (hf 0 (by decide)) rfl
   have h1 : f 1 = v := hf 1 (by decide)
   have h2 := eqL (hf 2 (by decide)) rfl
   have h3 := eqL (hf 3 (by decide)) rfl
   clear hf hap
   clear zsz z4 z0
   subst ha0
   simp only [slotsTfel3, putAll, h0, h1, h2, h3, Act.put, List.setIfInBounds_toArray, List.set_cons_zero, List.set_cons_succ]
   clear h0 h1 h2 h3
   refine tl_nil ?_
   replace HO := Lib.hid (HO.out.keep hS)
   replace HBS := Lib.hid (HBS.out.keep hS)
   replace HB := Lib.hid (HB.out.trans (hS.mono HB.out.size))
   clear hS
   go_upto_region 5 with fail
   have HST : Hid (Below u3.heap.size u3 u3.drew) := Lib.hid (Below.refl _ _).drew
   replace HO := Lib.hid (HO.out.keep HST.out)
   replace HBS := Lib.hid (HBS.out.keep HST.out)
   replace HB := Lib.hid (HB.out.trans (HST.out.mono HB.out.size))
   clear HST
   refine wp_region_rest (by kernel_rfl) ?_
   obtain ⟨pa, pc, hpv, hcell⟩ := (HI.out.keep HB.out).el hlt
   have HPV := Lib.hid hpv
   have HCL := Lib.hid hcell
   clear hpv hcell
   generalize l[i] = n at *
   refine rest_act (fun a0 ha0 => ?_)
   have zsz : a0.tmps.size = 30 := by rw [ha0]; rfl
   have z3 : a0.eval (.tmp 3) = vs := by rw [ha0]; rfl
   have z0 : a0.eval (.tmp 0) = v := by rw [ha0]; rfl
   have z4 : a0.eval (.tmp 4) = .int .i64 ((i : Int)) := by rw [ha0]; rfl
   refine rest_stage (E := Flz) 0 16 [] slotsTfe5 waitTfe5 [Fct.val Flz 0 (vs), Fct.val Flz 1 (v), Fct.val Flz 2 (.int .i64 ((i : Int))), Fct.val Flz 3 (.pointer (some (pa.add (i * 1)))), Fct.val Flz 4 (.int .i64 n), Fct.val Flz 5 (.int .u8 (B (fb n))), Fct.val Flz 6 (v), Fct.val Flz 7 (.int .i64 ((i : Int))), Fct.val Flz 8 (.pointer (some (pa.add (i * 1)))), Fct.val Flz 9 (.int .i64 n), Fct.val Flz 10 (.int .i64 (sh8 n)), Fct.val Flz 11 (.int .u8 (B (fb (sh8 n)))), Fct.obj 12 (fun v w => ∃ g, v = .slice (some ⟨g, 0, none⟩) 2 2 ∧ u3.drew.heap.size ≤ g ∧ Cl w g 5 (((fbs n)).map u8v)) (fun _ _ _ ⟨g, a, b, c⟩ he => ⟨g, a, b, c.flz he⟩), Fct.obj 13 (fun v w => ∃ g k, v = .slice (some ⟨k, 0, none⟩) 1 1 ∧ Cl w k 45 [.slice (some ⟨g, 0, none⟩) 2 2] ∧ Cl w g 5 ((fbs n).map u8v)) (fun _ _ _ ⟨g, k, a, b, c⟩ he => ⟨g, k, a, b.flz he, c.flz he⟩), Fct.val Flz 14 (.agg (encU (fewS n)).toArray), Fct.obj 15 (fun v w => ∃ zz, v = .slice (some ⟨zz, 0, none⟩) 1 1 ∧ u3.drew.heap.size ≤ zz ∧ Has w zz 42 (encU (fewS n))) (fun _ _ _ ⟨zz, a, b⟩ he => ⟨zz, a, ⟨b.1, b.2.flz he (by decide)⟩⟩)] (fun w' => Below u3.drew.heap.size u3.drew w') _ chkTfe5 (by kernel_rfl) (by kernel_rfl) ⟨by decide, by decide⟩ (by decide) (Below.refl _ _) ?_ ?_
   ·refine lt_t (lt_t (lt_t (lt_t (lt_t (lt_t (lt_t (lt_t (lt_t (lt_t (lt_t (lt_t (lt_t (lt_t (lt_t (lt_t (lt_b) ?_) ?_) ?_) ?_) ?_) ?_) ?_) ?_) ?_) ?_) ?_) ?_) ?_) ?_) ?_) ?_
    ·intro f w1 hS hf
     generalize hA : putAll _ _ f = aA
     have r3 := qO 3 hA z3
     exact stg_val (by decide) rfl rfl (vs) (ex_move (.tmp 3) rfl r3) hS (Flz.refl _) uS
    ·intro f w1 hS hf
     generalize hA : putAll _ _ f = aA
     have r0 := qO 0 hA z0
     exact stg_val (by decide) rfl rfl (v) (ex_move (.tmp 0) rfl r0) hS (Flz.refl _) uS
    ·intro f w1 hS hf
     generalize hA : putAll _ _ f = aA
     have r4 := qO 4 hA z4
     exact stg_val (by decide) rfl rfl (.int .i64 ((i : Int))) (ex_move (.tmp 4) rfl r4) hS (Flz.refl _) uS
    ·intro f w1 hS hf
     generalize hA : putAll _ _ f = aA
     have r12 := qA 12 1 hA sbTfe5 zsz (hf 1 (by decide) (by decide))
     have r13 := qA 13 2 hA sbTfe5 zsz (hf 2 (by decide) (by decide))
     exact stg_val (by decide) rfl rfl (.pointer (some (pa.add (i * 1)))) (ex_indexS 38 3 (.tmp 12) (.tmp 13) rfl pa l.length pc i 1 (by kernel_rfl) (fun _ => by kernel_rfl) (Eq.trans r12 HPV.out) r13 hlt) hS (Flz.refl _) uS
    ·intro f w1 hS hf
     generalize hA : putAll _ _ f = aA
     have r14 := qA 14 3 hA sbTfe5 zsz (hf 3 (by decide) (by decide))
     exact stg_val (by decide) rfl rfl (.int .i64 n) (ex_load1 3 (.tmp 14) rfl (pa.add (i * 1)) r14 (fun _ => by kernel_rfl) (HCL.out w1 hS.block)) hS (Flz.refl _) uS
    ·intro f w1 hS hf
     generalize hA : putAll _ _ f = aA
     have r15 := qA 15 4 hA sbTfe5 zsz (hf 4 (by decide) (by decide))
     exact stg_val (by decide) rfl rfl (.int .u8 (B (fb n))) (ex_conv8 (.tmp 15) rfl n r15) hS (Flz.refl _) uS
    ·intro f w1 hS hf
     generalize hA : putAll _ _ f = aA
     have r0 := qO 0 hA z0
     exact stg_val (by decide) rfl rfl (v) (ex_move (.tmp 0) rfl r0) hS (Flz.refl _) uS
    ·intro f w1 hS hf
     generalize hA : putAll _ _ f = aA
     have r4 := qO 4 hA z4
     exact stg_val (by decide) rfl rfl (.int .i64 ((i : Int))) (ex_move (.tmp 4) rfl r4) hS (Flz.refl _) uS
    ·intro f w1 hS hf
     generalize hA : putAll _ _ f = aA
     have r17 := qA 17 6 hA sbTfe5 zsz (hf 6 (by decide) (by decide))
     have r18 := qA 18 7 hA sbTfe5 zsz (hf 7 (by decide) (by decide))
     exact stg_val (by decide) rfl rfl (.pointer (some (pa.add (i * 1)))) (ex_indexS 38 3 (.tmp 17) (.tmp 18) rfl pa l.length pc i 1 (by kernel_rfl) (fun _ => by kernel_rfl) (Eq.trans r17 HPV.out) r18 hlt) hS (Flz.refl _) uS
    ·intro f w1 hS hf
     generalize hA : putAll _ _ f = aA
     have r19 := qA 19 8 hA sbTfe5 zsz (hf 8 (by decide) (by decide))
     exact stg_val (by decide) rfl rfl (.int .i64 n) (ex_load1 3 (.tmp 19) rfl (pa.add (i * 1)) r19 (fun _ => by kernel_rfl) (HCL.out w1 hS.block)) hS (Flz.refl _) uS
    ·intro f w1 hS hf
     generalize hA : putAll _ _ f = aA
     have r20 := qA 20 9 hA sbTfe5 zsz (hf 9 (by decide) (by decide))
     exact stg_val (by decide) rfl rfl (.int .i64 (sh8 n)) (ex_shr8 (.tmp 20) _ _ _ rfl n r20 rfl) hS (Flz.refl _) uS
    ·intro f w1 hS hf
     generalize hA : putAll _ _ f = aA
     have r21 := qA 21 10 hA sbTfe5 zsz (hf 10 (by decide) (by decide))
     exact stg_val (by decide) rfl rfl (.int .u8 (B (fb (sh8 n)))) (ex_conv8 (.tmp 21) rfl (sh8 n) r21) hS (Flz.refl _) uS
    ·intro f w1 hS hf
     generalize hA : putAll _ _ f = aA
     have r16 := qA 16 5 hA sbTfe5 zsz (hf 5 (by decide) (by decide))
     have r22 := qA 22 11 hA sbTfe5 zsz (hf 11 (by decide) (by decide))
     exact stg_wp (by decide) rfl rfl (fun K hK => wp_lit8 2 _ rfl (((fbs n).map u8v).toArray) (by decide) (by decide) (by simp only [List.map_toArray, List.map_cons, List.map_nil, r16, r22]; kernel_rfl) (hK _ _ (hS.alloc hS.size _) (Flz.al _ _) ⟨_, uS, hS.size, Cl.made _ _ _⟩))
    ·intro f w1 hS hf
     generalize hA : putAll _ _ f = aA
     have e23 := pA 23 12 hA sbTfe5 (by kernel_rfl) zsz rfl rfl
     obtain ⟨g, hv, hg, hc⟩ := hf 12 (by decide) (by decide)
     exact stg_wp (by decide) rfl rfl (fun K hK => wp_one_bs (.tmp 23) rfl (some ⟨g, 0, none⟩) 2 2 (e23.trans hv) (hK _ _ (hS.alloc hS.size _) (Flz.al _ _) ⟨g, _, uS, Cl.made _ _ [_], hc.flz (Flz.al _ _)⟩))
    ·intro f w1 hS hf
     generalize hA : putAll _ _ f = aA
     have e24 := pA 24 13 hA sbTfe5 (by kernel_rfl) zsz rfl rfl
     obtain ⟨g, k, hv, hk, hc⟩ := hf 13 (by decide) (by decide)
     exact stg_call (by decide) rfl rfl 15 #[(.tmp 24)] _ rfl #[.slice (some ⟨k, 0, none⟩) 1 1] (by simp only [List.map_toArray, List.map_cons, List.map_nil, e24, hv]) (fun w => by kernel_rfl) (fun v _ => v = .agg (encU (fewS n)).toArray) (of_at9 hk hc (HL.out.keep (HB.out.trans (hS.mono HB.out.size)) HSZ.out)) (fun v w' hr hb => ⟨hS.trans (hb.mono hS.size), Flz.of hb, uS.trans hr⟩)
    ·intro f w1 hS hf
     generalize hA : putAll _ _ f = aA
     have r25 := qA 25 14 hA sbTfe5 zsz (hf 14 (by decide) (by decide))
     exact stg_wp (by decide) rfl rfl (fun K hK => wp_one_su 23 42 elSum (.tmp 25) rfl (fewS n) r25 (hK _ _ (hS.alloc hS.size _) (Flz.al _ _) ⟨_, uS, hS.size, Has.made' _ _ _ _ rfl⟩))
   intro f u5 hS hf hap
   have h0 := eqL (hf 0 (by decide) (by decide)) rfl
   have h1 : f 1 = v := hf 1 (by decide) (by decide)
   have h2 := eqL (hf 2 (by decide) (by decide)) rfl
   have h3 := eqL (hf 3 (by decide) (by decide)) rfl
   have h4 := eqL (hf 4 (by decide) (by decide)) rfl
   have h5 := eqL (hf 5 (by decide) (by decide)) rfl
   have h6 : f 6 = v := hf 6 (by decide) (by decide)
   have h7 := eqL (hf 7 (by decide) (by decide)) rfl
   have h8 := eqL (hf 8 (by decide) (by decide)) rfl
   have h9 := eqL (hf 9 (by decide) (by decide)) rfl
   have h10 := eqL (hf 10 (by decide) (by decide)) rfl
   have h11 := eqL (hf 11 (by decide) (by decide)) rfl
   obtain ⟨gl12, h12, -⟩ := hf 12 (by decide) (by decide)
   obtain ⟨_, gl13, h13, -⟩ := hf 13 (by decide) (by decide)
   have h14 := eqL (hf 14 (by decide) (by decide)) rfl
   obtain ⟨v5_15, h15, hu15⟩ := hf 15 (by decide) (by decide)
   have HU5_15 := Lib.hid hu15
   clear hu15
   clear hf hap
   clear zsz z3 z0 z4
   subst ha0
   simp only [slotsTfe5, putAll, h0, h1, h2, h3, h4, h5, h6, h7, h8, h9, h10, h11, h12, h13, h14, h15, Act.put, List.setIfInBounds_toArray, List.set_cons_zero, List.set_cons_succ]
   clear h0 h1 h2 h3 h4 h5 h6 h7 h8 h9 h10 h11 h12 h13 h14 h15
   have HO5 := Lib.hid (HO.out.keep hS)
   have HB5 := Lib.hid (HB.out.trans (hS.mono HB.out.size))
   have HBS5 := Lib.hid (HBS.out.keep hS)
   clear HO HB HBS hS
   refine rest_one (by kernel_rfl) (by kernel_rfl) (by decide) ?_
   refine wpOp_step rfl rfl (fun K hK => wp_append_su 23 42 elSum (.tmp 11) (.tmp 26) rfl b0 vs _ rfl HO5.out (some ⟨v5_15, 0, none⟩) [fewS n] 1 1 u5.heap.size rfl rfl (fun h => by cases h) (Ss.one HU5_15.out.2 HU5_15.out.2.lt) HLN.out HBS5.out ?_)
   intro vn w8 h1 h2
   refine hK _ _ ?_
   clear hK
   have HO8 : Hid (RowS b0 w8 vn ((l.take (i + 1)).map fewS)) := Lib.hid (by rw [HTK.out]; exact h1)
   have HB8 := Lib.hid (HB5.out.grown h2 HB5.out.size (fun k hk => Nat.le_trans HBB.out (OwnU.base HO5.out k hk)))
   have HBS8 : Hid (Szl b0 w8) := Lib.hid (Nat.le_trans HBS5.out h2.size)
   clear h1 h2 HO5 HB5 HBS5 HU5_15
   try simp only [Act.put, List.setIfInBounds_toArray, List.set_cons_zero, List.set_cons_succ]
   refine rest_one (by kernel_rfl) (by kernel_rfl) (by decide) ?_
   refine wpOp_step rfl rfl (fun K hK => wp_val9 (v := vn) (ex_assign (.tmp 27) rfl rfl) (hK _ _ ?_))
   clear hK
   try simp only [Act.put, List.setIfInBounds_toArray, List.set_cons_zero, List.set_cons_succ]
   refine rest_nilN (by kernel_rfl) ?_
   go_wp2_with fail
   go_roundw
   case rel => exact ⟨i + 1, by omega, by go_num, ⟨_, rfl, HO8.out⟩, HBS8.out, HB8.out⟩
   case measure => simp [intOf]; omega
  ·have hil : i = l.length := by omega
   have HLT : Hid (decide (((i : Int)) < (((l).length : Int))) = false) := Lib.hid (decide_eq_false (by omega))
   have HTA : Hid ((l.take i).map fewS = l.map fewS) := Lib.hid (by rw [hil, List.take_length])
   have HFL : Hid ((l.map fewS).length ≤ 10000) := Lib.hid (by simp; omega)
   clear hil
   have HU := Lib.hid (OwnU.us HO.out)
   rw [HTA.out] at HU
   clear HO HTA
   go_upto_region 3 with fail
   refine wp_act (fun a0 ha0 => ?_)
   have zsz : a0.tmps.size = 30 := by rw [ha0]; rfl
   have z4 : a0.eval (.tmp 4) = .int .i64 ((i : Int)) := by rw [ha0]; rfl
   have z0 : a0.eval (.tmp 0) = v := by rw [ha0]; rfl
   refine wrO [] slotsTfel3 waitTfel3 [Fct.val Flz 0 (.int .i64 ((i : Int))), Fct.val Flz 1 (v), Fct.val Flz 2 (.int .i64 (((l).length : Int))), Fct.val Flz 3 (.bool false)] (fun w' => Below wr.heap.size wr w') _ 4 0 chkTfel3 (by kernel_rfl) (by kernel_rfl) (by kernel_rfl) (by decide) (Below.refl _ _) ?_ ?_
   ·refine lt_s (lt_s (lt_s (lt_s (lt_0) ?_) ?_) ?_) ?_
    ·intro f w1 hS hf aA hA
     have r4 := qO 4 hA z4
     exact fV rfl rfl _ (ex_move (.tmp 4) rfl r4) hS uS
    ·intro f w1 hS hf aA hA
     have r0 := qO 0 hA z0
     exact fV rfl rfl _ (ex_move (.tmp 0) rfl r0) hS uS
    ·intro f w1 hS hf aA hA
     have r6 := qA 6 1 hA sbTfel3 zsz (hf 1 (by decide))
     obtain ⟨q9, c9, hv9, _⟩ := (HI.out.keep (HB.out.trans (hS.mono HB.out.size))).len
     exact fV rfl rfl _ (ex_len 38 3 (.tmp 6) rfl (by kernel_rfl) q9 (l).length c9 (r6.trans hv9)) hS uS
    ·intro f w1 hS hf aA hA
     have r5 := qA 5 0 hA sbTfel3 zsz (hf 0 (by decide))
     have r7 := qA 7 2 hA sbTfel3 zsz (hf 2 (by decide))
     exact fV rfl rfl _ (Eq.trans (ex_int .lss _ _ (.tmp 5) (.tmp 7) rfl .i64 ((i : Int)) (((l).length : Int)) r5 r7 (.bool (decide (((i : Int)) < (((l).length : Int))))) (fun _ => rfl)) (by rw [HLT.out])) hS uS
   intro f u4 hS hf hap
   have h0 := eqL (hf 0 (by decide)) rfl
   have h1 : f 1 = v := hf 1 (by decide)
   have h2 := eqL (hf 2 (by decide)) rfl
   have h3 := eqL (hf 3 (by decide)) rfl
   clear hf hap
   clear zsz z4 z0
   subst ha0
   simp only [slotsTfel3, putAll, h0, h1, h2, h3, Act.put, List.setIfInBounds_toArray, List.set_cons_zero, List.set_cons_succ]
   clear h0 h1 h2 h3
   refine tl_nil ?_
   replace HU := Lib.hid (HU.out.keep hS)
   replace HB := Lib.hid (HB.out.trans (hS.mono HB.out.size))
   clear hS
   have HOF := Lib.hid (us_of HU.out HFL.out)
   go_wp2_with ((with_reducible refine Calls.mono HOF.out ?_); rintro e u5 ⟨⟨vz, rfl, hs5⟩, hb5⟩; have HS5 := Lib.hid hs5; have HB5 := Lib.hid hb5; clear hs5 hb5)
   go_ret
   exact ⟨⟨_, rfl, vz, rfl, HS5.out⟩, HB.out.trans (HB5.out.mono HB.out.size)⟩
theorem few16_any (v : Value) (l : List Int) (w : World) (hL : Laid w) (hn : l.length ≤ 1000) (hI : Ins w v l) : Calls Tryd.prog 12 #[v] w fun e w' => (∃ v, e = .returned v ∧ ∃ x, v = x ∧ Us w' x (srt (l.map fewS))) ∧ Below w.heap.size w w' := few16_b v l w w (Below.refl _ _) hL hn hI
end Go.Proofs.YtnkcehmgagpadaaDoor
