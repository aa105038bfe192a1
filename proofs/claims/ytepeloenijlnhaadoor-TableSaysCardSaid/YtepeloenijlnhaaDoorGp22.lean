/- The calls of the laws over package table, as a walk wants them; the law's own awake: true. Condition: the sums' tables are laid. -/
import Derived.Test.YtepeloenijlnhaaDoorSq
import Derived.Test.YtepeloenijlnhaaDoorGp5
import Derived.Test.YtepeloenijlnhaaDoorGp3
import Derived.Test.YtepeloenijlnhaaDoorGp6
import Derived.Test.YtepeloenijlnhaaDoorGp23
import Derived.Test.YtepeloenijlnhaaDoorGp21
namespace Go.Proofs.YtepeloenijlnhaaDoor
open Go.RowKit
/-- A set's table. -/
def tab (s m : Nat) (A : List Su) : List Ce := layA putC s A (List.replicate m zC)
theorem okM_st {s t : Nat} {A B : List Ce} (h : okM s t A B = true) : s = t ∧ A.length = B.length := by
 unfold okM at h
 simp only [Bool.and_eq_true, decide_eq_true_eq] at h
 exact ⟨h.1.2, h.2⟩
theorem tab_len (s m : Nat) (A : List Su) : (tab s m A).length = m := by unfold tab; rw [layA_len, List.length_replicate]
theorem tab_small {s m : Nat} {A : List Su} (h : m ≤ 1024) : (tab s m A).length ≤ 1000000 := by rw [tab_len]; omega
theorem tab_small5 {s m : Nat} {A : List Su} (h : m ≤ 1024) : (tab s m A).length ≤ 10000 := by rw [tab_len]; omega
theorem tab_good {s m : Nat} {A : List Su} (h : goodN (m : Int) = true) : goodN ((tab s m A).length : Int) = true := by rw [tab_len]; exact h
theorem tab_ok {s m : Nat} {A B : List Su} (h : goodN (m : Int) = true) : okM s s (tab s m A) (tab s m B) = true := okM_of _ _ _ _ (tab_good h) (tab_good h) rfl (by rw [tab_len, tab_len])
theorem zip_len (s m : Nat) (A B : List Su) : (List.zipWith minusC (tab s m A) (tab s m B)).length = m := by rw [List.length_zipWith, tab_len, tab_len]; omega
theorem zip_small {s m : Nat} {A B : List Su} (h : m ≤ 1024) : (List.zipWith minusC (tab s m A) (tab s m B)).length ≤ 1000000 := by rw [zip_len]; omega
theorem zip_small5 {s m : Nat} {A B : List Su} (h : m ≤ 1024) : (List.zipWith minusC (tab s m A) (tab s m B)).length ≤ 10000 := by rw [zip_len]; omega
theorem lay_small {f : Ce → Su → Ce} {s m : Nat} {A : List Su} {x : Su} (h : m ≤ 1024) : (layT f s x (tab s m A)).length ≤ 1000000 := by rw [layT_len, tab_len]; omega
theorem lay_small5 {f : Ce → Su → Ce} {s m : Nat} {A : List Su} {x : Su} (h : m ≤ 1024) : (layT f s x (tab s m A)).length ≤ 10000 := by rw [layT_len, tab_len]; omega
theorem ofA_t (s : Nat) (n : Int) (m : Nat) (v : Value) (A : List Su) (hg : goodN n = true) (hm : n = m) (hA : AscU A) (w : World) (hs : s < 18446744073709551616) (hL : Laid w) (hn : A.length ≤ 10000) (hU : Us w v A) : Calls Tryd.prog 9 #[.int .u64 (s : Int), .int .i64 n, v] w fun e w' => (∃ v, e = .returned v ∧ ∃ zz, v = .tuple #[.agg #[.int .u64 (s : Int), zz], .int .i64 0] ∧ Cs w' zz (tab s m A)) ∧ Below w.heap.size w w' := by
 have e : ofT s n A = (s, tab s m A, 0) := by unfold ofT tab; rw [if_pos hg, hm, srt_asc hA]; rfl
 refine Calls.mono (ofT_any s n v A w hs hL hn hU) fun e' w' ⟨⟨v, h1, x, h2, h3⟩, h4⟩ => ?_
 rw [e] at h2 h3
 exact ⟨⟨v, h1, x, h2, h3⟩, h4⟩
theorem minusT_t (s : Nat) (u : Value) (A : List Ce) (t : Nat) (v : Value) (B : List Ce) (hk : okM s t A B = true) (w : World) (hM : A.length ≤ 1000000) (hA : Cs w u A) (hV : Cs w v B) : Calls Tryd.prog 10 #[.agg #[.int .u64 (s : Int), u], .agg #[.int .u64 (t : Int), v]] w fun e w' => (∃ v, e = .returned v ∧ ∃ zz, v = .tuple #[.agg #[.int .u64 (s : Int), zz], .int .i64 0] ∧ Cs w' zz (List.zipWith minusC A B)) ∧ Below w.heap.size w w' := by
 have e : minusT s A t B = (s, List.zipWith minusC A B, 0) := by unfold minusT; rw [if_pos hk]
 refine Calls.mono (minusT_any s u A t v B w (okM_st hk).1 (okM_st hk).2 hM hA hV) fun e' w' ⟨⟨v, h1, x, h2, h3⟩, h4⟩ => ?_
 rw [e] at h2 h3
 exact ⟨⟨v, h1, x, h2, h3⟩, h4⟩
theorem few15_us (v : Value) (l : List Int) (w : World) (hL : Laid w) (hn : l.length ≤ 1000) (hI : Ins w v l) : Calls Tryd.prog 25 #[v] w fun e w' => (∃ v, e = .returned v ∧ Us w' v (srt (l.map fewS))) ∧ Below w.heap.size w w' :=
 Calls.mono (few15_any v l w hL hn hI) fun _ _ ⟨⟨u, h1, _, h2, h3⟩, h4⟩ => ⟨⟨u, h1, h2 ▸ h3⟩, h4⟩
theorem asc_few (l : List Int) : AscU (srt (l.map fewS)) := asc_srt _
theorem len_few (l : List Int) (h : l.length ≤ 1000) : (srt (l.map fewS)).length ≤ 10000 := by have := len_srt_le (l.map fewS); rw [List.length_map] at this; omega
theorem wp_lit_ints9 {o : Oper} {a : Act} {w : World} {K : Act → World → Prop} {Q : Exit → Act → World → Prop} (n : Nat) (parts : Array (Nat × Operand)) (ho : o.op = .buildSlice 57 n parts) (cs : Array Value) (h0 : n ≠ 0) (h9 : n ≤ 16777216)
  (hf : Instr.fill (fun i => some (i * 1, 1)) ((Array.range (n * 1)).map ((Value.int .i64 0).cells[· % (Value.int .i64 0).cells.size]!)) (parts.map fun (i, x) => (i, a.eval x)).toList = some cs)
  (h : K (a.put o.dst (.slice (some ⟨w.heap.size, 0, none⟩) n n)) (w.alloc (.cells cs 3))) : o.wp Tryd.prog a w K Q := by
 obtain ⟨i8x, hi8, hz8, hs8, _⟩ := info_parts (show (Tryd.prog.info? 3).map (fun i => (i.zero, i.size, i.bytes)) = some (some (.int .i64 0), 1, 8) by kernel_rfl)
 refine wp_buildSlice 57 3 n parts ho cs i8x _ Tryd.underlying57 hi8 hz8 (by rw [hs8]; omega) (by rw [hs8]; omega) ?_ h
 rw [hs8]; exact hf
theorem Ins.litE9 (w : World) (l : List Int) (n : Nat) (hn : l.length = n) : Ins (w.alloc (.cells (l.map fun n => Value.int .i64 n).toArray 3)) (.slice (some ⟨w.heap.size, 0, .none⟩) n n) l := Ins.has (Has.made' _ _ _ _ rfl) hn
theorem tab_cnt {s m : Nat} {A : List Su} (h : goodN (m : Int) = true) (hA : A.length ≤ 10000) : cntT (tab s m A) = A.length := cnt_of A h hA
theorem zip_zero {s m : Nat} {A : List Su} (h : goodN (m : Int) = true) : zeroT (List.zipWith minusC (tab s m A) (tab s m A)) = true := zero_self (tab_good h)
theorem tab_nz {s m : Nat} {A : List Su} (h : goodN (m : Int) = true) (hA : A.length ≤ 10000) (h0 : 0 < A.length) : zeroT (tab s m A) = false := by
 cases hz : zeroT (tab s m A) with
 | false => rfl
 | true => have h1 := zero_cnt hz; rw [tab_cnt h hA] at h1; omega
theorem few_one (n : Int) : srt ([n].map fewS) = [fewS n] := rfl
def waitTaw1 (i : Nat) : List Nat := ([[], [0], [1]] : List (List Nat)).getD i []
def slotsTaw1 : List (Nat × Nat) := [(8, 0), (9, 1), (1, 2)]
theorem sbTaw1 : slotsB slotsTaw1 = true := by kernel_rfl
theorem chkTaw1 : flwO slotsTaw1 waitTaw1 3 (regOf Tryd.f7.body 1) = true := by kernel_rfl
def waitTaw2 (i : Nat) : List Nat := ([[], [0], [1], [2], [2], [], [0, 1, 2, 3, 4, 5], [0, 1, 2, 3, 4, 5, 6]] : List (List Nat)).getD i []
def slotsTaw2 : List (Nat × Nat) := [(11, 0), (12, 1), (10, 2), (13, 3), (14, 4), (2, 5), (3, 7)]
theorem sbTaw2 : slotsB slotsTaw2 = true := by kernel_rfl
theorem chkTaw2 : flwO slotsTaw2 waitTaw2 6 (regOf Tryd.f7.body 2) = true := by kernel_rfl
def waitTaw3 (i : Nat) : List Nat := ([[], [0], [1], [2], [2], [], [0, 1, 2, 3, 4, 5], [0, 1, 2, 3, 4, 5, 6]] : List (List Nat)).getD i []
def slotsTaw3 : List (Nat × Nat) := [(16, 0), (17, 1), (15, 2), (18, 3), (19, 4), (4, 5), (5, 7)]
theorem sbTaw3 : slotsB slotsTaw3 = true := by kernel_rfl
theorem chkTaw3 : flwO slotsTaw3 waitTaw3 6 (regOf Tryd.f7.body 3) = true := by kernel_rfl
def waitTaw4 (i : Nat) : List Nat := ([[], [], [0, 1], [2], [3], [3], [], [0, 1, 2, 3, 4, 5, 6], [0, 1, 2, 3, 4, 5, 6, 7]] : List (List Nat)).getD i []
def slotsTaw4 : List (Nat × Nat) := [(21, 0), (22, 1), (23, 2), (20, 3), (24, 4), (25, 5), (6, 6), (7, 8)]
theorem sbTaw4 : slotsB slotsTaw4 = true := by kernel_rfl
theorem chkTaw4 : flwO slotsTaw4 waitTaw4 7 (regOf Tryd.f7.body 4) = true := by kernel_rfl
def waitTaw5 (i : Nat) : List Nat := ([[], [0], [1], [2], [2, 3], [2, 4], [5], [6], [6, 7], [6, 8], [9], [10], [10, 11], [10, 12], [13], [14], [14, 15], [14, 16], [14, 17], [18], [19], [19, 20], [19, 21], [19, 22], [23]] : List (List Nat)).getD i []
def slotsTaw5 : List (Nat × Nat) := [(26, 0), (27, 1), (28, 2), (29, 3), (30, 4), (31, 5), (32, 6), (33, 7), (34, 8), (35, 9), (36, 10), (37, 11), (38, 12), (39, 13), (40, 14), (41, 15), (42, 16), (43, 17), (44, 18), (45, 19), (46, 20), (47, 21), (48, 22), (49, 23), (0, 24)]
theorem sbTaw5 : slotsB slotsTaw5 = true := by kernel_rfl
theorem chkTaw5 : flwO slotsTaw5 waitTaw5 25 (regOf Tryd.f7.body 5) = true := by kernel_rfl
set_option maxHeartbeats 8000000 in
set_option maxRecDepth 100000 in
theorem awake15_b  (w w0 : World) (hB : Below w.heap.size w w0) (hL : Laid w) : Calls Tryd.prog 7 #[] w0 fun e w' => (∃ v, e = .returned v ∧ v = .bool true) ∧ Below w.heap.size w w' := by
 go_enter Tryd.func7, Tryd.ntmps7
 have HB := Lib.hid hB
 clear hB
 have HL := Lib.hid hL
 have HSZ := Lib.hid hL.size
 clear hL
 go_upto_region 1 with fail
 refine wp_act (fun a0 ha0 => ?_)
 have zsz : a0.tmps.size = 50 := by rw [ha0]; rfl
 refine wrO [] slotsTaw1 waitTaw1 [Fct.obj 0 (fun v w => Ins w v ([1])) (fun _ _ _ h he => h.flzT he), Fct.obj 1 (fun v w => Us w v (srt (([1]).map fewS))) (fun _ _ _ h he => h.flz he), (⟨([2, 1], fun f _ => f 2 = f 1), fun f f' _ _ h _ hd => (show f' 2 = f' 1 by rw [hd 2 (by simp), hd 1 (by simp)]; exact h)⟩ : Fct Flz)] (fun w' => Below w0.heap.size w0 w') _ 3 0 chkTaw1 (by kernel_rfl) (by kernel_rfl) (by kernel_rfl) (by decide) (Below.refl _ _) ?_ ?_
 ·refine lt_s (lt_s (lt_s (lt_0) ?_) ?_) ?_
  ·intro f w1 hS hf aA hA
   exact flw_wp rfl rfl (fun K hK => wp_lit_ints9 1 _ rfl (([1] : List Int).map fun n => Value.int .i64 n).toArray (by decide) (by decide) (by kernel_rfl) (hK _ _ (hS.alloc hS.size _) (Flz.al _ _) (show Ins _ (updF f 0 _ 0) [1] by rw [updF_self]; exact Ins.litE9 _ _ 1 rfl)))
  ·intro f w1 hS hf aA hA
   have hu0 : Ins w1 (f 0) ([1]) := (hf 0 (by decide))
   have e8 : aA.eval (.tmp 8) = f 0 := pA 8 0 hA sbTaw1 (by kernel_rfl) zsz rfl rfl
   exact flw_call rfl rfl 25 #[(.tmp 8)] _ rfl #[f 0] (mp1 e8) (fun w => by kernel_rfl) (fun v w' => Us w' v (srt (([1]).map fewS))) (few15_us _ ([1]) w1 (HL.out.keep (HB.out.trans (hS.mono HB.out.size)) HSZ.out) (by decide) hu0) (fun v w' hr hb => ⟨hS.trans (hb.mono hS.size), Flz.of hb, (show Us w' (updF f 1 v 1) (srt (([1]).map fewS)) by rw [updF_self]; exact hr)⟩)
  ·intro f w1 hS hf aA hA
   have hu1 : Us w1 (f 1) (srt (([1]).map fewS)) := (hf 1 (by decide))
   have e9 : aA.eval (.tmp 9) = f 1 := pA 9 1 hA sbTaw1 (by kernel_rfl) zsz rfl rfl
   exact flw_val rfl rfl (f 1) (ex_assign (.tmp 9) rfl e9) hS (Flz.refl _) (show updF f 2 (f 1) 2 = updF f 2 (f 1) 1 by rw [updF_self, updF_ne f _ (by decide)])
 intro f u1 hS hf hap
 obtain ⟨v1_0, h0, hu0⟩ : ∃ v, f 0 = v ∧ Ins u1 v ([1]) := ⟨_, rfl, (hf 0 (by decide))⟩
 have HU1_0 := Lib.hid hu0
 clear hu0
 obtain ⟨v1_1, h1, hu1⟩ : ∃ v, f 1 = v ∧ Us u1 v (srt (([1]).map fewS)) := ⟨_, rfl, (hf 1 (by decide))⟩
 have HU1_1 := Lib.hid hu1
 clear hu1
 have h2 : f 2 = v1_1 := Eq.trans (hf 2 (by decide)) h1
 clear hf hap
 clear zsz
 subst ha0
 simp only [slotsTaw1, putAll, h0, h1, h2, Act.put, List.setIfInBounds_toArray, List.set_cons_zero, List.set_cons_succ]
 clear h0 h1 h2
 refine tl_nil ?_
 replace HB := Lib.hid (HB.out.trans (hS.mono HB.out.size))
 clear hS
 go_upto_region 2 with fail
 refine wp_act (fun a0 ha0 => ?_)
 have zsz : a0.tmps.size = 50 := by rw [ha0]; rfl
 have z1 : a0.eval (.tmp 1) = v1_1 := by rw [ha0]; rfl
 refine wrO [] slotsTaw2 waitTaw2 [Fct.val Flz 0 (v1_1), Fct.obj 1 (fun v w => ∃ zz, v = .tuple #[.agg #[.int .u64 5, zz], .int .i64 0] ∧ Cs w zz (tab 5 12 (srt (([1]).map fewS)))) (fun _ _ _ ⟨zz, a, b⟩ he => ⟨zz, a, b.flz he⟩), Fct.obj 2 (fun v w => ∃ zz, v = .tuple #[.agg #[.int .u64 5, zz], .int .i64 0] ∧ Cs w zz (tab 5 12 (srt (([1]).map fewS)))) (fun _ _ _ ⟨zz, a, b⟩ he => ⟨zz, a, b.flz he⟩), Fct.obj 3 (fun v w => ∃ zz, v = .agg #[.int .u64 5, zz] ∧ Cs w zz (tab 5 12 (srt (([1]).map fewS)))) (fun _ _ _ ⟨zz, a, b⟩ he => ⟨zz, a, b.flz he⟩), Fct.val Flz 4 (.int .i64 0), Fct.obj 5 (fun v w => ∃ g, v = .pointer (some ⟨g, 0, none⟩) ∧ u1.heap.size ≤ g ∧ Has w g 26 ([.int .u64 0, .slice none 0 0])) (fun _ _ _ ⟨g, a, b, c⟩ he => ⟨g, a, b, c.flz he (by decide)⟩)] (fun w' => Below u1.heap.size u1 w') _ 6 2 chkTaw2 (by kernel_rfl) (by kernel_rfl) (by kernel_rfl) (by decide) (Below.refl _ _) ?_ ?_
 ·refine lt_s (lt_s (lt_s (lt_s (lt_s (lt_s (lt_0) ?_) ?_) ?_) ?_) ?_) ?_
  ·intro f w1 hS hf aA hA
   have r1 : aA.eval (.tmp 1) = v1_1 := pO 1 hA (by kernel_rfl) z1
   exact fV rfl rfl (v1_1) (ex_move (.tmp 1) rfl r1) hS uS
  ·intro f w1 hS hf aA hA
   have r11 : aA.eval (.tmp 11) = v1_1 := pA 11 0 hA sbTaw2 (by kernel_rfl) zsz rfl (hf 0 (by decide))
   exact fC rfl rfl 9 #[_, _, (.tmp 11)] _ rfl #[.int .u64 5, .int .i64 12, v1_1] (by simp only [List.map_toArray, List.map_cons, List.map_nil, r11]; rfl) (fun w => by kernel_rfl) _ (ofA_t 5 12 12 _ _ (by decide) rfl (asc_few _) w1 (by decide) (HL.out.keep (HB.out.trans (hS.mono HB.out.size)) HSZ.out) (len_few _ (by decide)) (HU1_1.out.keep hS)) hS (fun _ _ ⟨zz, a, b⟩ => ⟨zz, uS.trans a, b⟩)
  ·intro f w1 hS hf aA hA
   obtain ⟨x12, hx12, hr12⟩ := hf 1 (by decide)
   have e12 : aA.eval (.tmp 12) = .tuple #[.agg #[.int .u64 5, x12], .int .i64 0] := pA 12 1 hA sbTaw2 (by kernel_rfl) zsz rfl hx12
   exact flw_val rfl rfl (.tuple #[.agg #[.int .u64 5, x12], .int .i64 0]) (ex_move (.tmp 12) rfl e12) hS (Flz.refl _) ⟨x12, uS, hr12⟩
  ·intro f w1 hS hf aA hA
   obtain ⟨x10, hx10, hr10⟩ := hf 2 (by decide)
   have e10 : aA.eval (.tmp 10) = .tuple #[.agg #[.int .u64 5, x10], .int .i64 0] := pA 10 2 hA sbTaw2 (by kernel_rfl) zsz rfl hx10
   exact flw_val rfl rfl (.agg #[.int .u64 5, x10]) (ex_extract (.tmp 10) 0 rfl e10 rfl) hS (Flz.refl _) ⟨x10, uS, hr10⟩
  ·intro f w1 hS hf aA hA
   obtain ⟨x10, hx10, hr10⟩ := hf 2 (by decide)
   have e10 : aA.eval (.tmp 10) = .tuple #[.agg #[.int .u64 5, x10], .int .i64 0] := pA 10 2 hA sbTaw2 (by kernel_rfl) zsz rfl hx10
   exact fV rfl rfl (.int .i64 0) (ex_extract (.tmp 10) 1 rfl e10 rfl) hS uS
  ·intro f w1 hS hf aA hA
   exact flw_wp rfl rfl (fun K hK => wp_alloc_row 26 rfl (.agg #[.int .u64 0, .slice none 0 0]) (fun w => by kernel_rfl) (hK _ _ (hS.alloc hS.size _) (Flz.al _ _) ⟨_, uS, hS.size, Has.made' _ _ _ _ rfl⟩))
 intro f x2 hS hf hap
 have h0 : f 0 = v1_1 := hf 0 (by decide)
 obtain ⟨v2_1, h1, -⟩ := hf 1 (by decide)
 obtain ⟨v2_2, h2, -⟩ := hf 2 (by decide)
 obtain ⟨v2_3, h3, hu3⟩ := hf 3 (by decide)
 have HU2_3 := Lib.hid hu3
 clear hu3
 have h4 : f 4 = .int .i64 0 := hf 4 (by decide)
 obtain ⟨b2_5, h5, hgb5, hhb5⟩ := hf 5 (by decide)
 clear hf hap
 clear zsz z1
 subst ha0
 simp only [slotsTaw2, putAll, h0, h1, h2, h3, h4, h5, Act.put, List.setIfInBounds_toArray, List.set_cons_zero, List.set_cons_succ]
 clear h0 h1 h2 h3 h4 h5
 refine tl_store rfl (by kernel_rfl) 26 (.tmp 2) (.tmp 13) rfl b2_5 ([.int .u64 5, v2_3]) _ rfl rfl _ hhb5 (by kernel_rfl) rfl (tb_ones _ HU2_3.out.one) ?_
 intro u2 hp5 hbl hot
 replace hS := hS.trans (hbl _ hgb5)
 replace HU2_3 := Lib.hid (HU2_3.out.hotb hhb5 ⟨_, _, _, rfl⟩ (by decide) (hbl 0 (Nat.zero_le _)).size hot)
 clear hbl hot hhb5
 try simp only [Act.put]
 refine tl_pure rfl (by kernel_rfl) (.int .i64 0) (ex_assign (.tmp 14) rfl rfl) ?_
 try simp only [Act.put, List.setIfInBounds_toArray, List.set_cons_zero, List.set_cons_succ]
 refine tl_nil ?_
 replace HU1_0 := Lib.hid (HU1_0.out.keep hS)
 replace HU1_1 := Lib.hid (HU1_1.out.keep hS)
 have HBW := Lib.hid HB.out.size
 replace HB := Lib.hid (HB.out.trans (hS.mono HB.out.size))
 clear hS
 have HGb2_5 : Hid (w.heap.size ≤ b2_5) := Lib.hid (Nat.le_trans HBW.out hgb5)
 have HX_b2_5 : Hid (Has u2 b2_5 26 ([.int .u64 5, v2_3])) := Lib.hid hp5
 clear hp5 hgb5
 clear HBW
 go_upto_region 3 with fail
 refine wp_act (fun a0 ha0 => ?_)
 have zsz : a0.tmps.size = 50 := by rw [ha0]; rfl
 have z1 : a0.eval (.tmp 1) = v1_1 := by rw [ha0]; rfl
 refine wrO [] slotsTaw3 waitTaw3 [Fct.val Flz 0 (v1_1), Fct.obj 1 (fun v w => ∃ zz, v = .tuple #[.agg #[.int .u64 5, zz], .int .i64 0] ∧ Cs w zz (tab 5 12 (srt (([1]).map fewS)))) (fun _ _ _ ⟨zz, a, b⟩ he => ⟨zz, a, b.flz he⟩), Fct.obj 2 (fun v w => ∃ zz, v = .tuple #[.agg #[.int .u64 5, zz], .int .i64 0] ∧ Cs w zz (tab 5 12 (srt (([1]).map fewS)))) (fun _ _ _ ⟨zz, a, b⟩ he => ⟨zz, a, b.flz he⟩), Fct.obj 3 (fun v w => ∃ zz, v = .agg #[.int .u64 5, zz] ∧ Cs w zz (tab 5 12 (srt (([1]).map fewS)))) (fun _ _ _ ⟨zz, a, b⟩ he => ⟨zz, a, b.flz he⟩), Fct.val Flz 4 (.int .i64 0), Fct.obj 5 (fun v w => ∃ g, v = .pointer (some ⟨g, 0, none⟩) ∧ u2.heap.size ≤ g ∧ Has w g 26 ([.int .u64 0, .slice none 0 0])) (fun _ _ _ ⟨g, a, b, c⟩ he => ⟨g, a, b, c.flz he (by decide)⟩)] (fun w' => Below u2.heap.size u2 w') _ 6 2 chkTaw3 (by kernel_rfl) (by kernel_rfl) (by kernel_rfl) (by decide) (Below.refl _ _) ?_ ?_
 ·refine lt_s (lt_s (lt_s (lt_s (lt_s (lt_s (lt_0) ?_) ?_) ?_) ?_) ?_) ?_
  ·intro f w1 hS hf aA hA
   have r1 : aA.eval (.tmp 1) = v1_1 := pO 1 hA (by kernel_rfl) z1
   exact fV rfl rfl (v1_1) (ex_move (.tmp 1) rfl r1) hS uS
  ·intro f w1 hS hf aA hA
   have r16 : aA.eval (.tmp 16) = v1_1 := pA 16 0 hA sbTaw3 (by kernel_rfl) zsz rfl (hf 0 (by decide))
   exact fC rfl rfl 9 #[_, _, (.tmp 16)] _ rfl #[.int .u64 5, .int .i64 12, v1_1] (by simp only [List.map_toArray, List.map_cons, List.map_nil, r16]; rfl) (fun w => by kernel_rfl) _ (ofA_t 5 12 12 _ _ (by decide) rfl (asc_few _) w1 (by decide) (HL.out.keep (HB.out.trans (hS.mono HB.out.size)) HSZ.out) (len_few _ (by decide)) (HU1_1.out.keep hS)) hS (fun _ _ ⟨zz, a, b⟩ => ⟨zz, uS.trans a, b⟩)
  ·intro f w1 hS hf aA hA
   obtain ⟨x17, hx17, hr17⟩ := hf 1 (by decide)
   have e17 : aA.eval (.tmp 17) = .tuple #[.agg #[.int .u64 5, x17], .int .i64 0] := pA 17 1 hA sbTaw3 (by kernel_rfl) zsz rfl hx17
   exact flw_val rfl rfl (.tuple #[.agg #[.int .u64 5, x17], .int .i64 0]) (ex_move (.tmp 17) rfl e17) hS (Flz.refl _) ⟨x17, uS, hr17⟩
  ·intro f w1 hS hf aA hA
   obtain ⟨x15, hx15, hr15⟩ := hf 2 (by decide)
   have e15 : aA.eval (.tmp 15) = .tuple #[.agg #[.int .u64 5, x15], .int .i64 0] := pA 15 2 hA sbTaw3 (by kernel_rfl) zsz rfl hx15
   exact flw_val rfl rfl (.agg #[.int .u64 5, x15]) (ex_extract (.tmp 15) 0 rfl e15 rfl) hS (Flz.refl _) ⟨x15, uS, hr15⟩
  ·intro f w1 hS hf aA hA
   obtain ⟨x15, hx15, hr15⟩ := hf 2 (by decide)
   have e15 : aA.eval (.tmp 15) = .tuple #[.agg #[.int .u64 5, x15], .int .i64 0] := pA 15 2 hA sbTaw3 (by kernel_rfl) zsz rfl hx15
   exact fV rfl rfl (.int .i64 0) (ex_extract (.tmp 15) 1 rfl e15 rfl) hS uS
  ·intro f w1 hS hf aA hA
   exact flw_wp rfl rfl (fun K hK => wp_alloc_row 26 rfl (.agg #[.int .u64 0, .slice none 0 0]) (fun w => by kernel_rfl) (hK _ _ (hS.alloc hS.size _) (Flz.al _ _) ⟨_, uS, hS.size, Has.made' _ _ _ _ rfl⟩))
 intro f x3 hS hf hap
 have h0 : f 0 = v1_1 := hf 0 (by decide)
 obtain ⟨v3_1, h1, -⟩ := hf 1 (by decide)
 obtain ⟨v3_2, h2, -⟩ := hf 2 (by decide)
 obtain ⟨v3_3, h3, hu3⟩ := hf 3 (by decide)
 have HU3_3 := Lib.hid hu3
 clear hu3
 have h4 : f 4 = .int .i64 0 := hf 4 (by decide)
 obtain ⟨b3_5, h5, hgb5, hhb5⟩ := hf 5 (by decide)
 clear hf hap
 clear zsz z1
 subst ha0
 simp only [slotsTaw3, putAll, h0, h1, h2, h3, h4, h5, Act.put, List.setIfInBounds_toArray, List.set_cons_zero, List.set_cons_succ]
 clear h0 h1 h2 h3 h4 h5
 refine tl_store rfl (by kernel_rfl) 26 (.tmp 4) (.tmp 18) rfl b3_5 ([.int .u64 5, v3_3]) _ rfl rfl _ hhb5 (by kernel_rfl) rfl (tb_ones _ HU3_3.out.one) ?_
 intro u3 hp5 hbl hot
 replace hS := hS.trans (hbl _ hgb5)
 replace HU3_3 := Lib.hid (HU3_3.out.hotb hhb5 ⟨_, _, _, rfl⟩ (by decide) (hbl 0 (Nat.zero_le _)).size hot)
 clear hbl hot hhb5
 try simp only [Act.put]
 refine tl_pure rfl (by kernel_rfl) (.int .i64 0) (ex_assign (.tmp 19) rfl rfl) ?_
 try simp only [Act.put, List.setIfInBounds_toArray, List.set_cons_zero, List.set_cons_succ]
 refine tl_nil ?_
 replace HU1_0 := Lib.hid (HU1_0.out.keep hS)
 replace HU1_1 := Lib.hid (HU1_1.out.keep hS)
 replace HX_b2_5 := Lib.hid (HX_b2_5.out.keepB hS)
 replace HU2_3 := Lib.hid (HU2_3.out.keep hS)
 have HBW := Lib.hid HB.out.size
 replace HB := Lib.hid (HB.out.trans (hS.mono HB.out.size))
 clear hS
 have HGb3_5 : Hid (w.heap.size ≤ b3_5) := Lib.hid (Nat.le_trans HBW.out hgb5)
 have HX_b3_5 : Hid (Has u3 b3_5 26 ([.int .u64 5, v3_3])) := Lib.hid hp5
 clear hp5 hgb5
 clear HBW
 go_upto_region 4 with fail
 refine wp_act (fun a0 ha0 => ?_)
 have zsz : a0.tmps.size = 50 := by rw [ha0]; rfl
 have z2 : a0.eval (.tmp 2) = .pointer (some ⟨b2_5, 0, none⟩) := by rw [ha0]; rfl
 have z4 : a0.eval (.tmp 4) = .pointer (some ⟨b3_5, 0, none⟩) := by rw [ha0]; rfl
 refine wrO [] slotsTaw4 waitTaw4 [Fct.val Flz 0 (.agg #[.int .u64 5, v2_3]), Fct.val Flz 1 (.agg #[.int .u64 5, v3_3]), Fct.obj 2 (fun v w => ∃ zz, v = .tuple #[.agg #[.int .u64 5, zz], .int .i64 0] ∧ Cs w zz (List.zipWith minusC (tab 5 12 (srt (([1]).map fewS))) (tab 5 12 (srt (([1]).map fewS))))) (fun _ _ _ ⟨zz, a, b⟩ he => ⟨zz, a, b.flz he⟩), Fct.obj 3 (fun v w => ∃ zz, v = .tuple #[.agg #[.int .u64 5, zz], .int .i64 0] ∧ Cs w zz (List.zipWith minusC (tab 5 12 (srt (([1]).map fewS))) (tab 5 12 (srt (([1]).map fewS))))) (fun _ _ _ ⟨zz, a, b⟩ he => ⟨zz, a, b.flz he⟩), Fct.obj 4 (fun v w => ∃ zz, v = .agg #[.int .u64 5, zz] ∧ Cs w zz (List.zipWith minusC (tab 5 12 (srt (([1]).map fewS))) (tab 5 12 (srt (([1]).map fewS))))) (fun _ _ _ ⟨zz, a, b⟩ he => ⟨zz, a, b.flz he⟩), Fct.val Flz 5 (.int .i64 0), Fct.obj 6 (fun v w => ∃ g, v = .pointer (some ⟨g, 0, none⟩) ∧ u3.heap.size ≤ g ∧ Has w g 26 ([.int .u64 0, .slice none 0 0])) (fun _ _ _ ⟨g, a, b, c⟩ he => ⟨g, a, b, c.flz he (by decide)⟩)] (fun w' => Below u3.heap.size u3 w') _ 7 2 chkTaw4 (by kernel_rfl) (by kernel_rfl) (by kernel_rfl) (by decide) (Below.refl _ _) ?_ ?_
 ·refine lt_s (lt_s (lt_s (lt_s (lt_s (lt_s (lt_s (lt_0) ?_) ?_) ?_) ?_) ?_) ?_) ?_
  ·intro f w1 hS hf aA hA
   have r2 : aA.eval (.tmp 2) = .pointer (some ⟨b2_5, 0, none⟩) := pO 2 hA (by kernel_rfl) z2
   exact fV rfl rfl (.agg #[.int .u64 5, v2_3]) (ex_loadR 26 (.tmp 2) rfl ⟨b2_5, 0, none⟩ r2 (fun _ => by kernel_rfl) [.int .u64 5, v2_3] (by kernel_rfl) ((HX_b2_5.out.keepB hS).part [.int .u64 5, v2_3] 0 (fun j u hu => by rw [Nat.zero_add]; exact hu))) hS uS
  ·intro f w1 hS hf aA hA
   have r4 : aA.eval (.tmp 4) = .pointer (some ⟨b3_5, 0, none⟩) := pO 4 hA (by kernel_rfl) z4
   exact fV rfl rfl (.agg #[.int .u64 5, v3_3]) (ex_loadR 26 (.tmp 4) rfl ⟨b3_5, 0, none⟩ r4 (fun _ => by kernel_rfl) [.int .u64 5, v3_3] (by kernel_rfl) ((HX_b3_5.out.keepB hS).part [.int .u64 5, v3_3] 0 (fun j u hu => by rw [Nat.zero_add]; exact hu))) hS uS
  ·intro f w1 hS hf aA hA
   have r21 : aA.eval (.tmp 21) = .agg #[.int .u64 5, v2_3] := pA 21 0 hA sbTaw4 (by kernel_rfl) zsz rfl (hf 0 (by decide))
   have r22 : aA.eval (.tmp 22) = .agg #[.int .u64 5, v3_3] := pA 22 1 hA sbTaw4 (by kernel_rfl) zsz rfl (hf 1 (by decide))
   exact fC rfl rfl 10 #[(.tmp 21), (.tmp 22)] _ rfl #[.agg #[.int .u64 5, v2_3], .agg #[.int .u64 5, v3_3]] (mp2 r21 r22) (fun w => by kernel_rfl) _ (minusT_t 5 _ _ 5 _ _ (tab_ok (by decide)) w1 (tab_small (by decide)) (HU2_3.out.keep hS) (HU3_3.out.keep hS)) hS (fun _ _ ⟨zz, a, b⟩ => ⟨zz, uS.trans a, b⟩)
  ·intro f w1 hS hf aA hA
   obtain ⟨x23, hx23, hr23⟩ := hf 2 (by decide)
   have e23 : aA.eval (.tmp 23) = .tuple #[.agg #[.int .u64 5, x23], .int .i64 0] := pA 23 2 hA sbTaw4 (by kernel_rfl) zsz rfl hx23
   exact flw_val rfl rfl (.tuple #[.agg #[.int .u64 5, x23], .int .i64 0]) (ex_move (.tmp 23) rfl e23) hS (Flz.refl _) ⟨x23, uS, hr23⟩
  ·intro f w1 hS hf aA hA
   obtain ⟨x20, hx20, hr20⟩ := hf 3 (by decide)
   have e20 : aA.eval (.tmp 20) = .tuple #[.agg #[.int .u64 5, x20], .int .i64 0] := pA 20 3 hA sbTaw4 (by kernel_rfl) zsz rfl hx20
   exact flw_val rfl rfl (.agg #[.int .u64 5, x20]) (ex_extract (.tmp 20) 0 rfl e20 rfl) hS (Flz.refl _) ⟨x20, uS, hr20⟩
  ·intro f w1 hS hf aA hA
   obtain ⟨x20, hx20, hr20⟩ := hf 3 (by decide)
   have e20 : aA.eval (.tmp 20) = .tuple #[.agg #[.int .u64 5, x20], .int .i64 0] := pA 20 3 hA sbTaw4 (by kernel_rfl) zsz rfl hx20
   exact fV rfl rfl (.int .i64 0) (ex_extract (.tmp 20) 1 rfl e20 rfl) hS uS
  ·intro f w1 hS hf aA hA
   exact flw_wp rfl rfl (fun K hK => wp_alloc_row 26 rfl (.agg #[.int .u64 0, .slice none 0 0]) (fun w => by kernel_rfl) (hK _ _ (hS.alloc hS.size _) (Flz.al _ _) ⟨_, uS, hS.size, Has.made' _ _ _ _ rfl⟩))
 intro f x4 hS hf hap
 have h0 : f 0 = .agg #[.int .u64 5, v2_3] := hf 0 (by decide)
 have h1 : f 1 = .agg #[.int .u64 5, v3_3] := hf 1 (by decide)
 obtain ⟨v4_2, h2, -⟩ := hf 2 (by decide)
 obtain ⟨v4_3, h3, -⟩ := hf 3 (by decide)
 obtain ⟨v4_4, h4, hu4⟩ := hf 4 (by decide)
 have HU4_4 := Lib.hid hu4
 clear hu4
 have h5 : f 5 = .int .i64 0 := hf 5 (by decide)
 obtain ⟨b4_6, h6, hgb6, hhb6⟩ := hf 6 (by decide)
 clear hf hap
 clear zsz z2 z4
 subst ha0
 simp only [slotsTaw4, putAll, h0, h1, h2, h3, h4, h5, h6, Act.put, List.setIfInBounds_toArray, List.set_cons_zero, List.set_cons_succ]
 clear h0 h1 h2 h3 h4 h5 h6
 refine tl_store rfl (by kernel_rfl) 26 (.tmp 6) (.tmp 24) rfl b4_6 ([.int .u64 5, v4_4]) _ rfl rfl _ hhb6 (by kernel_rfl) rfl (tb_ones _ HU4_4.out.one) ?_
 intro u4 hp6 hbl hot
 replace hS := hS.trans (hbl _ hgb6)
 replace HU4_4 := Lib.hid (HU4_4.out.hotb hhb6 ⟨_, _, _, rfl⟩ (by decide) (hbl 0 (Nat.zero_le _)).size hot)
 clear hbl hot hhb6
 try simp only [Act.put]
 refine tl_pure rfl (by kernel_rfl) (.int .i64 0) (ex_assign (.tmp 25) rfl rfl) ?_
 try simp only [Act.put, List.setIfInBounds_toArray, List.set_cons_zero, List.set_cons_succ]
 refine tl_nil ?_
 replace HU1_0 := Lib.hid (HU1_0.out.keep hS)
 replace HU1_1 := Lib.hid (HU1_1.out.keep hS)
 replace HX_b2_5 := Lib.hid (HX_b2_5.out.keepB hS)
 replace HU2_3 := Lib.hid (HU2_3.out.keep hS)
 replace HX_b3_5 := Lib.hid (HX_b3_5.out.keepB hS)
 replace HU3_3 := Lib.hid (HU3_3.out.keep hS)
 have HBW := Lib.hid HB.out.size
 replace HB := Lib.hid (HB.out.trans (hS.mono HB.out.size))
 clear hS
 have HGb4_6 : Hid (w.heap.size ≤ b4_6) := Lib.hid (Nat.le_trans HBW.out hgb6)
 have HX_b4_6 : Hid (Has u4 b4_6 26 ([.int .u64 5, v4_4])) := Lib.hid hp6
 clear hp6 hgb6
 clear HBW
 go_upto_region 5 with fail
 refine wp_act (fun a0 ha0 => ?_)
 have zsz : a0.tmps.size = 50 := by rw [ha0]; rfl
 have z3 : a0.eval (.tmp 3) = .int .i64 0 := by rw [ha0]; rfl
 have z5 : a0.eval (.tmp 5) = .int .i64 0 := by rw [ha0]; rfl
 have z7 : a0.eval (.tmp 7) = .int .i64 0 := by rw [ha0]; rfl
 have z6 : a0.eval (.tmp 6) = .pointer (some ⟨b4_6, 0, none⟩) := by rw [ha0]; rfl
 have z2 : a0.eval (.tmp 2) = .pointer (some ⟨b2_5, 0, none⟩) := by rw [ha0]; rfl
 refine wrO [] slotsTaw5 waitTaw5 [Fct.val Flz 0 (.int .i64 0), Fct.val Flz 1 (.bool true), Fct.val Flz 2 (.bool true), Fct.val Flz 3 (.int .i64 0), Fct.val Flz 4 (.bool true), Fct.val Flz 5 (.bool true), Fct.val Flz 6 (.bool true), Fct.val Flz 7 (.int .i64 0), Fct.val Flz 8 (.bool true), Fct.val Flz 9 (.bool true), Fct.val Flz 10 (.bool true), Fct.val Flz 11 (.agg #[.int .u64 5, v4_4]), Fct.val Flz 12 (.bool true), Fct.val Flz 13 (.bool true), Fct.val Flz 14 (.bool true), Fct.val Flz 15 (.agg #[.int .u64 5, v2_3]), Fct.val Flz 16 (.bool false), Fct.val Flz 17 (.bool true), Fct.val Flz 18 (.bool true), Fct.val Flz 19 (.bool true), Fct.val Flz 20 (.agg #[.int .u64 5, v2_3]), Fct.val Flz 21 (.int .i64 (cntT (tab 5 12 (srt (([1]).map fewS))))), Fct.val Flz 22 (.bool true), Fct.val Flz 23 (.bool true), Fct.val Flz 24 (.bool true)] (fun w' => Below u4.heap.size u4 w') _ 25 0 chkTaw5 (by kernel_rfl) (by kernel_rfl) (by kernel_rfl) (by decide) (Below.refl _ _) ?_ ?_
 ·refine lt_s (lt_s (lt_s (lt_s (lt_s (lt_s (lt_s (lt_s (lt_s (lt_s (lt_s (lt_s (lt_s (lt_s (lt_s (lt_s (lt_s (lt_s (lt_s (lt_s (lt_s (lt_s (lt_s (lt_s (lt_s (lt_0) ?_) ?_) ?_) ?_) ?_) ?_) ?_) ?_) ?_) ?_) ?_) ?_) ?_) ?_) ?_) ?_) ?_) ?_) ?_) ?_) ?_) ?_) ?_) ?_) ?_
  ·intro f w1 hS hf aA hA
   have r3 : aA.eval (.tmp 3) = .int .i64 0 := pO 3 hA (by kernel_rfl) z3
   exact fV rfl rfl (.int .i64 0) (ex_move (.tmp 3) rfl r3) hS uS
  ·intro f w1 hS hf aA hA
   have r26 : aA.eval (.tmp 26) = .int .i64 0 := pA 26 0 hA sbTaw5 (by kernel_rfl) zsz rfl (hf 0 (by decide))
   exact fV rfl rfl (.bool true) (Eq.trans (ex_int .eql _ _ (.tmp 26) _ rfl .i64 0 0 r26 rfl (.bool ((0 : Int) == (0 : Int))) (fun _ => rfl)) (by rw [(by decide : ((0 : Int) == (0 : Int)) = true)])) hS uS
  ·intro f w1 hS hf aA hA
   have r27 : aA.eval (.tmp 27) = .bool true := pA 27 1 hA sbTaw5 (by kernel_rfl) zsz rfl (hf 1 (by decide))
   exact fV rfl rfl (.bool true) (ex_move (.tmp 27) rfl r27) hS uS
  ·intro f w1 hS hf aA hA
   have t28 : aA.tmps[28]? = some (.bool true) := pG 28 2 hA sbTaw5 (by kernel_rfl) zsz rfl (hf 2 (by decide))
   have r5 : aA.eval (.tmp 5) = .int .i64 0 := pO 5 hA (by kernel_rfl) z5
   exact fV rfl ((wanted_of rfl 28 rfl t28).trans rfl) (.int .i64 0) (ex_move (.tmp 5) rfl r5) hS uS
  ·intro f w1 hS hf aA hA
   have t28 : aA.tmps[28]? = some (.bool true) := pG 28 2 hA sbTaw5 (by kernel_rfl) zsz rfl (hf 2 (by decide))
   have r29 : aA.eval (.tmp 29) = .int .i64 0 := pA 29 3 hA sbTaw5 (by kernel_rfl) zsz rfl (hf 3 (by decide))
   exact fV rfl ((wanted_of rfl 28 rfl t28).trans rfl) (.bool true) (Eq.trans (ex_int .eql _ _ (.tmp 29) _ rfl .i64 0 0 r29 rfl (.bool ((0 : Int) == (0 : Int))) (fun _ => rfl)) (by rw [(by decide : ((0 : Int) == (0 : Int)) = true)])) hS uS
  ·intro f w1 hS hf aA hA
   have r28 : aA.eval (.tmp 28) = .bool true := pA 28 2 hA sbTaw5 (by kernel_rfl) zsz rfl (hf 2 (by decide))
   have r30 : aA.eval (.tmp 30) = .bool true := pA 30 4 hA sbTaw5 (by kernel_rfl) zsz rfl (hf 4 (by decide))
   exact fV rfl rfl (.bool true) (ex_pick (.tmp 28) (.tmp 30) _ rfl true r28 ((if_pos rfl).trans r30)) hS uS
  ·intro f w1 hS hf aA hA
   have r31 : aA.eval (.tmp 31) = .bool true := pA 31 5 hA sbTaw5 (by kernel_rfl) zsz rfl (hf 5 (by decide))
   exact fV rfl rfl (.bool true) (ex_move (.tmp 31) rfl r31) hS uS
  ·intro f w1 hS hf aA hA
   have t32 : aA.tmps[32]? = some (.bool true) := pG 32 6 hA sbTaw5 (by kernel_rfl) zsz rfl (hf 6 (by decide))
   have r7 : aA.eval (.tmp 7) = .int .i64 0 := pO 7 hA (by kernel_rfl) z7
   exact fV rfl ((wanted_of rfl 32 rfl t32).trans rfl) (.int .i64 0) (ex_move (.tmp 7) rfl r7) hS uS
  ·intro f w1 hS hf aA hA
   have t32 : aA.tmps[32]? = some (.bool true) := pG 32 6 hA sbTaw5 (by kernel_rfl) zsz rfl (hf 6 (by decide))
   have r33 : aA.eval (.tmp 33) = .int .i64 0 := pA 33 7 hA sbTaw5 (by kernel_rfl) zsz rfl (hf 7 (by decide))
   exact fV rfl ((wanted_of rfl 32 rfl t32).trans rfl) (.bool true) (Eq.trans (ex_int .eql _ _ (.tmp 33) _ rfl .i64 0 0 r33 rfl (.bool ((0 : Int) == (0 : Int))) (fun _ => rfl)) (by rw [(by decide : ((0 : Int) == (0 : Int)) = true)])) hS uS
  ·intro f w1 hS hf aA hA
   have r32 : aA.eval (.tmp 32) = .bool true := pA 32 6 hA sbTaw5 (by kernel_rfl) zsz rfl (hf 6 (by decide))
   have r34 : aA.eval (.tmp 34) = .bool true := pA 34 8 hA sbTaw5 (by kernel_rfl) zsz rfl (hf 8 (by decide))
   exact fV rfl rfl (.bool true) (ex_pick (.tmp 32) (.tmp 34) _ rfl true r32 ((if_pos rfl).trans r34)) hS uS
  ·intro f w1 hS hf aA hA
   have r35 : aA.eval (.tmp 35) = .bool true := pA 35 9 hA sbTaw5 (by kernel_rfl) zsz rfl (hf 9 (by decide))
   exact fV rfl rfl (.bool true) (ex_move (.tmp 35) rfl r35) hS uS
  ·intro f w1 hS hf aA hA
   have t36 : aA.tmps[36]? = some (.bool true) := pG 36 10 hA sbTaw5 (by kernel_rfl) zsz rfl (hf 10 (by decide))
   have r6 : aA.eval (.tmp 6) = .pointer (some ⟨b4_6, 0, none⟩) := pO 6 hA (by kernel_rfl) z6
   exact fV rfl ((wanted_of rfl 36 rfl t36).trans rfl) (.agg #[.int .u64 5, v4_4]) (ex_loadR 26 (.tmp 6) rfl ⟨b4_6, 0, none⟩ r6 (fun _ => by kernel_rfl) [.int .u64 5, v4_4] (by kernel_rfl) ((HX_b4_6.out.keepB hS).part [.int .u64 5, v4_4] 0 (fun j u hu => by rw [Nat.zero_add]; exact hu))) hS uS
  ·intro f w1 hS hf aA hA
   have t36 : aA.tmps[36]? = some (.bool true) := pG 36 10 hA sbTaw5 (by kernel_rfl) zsz rfl (hf 10 (by decide))
   have r37 : aA.eval (.tmp 37) = .agg #[.int .u64 5, v4_4] := pA 37 11 hA sbTaw5 (by kernel_rfl) zsz rfl (hf 11 (by decide))
   exact fC rfl ((wanted_of rfl 36 rfl t36).trans rfl) 12 #[(.tmp 37)] _ rfl #[.agg #[.int .u64 5, v4_4]] (mp1 r37) (fun w => by kernel_rfl) _ (as_any (zeroT_any _ _ _ w1 (zip_small (by decide)) (HU4_4.out.keep hS)) (congrArg Value.bool (zip_zero (by decide)))) hS (fun _ _ h => uS.trans h)
  ·intro f w1 hS hf aA hA
   have r36 : aA.eval (.tmp 36) = .bool true := pA 36 10 hA sbTaw5 (by kernel_rfl) zsz rfl (hf 10 (by decide))
   have r38 : aA.eval (.tmp 38) = .bool true := pA 38 12 hA sbTaw5 (by kernel_rfl) zsz rfl (hf 12 (by decide))
   exact fV rfl rfl (.bool true) (ex_pick (.tmp 36) (.tmp 38) _ rfl true r36 ((if_pos rfl).trans r38)) hS uS
  ·intro f w1 hS hf aA hA
   have r39 : aA.eval (.tmp 39) = .bool true := pA 39 13 hA sbTaw5 (by kernel_rfl) zsz rfl (hf 13 (by decide))
   exact fV rfl rfl (.bool true) (ex_move (.tmp 39) rfl r39) hS uS
  ·intro f w1 hS hf aA hA
   have t40 : aA.tmps[40]? = some (.bool true) := pG 40 14 hA sbTaw5 (by kernel_rfl) zsz rfl (hf 14 (by decide))
   have r2 : aA.eval (.tmp 2) = .pointer (some ⟨b2_5, 0, none⟩) := pO 2 hA (by kernel_rfl) z2
   exact fV rfl ((wanted_of rfl 40 rfl t40).trans rfl) (.agg #[.int .u64 5, v2_3]) (ex_loadR 26 (.tmp 2) rfl ⟨b2_5, 0, none⟩ r2 (fun _ => by kernel_rfl) [.int .u64 5, v2_3] (by kernel_rfl) ((HX_b2_5.out.keepB hS).part [.int .u64 5, v2_3] 0 (fun j u hu => by rw [Nat.zero_add]; exact hu))) hS uS
  ·intro f w1 hS hf aA hA
   have t40 : aA.tmps[40]? = some (.bool true) := pG 40 14 hA sbTaw5 (by kernel_rfl) zsz rfl (hf 14 (by decide))
   have r41 : aA.eval (.tmp 41) = .agg #[.int .u64 5, v2_3] := pA 41 15 hA sbTaw5 (by kernel_rfl) zsz rfl (hf 15 (by decide))
   exact fC rfl ((wanted_of rfl 40 rfl t40).trans rfl) 12 #[(.tmp 41)] _ rfl #[.agg #[.int .u64 5, v2_3]] (mp1 r41) (fun w => by kernel_rfl) _ (as_any (zeroT_any _ _ _ w1 (tab_small (by decide)) (HU2_3.out.keep hS)) (congrArg Value.bool (tab_nz (by decide) (len_few _ (by decide)) (by rw [few_one]; decide)))) hS (fun _ _ h => uS.trans h)
  ·intro f w1 hS hf aA hA
   have t40 : aA.tmps[40]? = some (.bool true) := pG 40 14 hA sbTaw5 (by kernel_rfl) zsz rfl (hf 14 (by decide))
   have r42 : aA.eval (.tmp 42) = .bool false := pA 42 16 hA sbTaw5 (by kernel_rfl) zsz rfl (hf 16 (by decide))
   exact fV rfl ((wanted_of rfl 40 rfl t40).trans rfl) (.bool true) (ex_not _ (.tmp 42) rfl r42) hS uS
  ·intro f w1 hS hf aA hA
   have r40 : aA.eval (.tmp 40) = .bool true := pA 40 14 hA sbTaw5 (by kernel_rfl) zsz rfl (hf 14 (by decide))
   have r43 : aA.eval (.tmp 43) = .bool true := pA 43 17 hA sbTaw5 (by kernel_rfl) zsz rfl (hf 17 (by decide))
   exact fV rfl rfl (.bool true) (ex_pick (.tmp 40) (.tmp 43) _ rfl true r40 ((if_pos rfl).trans r43)) hS uS
  ·intro f w1 hS hf aA hA
   have r44 : aA.eval (.tmp 44) = .bool true := pA 44 18 hA sbTaw5 (by kernel_rfl) zsz rfl (hf 18 (by decide))
   exact fV rfl rfl (.bool true) (ex_move (.tmp 44) rfl r44) hS uS
  ·intro f w1 hS hf aA hA
   have t45 : aA.tmps[45]? = some (.bool true) := pG 45 19 hA sbTaw5 (by kernel_rfl) zsz rfl (hf 19 (by decide))
   have r2 : aA.eval (.tmp 2) = .pointer (some ⟨b2_5, 0, none⟩) := pO 2 hA (by kernel_rfl) z2
   exact fV rfl ((wanted_of rfl 45 rfl t45).trans rfl) (.agg #[.int .u64 5, v2_3]) (ex_loadR 26 (.tmp 2) rfl ⟨b2_5, 0, none⟩ r2 (fun _ => by kernel_rfl) [.int .u64 5, v2_3] (by kernel_rfl) ((HX_b2_5.out.keepB hS).part [.int .u64 5, v2_3] 0 (fun j u hu => by rw [Nat.zero_add]; exact hu))) hS uS
  ·intro f w1 hS hf aA hA
   have t45 : aA.tmps[45]? = some (.bool true) := pG 45 19 hA sbTaw5 (by kernel_rfl) zsz rfl (hf 19 (by decide))
   have r46 : aA.eval (.tmp 46) = .agg #[.int .u64 5, v2_3] := pA 46 20 hA sbTaw5 (by kernel_rfl) zsz rfl (hf 20 (by decide))
   exact fC rfl ((wanted_of rfl 45 rfl t45).trans rfl) 13 #[(.tmp 46)] _ rfl #[.agg #[.int .u64 5, v2_3]] (mp1 r46) (fun w => by kernel_rfl) _ (countT_any _ _ _ w1 (tab_small (by decide)) (HU2_3.out.keep hS)) hS (fun _ _ h => uS.trans h)
  ·intro f w1 hS hf aA hA
   have t45 : aA.tmps[45]? = some (.bool true) := pG 45 19 hA sbTaw5 (by kernel_rfl) zsz rfl (hf 19 (by decide))
   have r47 : aA.eval (.tmp 47) = .int .i64 (cntT (tab 5 12 (srt (([1]).map fewS)))) := pA 47 21 hA sbTaw5 (by kernel_rfl) zsz rfl (hf 21 (by decide))
   exact fV rfl ((wanted_of rfl 45 rfl t45).trans rfl) (.bool true) (Eq.trans (ex_int .eql _ _ (.tmp 47) _ rfl .i64 (cntT (tab 5 12 (srt (([1]).map fewS)))) 1 r47 rfl (.bool ((cntT (tab 5 12 (srt (([1]).map fewS)))) == (1 : Int))) (fun _ => rfl)) (by rw [(show ((cntT (tab 5 12 (srt (([1]).map fewS)))) == (1 : Int)) = true by rw [tab_cnt (by decide) (len_few _ (by decide)), few_one]; rfl)])) hS uS
  ·intro f w1 hS hf aA hA
   have r45 : aA.eval (.tmp 45) = .bool true := pA 45 19 hA sbTaw5 (by kernel_rfl) zsz rfl (hf 19 (by decide))
   have r48 : aA.eval (.tmp 48) = .bool true := pA 48 22 hA sbTaw5 (by kernel_rfl) zsz rfl (hf 22 (by decide))
   exact fV rfl rfl (.bool true) (ex_pick (.tmp 45) (.tmp 48) _ rfl true r45 ((if_pos rfl).trans r48)) hS uS
  ·intro f w1 hS hf aA hA
   have r49 : aA.eval (.tmp 49) = .bool true := pA 49 23 hA sbTaw5 (by kernel_rfl) zsz rfl (hf 23 (by decide))
   exact fV rfl rfl (.bool true) (ex_assign (.tmp 49) rfl r49) hS uS
 intro f u5 hS hf hap
 have h0 : f 0 = .int .i64 0 := hf 0 (by decide)
 have h1 : f 1 = .bool true := hf 1 (by decide)
 have h2 : f 2 = .bool true := hf 2 (by decide)
 have h3 : f 3 = .int .i64 0 := hf 3 (by decide)
 have h4 : f 4 = .bool true := hf 4 (by decide)
 have h5 : f 5 = .bool true := hf 5 (by decide)
 have h6 : f 6 = .bool true := hf 6 (by decide)
 have h7 : f 7 = .int .i64 0 := hf 7 (by decide)
 have h8 : f 8 = .bool true := hf 8 (by decide)
 have h9 : f 9 = .bool true := hf 9 (by decide)
 have h10 : f 10 = .bool true := hf 10 (by decide)
 have h11 : f 11 = .agg #[.int .u64 5, v4_4] := hf 11 (by decide)
 have h12 : f 12 = .bool true := hf 12 (by decide)
 have h13 : f 13 = .bool true := hf 13 (by decide)
 have h14 : f 14 = .bool true := hf 14 (by decide)
 have h15 : f 15 = .agg #[.int .u64 5, v2_3] := hf 15 (by decide)
 have h16 : f 16 = .bool false := hf 16 (by decide)
 have h17 : f 17 = .bool true := hf 17 (by decide)
 have h18 : f 18 = .bool true := hf 18 (by decide)
 have h19 : f 19 = .bool true := hf 19 (by decide)
 have h20 : f 20 = .agg #[.int .u64 5, v2_3] := hf 20 (by decide)
 have h21 : f 21 = .int .i64 (cntT (tab 5 12 (srt (([1]).map fewS)))) := hf 21 (by decide)
 have h22 : f 22 = .bool true := hf 22 (by decide)
 have h23 : f 23 = .bool true := hf 23 (by decide)
 have h24 : f 24 = .bool true := hf 24 (by decide)
 clear hf hap
 clear zsz z3 z5 z7 z6 z2
 subst ha0
 simp only [slotsTaw5, putAll, h0, h1, h2, h3, h4, h5, h6, h7, h8, h9, h10, h11, h12, h13, h14, h15, h16, h17, h18, h19, h20, h21, h22, h23, h24, Act.put, List.setIfInBounds_toArray, List.set_cons_zero, List.set_cons_succ]
 clear h0 h1 h2 h3 h4 h5 h6 h7 h8 h9 h10 h11 h12 h13 h14 h15 h16 h17 h18 h19 h20 h21 h22 h23 h24
 refine tl_nil ?_
 replace HU1_0 := Lib.hid (HU1_0.out.keep hS)
 replace HU1_1 := Lib.hid (HU1_1.out.keep hS)
 replace HX_b2_5 := Lib.hid (HX_b2_5.out.keepB hS)
 replace HU2_3 := Lib.hid (HU2_3.out.keep hS)
 replace HX_b3_5 := Lib.hid (HX_b3_5.out.keepB hS)
 replace HU3_3 := Lib.hid (HU3_3.out.keep hS)
 replace HX_b4_6 := Lib.hid (HX_b4_6.out.keepB hS)
 replace HU4_4 := Lib.hid (HU4_4.out.keep hS)
 replace HB := Lib.hid (HB.out.trans (hS.mono HB.out.size))
 clear hS
 go_wp2_with fail
 go_ret
 exact ⟨⟨_, rfl, rfl⟩, HB.out⟩
theorem awake15_any  (w : World) (hL : Laid w) : Calls Tryd.prog 7 #[] w fun e w' => (∃ v, e = .returned v ∧ v = .bool true) ∧ Below w.heap.size w w' := awake15_b  w w (Below.refl _ _) hL
end Go.Proofs.YtepeloenijlnhaaDoor
/- Contracts: the document's own Zero, Count. Condition: at most 10^6 cells. -/
namespace Go.Proofs.YtepeloenijlnhaaDoor
open Go.RowKit
theorem take_all {L : List Ce} {i : Nat} (h : i < L.length) : (L.take (i + 1)).all (fun c => decide (c = zC)) = ((L.take i).all (fun c => decide (c = zC)) && decide (L[i] = zC)) := by
 rw [List.take_succ_eq_append_getElem h, List.all_append]; simp
theorem not_all {L : List Ce} {i : Nat} (h : i < L.length) (hz : ¬ L[i] = zC) : L.all (fun c => decide (c = zC)) = false := by
 rw [List.all_eq_false]; exact ⟨L[i], List.getElem_mem h, by simp [hz]⟩
def waitTszl2 (i : Nat) : List Nat := ([[], [], [1], [2], [0, 3]] : List (List Nat)).getD i []
def slotsTszl2 : List (Nat × Nat) := [(4, 0), (5, 1), (6, 2), (7, 3), (8, 4)]
theorem sbTszl2 : slotsB slotsTszl2 = true := by kernel_rfl
theorem chkTszl2 : flwO slotsTszl2 waitTszl2 5 (regOf Tryd.f23.body 2) = true := by kernel_rfl
def waitTsz4f4 (i : Nat) : List Nat := ([[], [0], [], [1, 2], [3], [], [4, 5]] : List (List Nat)).getD i []
def slotsTsz4f4 : List (Nat × Nat) := [(11, 0), (12, 1), (13, 2), (14, 3), (15, 4), (16, 5), (17, 6)]
theorem sbTsz4f4 : slotsB slotsTsz4f4 = true := by kernel_rfl
theorem chkTsz4f4 : flwO slotsTsz4f4 waitTsz4f4 7 (regOf Tryd.f23.body 4) = true := by kernel_rfl
def waitTsz4t4 (i : Nat) : List Nat := ([[], [0], [], [1, 2], [3], [], [4, 5]] : List (List Nat)).getD i []
def slotsTsz4t4 : List (Nat × Nat) := [(11, 0), (12, 1), (13, 2), (14, 3), (15, 4), (16, 5), (17, 6)]
theorem sbTsz4t4 : slotsB slotsTsz4t4 = true := by kernel_rfl
theorem chkTsz4t4 : flwO slotsTsz4t4 waitTsz4t4 7 (regOf Tryd.f23.body 4) = true := by kernel_rfl
def waitTsze2 (i : Nat) : List Nat := ([[], [], [1], [2], [0, 3]] : List (List Nat)).getD i []
def slotsTsze2 : List (Nat × Nat) := [(4, 0), (5, 1), (6, 2), (7, 3), (8, 4)]
theorem sbTsze2 : slotsB slotsTsze2 = true := by kernel_rfl
theorem chkTsze2 : flwO slotsTsze2 waitTsze2 5 (regOf Tryd.f23.body 2) = true := by kernel_rfl
def waitTsze6 (i : Nat) : List Nat := ([[], [0], [1], [2], [3]] : List (List Nat)).getD i []
def slotsTsze6 : List (Nat × Nat) := [(18, 0), (19, 1), (20, 2), (21, 3), (2, 4)]
theorem sbTsze6 : slotsB slotsTsze6 = true := by kernel_rfl
theorem chkTsze6 : flwO slotsTsze6 waitTsze6 5 (regOf Tryd.f23.body 6) = true := by kernel_rfl
set_option maxHeartbeats 8000000 in
set_option maxRecDepth 100000 in
theorem rzeroT_b (s : Nat) (v : Value) (L : List Ce) (w w0 : World) (hB : Below w.heap.size w w0) (hM : L.length ≤ 1000000) (hC : Cs w v L) : Calls Tryd.prog 23 #[.agg #[.int .u64 (s : Int), v]] w0 fun e w' => (∃ v, e = .returned v ∧ v = .bool (zeroT L)) ∧ Below w.heap.size w w' := by
 go_enter Tryd.func23, Tryd.ntmps23
 have HB := Lib.hid hB
 clear hB
 have HC := Lib.hid hC
 clear hC
 go_upto_region 0 with fail
 refine wp_region_lit ?_
 try simp only [Act.put, List.setIfInBounds_toArray, List.set_cons_zero, List.set_cons_succ]
 refine lp_step rfl (fun K hK => wp_box_row 37 (.tmp 0) rfl (.agg #[.int .u64 (s : Int), v]) rfl (hK _ _ ?_))
 try simp only [Act.put, List.setIfInBounds_toArray, List.set_cons_zero, List.set_cons_succ]
 show wpList _ _ _ _ _ (w0.alloc (.cells (([.int .u64 (s : Int), v] : List Value)).toArray 37))
 have HST : Hid (Below w0.heap.size w0 (w0.alloc (.cells (([.int .u64 (s : Int), v] : List Value)).toArray 37))) := Lib.hid ((Below.refl _ _).alloc (Nat.le_refl _) _)
 have HX1 : Hid (Has (w0.alloc (.cells (([.int .u64 (s : Int), v] : List Value)).toArray 37)) w0.heap.size 37 ([.int .u64 (s : Int), v])) := Lib.hid (Has.made' _ _ _ _ rfl)
 have HGg1 : Hid (w.heap.size ≤ w0.heap.size) := Lib.hid HB.out.size
 replace HB := Lib.hid (HB.out.trans (HST.out.mono HB.out.size))
 clear HST
 generalize w0.alloc (.cells (([.int .u64 (s : Int), v] : List Value)).toArray 37) = w1 at *
 generalize w0.heap.size = g1 at *
 refine lp_pure (v := .bool false) rfl (ex_assign _ rfl rfl) ?_
 try simp only [Act.put, List.setIfInBounds_toArray, List.set_cons_zero, List.set_cons_succ]
 refine wpList_nil ?_
 have HZT : Hid (zeroT L = (goodN (L.length : Int) && L.all (fun c => decide (c = zC)))) := Lib.hid rfl
 go_wp2_with fail
 go_loopw [3] (fun vi wr => ∃ i : Nat, i ≤ L.length ∧ vi = .int .i64 i ∧ (L.take i).all (fun c => decide (c = zC)) = true ∧ Has wr g1 37 [.int .u64 (s : Int), v] ∧ Below w.heap.size w wr) (fun vi _ => L.length - (intOf vi).toNat)
 case atStart => exact ⟨0, by omega, rfl, rfl, HX1.out, HB.out⟩
 case round =>
  clear HX1 HB
  rename_i wr
  obtain ⟨i, hi, rfl, ha, hx1, hB⟩ := hrel
  have HAL := Lib.hid ha
  have HX1 := Lib.hid hx1
  have HB := Lib.hid hB
  clear ha hx1 hB
  by_cases hlt : i < L.length
  ·have HLT : Hid (decide (((i : Int)) < (((L).length : Int))) = true) := Lib.hid (decide_eq_true (by omega))
   have HTA := Lib.hid (take_all hlt)
   go_upto_region 2 with fail
   refine wp_act (fun a0 ha0 => ?_)
   have zsz : a0.tmps.size = 22 := by rw [ha0]; rfl
   have z3 : a0.eval (.tmp 3) = .int .i64 ((i : Int)) := by rw [ha0]; rfl
   have z1 : a0.eval (.tmp 1) = .pointer (some ⟨g1, 0, none⟩) := by rw [ha0]; rfl
   refine wrO [] slotsTszl2 waitTszl2 [Fct.val Flz 0 (.int .i64 ((i : Int))), Fct.val Flz 1 (.pointer (some ⟨g1, 1, none⟩)), Fct.val Flz 2 (v), Fct.val Flz 3 (.int .i64 (((L).length : Int))), Fct.val Flz 4 (.bool true)] (fun w' => Below wr.heap.size wr w') _ 5 0 chkTszl2 (by kernel_rfl) (by kernel_rfl) (by kernel_rfl) (by decide) (Below.refl _ _) ?_ ?_
   ·refine lt_s (lt_s (lt_s (lt_s (lt_s (lt_0) ?_) ?_) ?_) ?_) ?_
    ·intro f w1 hS hf aA hA
     have r3 : aA.eval (.tmp 3) = .int .i64 ((i : Int)) := pO 3 hA (by kernel_rfl) z3
     exact fV rfl rfl (.int .i64 ((i : Int))) (ex_move (.tmp 3) rfl r3) hS uS
    ·intro f w1 hS hf aA hA
     have r1 : aA.eval (.tmp 1) = .pointer (some ⟨g1, 0, none⟩) := pO 1 hA (by kernel_rfl) z1
     exact fV rfl rfl (.pointer (some ⟨g1, 1, none⟩)) (fldT1 37 (Or.inr rfl) (.tmp 1) rfl g1 r1) hS uS
    ·intro f w1 hS hf aA hA
     have r5 : aA.eval (.tmp 5) = .pointer (some ⟨g1, 1, none⟩) := pA 5 1 hA sbTszl2 (by kernel_rfl) zsz rfl (hf 1 (by decide))
     exact fV rfl rfl (v) (ex_load1 35 (.tmp 5) rfl ⟨g1, 1, none⟩ r5 (fun _ => by kernel_rfl) ((HX1.out.keepB hS).cellv rfl)) hS uS
    ·intro f w1 hS hf aA hA
     have r6 : aA.eval (.tmp 6) = v := pA 6 2 hA sbTszl2 (by kernel_rfl) zsz rfl (hf 2 (by decide))
     obtain ⟨q9, c9, hv9, _⟩ := (HC.out.keep (HB.out.trans (hS.mono HB.out.size)))
     exact fV rfl rfl (.int .i64 (((L).length : Int))) (ex_len 35 73 (.tmp 6) rfl (by kernel_rfl) q9 (L).length c9 (r6.trans hv9)) hS uS
    ·intro f w1 hS hf aA hA
     have r4 : aA.eval (.tmp 4) = .int .i64 ((i : Int)) := pA 4 0 hA sbTszl2 (by kernel_rfl) zsz rfl (hf 0 (by decide))
     have r7 : aA.eval (.tmp 7) = .int .i64 (((L).length : Int)) := pA 7 3 hA sbTszl2 (by kernel_rfl) zsz rfl (hf 3 (by decide))
     exact fV rfl rfl (.bool true) (Eq.trans (ex_int .lss _ _ (.tmp 4) (.tmp 7) rfl .i64 ((i : Int)) (((L).length : Int)) r4 r7 (.bool (decide (((i : Int)) < (((L).length : Int))))) (fun _ => rfl)) (by rw [HLT.out])) hS uS
   intro f u4 hS hf hap
   have h0 : f 0 = .int .i64 ((i : Int)) := hf 0 (by decide)
   have h1 : f 1 = .pointer (some ⟨g1, 1, none⟩) := hf 1 (by decide)
   have h2 : f 2 = v := hf 2 (by decide)
   have h3 : f 3 = .int .i64 (((L).length : Int)) := hf 3 (by decide)
   have h4 : f 4 = .bool true := hf 4 (by decide)
   clear hf hap
   clear zsz z3 z1
   subst ha0
   simp only [slotsTszl2, putAll, h0, h1, h2, h3, h4, Act.put, List.setIfInBounds_toArray, List.set_cons_zero, List.set_cons_succ]
   clear h0 h1 h2 h3 h4
   refine tl_nil ?_
   replace HX1 := Lib.hid (HX1.out.keepB hS)
   replace HB := Lib.hid (HB.out.trans (hS.mono HB.out.size))
   clear hS
   obtain ⟨a, cp2, hv, _, hc⟩ := (HC.out.keep HB.out).el hlt
   have HV := Lib.hid hv
   have HCC := Lib.hid hc
   clear hv hc
   by_cases hz : L[i] = zC
   ·have HZC := Lib.hid hz
    clear hz
    go_upto_region 4 with fail
    refine wp_act (fun a0 ha0 => ?_)
    have zsz : a0.tmps.size = 22 := by rw [ha0]; rfl
    have z1 : a0.eval (.tmp 1) = .pointer (some ⟨g1, 0, none⟩) := by rw [ha0]; rfl
    have z3 : a0.eval (.tmp 3) = .int .i64 ((i : Int)) := by rw [ha0]; rfl
    refine wrO [] slotsTsz4f4 waitTsz4f4 [Fct.val Flz 0 (.pointer (some ⟨g1, 1, none⟩)), Fct.val Flz 1 (v), Fct.val Flz 2 (.int .i64 ((i : Int))), Fct.val Flz 3 (.pointer (some (a.add (i * 65)))), Fct.val Flz 4 (aggC ((L[i]))), Fct.val Flz 5 (aggC zC), Fct.val Flz 6 (.bool false)] (fun w' => Below u4.heap.size u4 w') _ 7 0 chkTsz4f4 (by kernel_rfl) (by kernel_rfl) (by kernel_rfl) (by decide) (Below.refl _ _) ?_ ?_
    ·refine lt_s (lt_s (lt_s (lt_s (lt_s (lt_s (lt_s (lt_0) ?_) ?_) ?_) ?_) ?_) ?_) ?_
     ·intro f w1 hS hf aA hA
      have r1 : aA.eval (.tmp 1) = .pointer (some ⟨g1, 0, none⟩) := pO 1 hA (by kernel_rfl) z1
      exact fV rfl rfl (.pointer (some ⟨g1, 1, none⟩)) (fldT1 37 (Or.inr rfl) (.tmp 1) rfl g1 r1) hS uS
     ·intro f w1 hS hf aA hA
      have r11 : aA.eval (.tmp 11) = .pointer (some ⟨g1, 1, none⟩) := pA 11 0 hA sbTsz4f4 (by kernel_rfl) zsz rfl (hf 0 (by decide))
      exact fV rfl rfl (v) (ex_load1 35 (.tmp 11) rfl ⟨g1, 1, none⟩ r11 (fun _ => by kernel_rfl) ((HX1.out.keepB hS).cellv rfl)) hS uS
     ·intro f w1 hS hf aA hA
      have r3 : aA.eval (.tmp 3) = .int .i64 ((i : Int)) := pO 3 hA (by kernel_rfl) z3
      exact fV rfl rfl (.int .i64 ((i : Int))) (ex_move (.tmp 3) rfl r3) hS uS
     ·intro f w1 hS hf aA hA
      have r12 : aA.eval (.tmp 12) = v := pA 12 1 hA sbTsz4f4 (by kernel_rfl) zsz rfl (hf 1 (by decide))
      have r13 : aA.eval (.tmp 13) = .int .i64 ((i : Int)) := pA 13 2 hA sbTsz4f4 (by kernel_rfl) zsz rfl (hf 2 (by decide))
      exact fV rfl rfl (.pointer (some (a.add (i * 65)))) (ex_indexS 35 73 (.tmp 12) (.tmp 13) rfl a L.length cp2 i 65 (by kernel_rfl) (fun _ => by kernel_rfl) (Eq.trans r12 HV.out) r13 hlt) hS uS
     ·intro f w1 hS hf aA hA
      have r14 : aA.eval (.tmp 14) = .pointer (some (a.add (i * 65))) := pA 14 3 hA sbTsz4f4 (by kernel_rfl) zsz rfl (hf 3 (by decide))
      exact fV rfl rfl (aggC ((L[i]))) (ex_loadR 73 (.tmp 14) rfl (a.add (i * 65)) r14 (fun _ => by kernel_rfl) (encC ((L[i]))) (by rw [encC_len]; kernel_rfl) (HCC.out w1 hS.block)) hS uS
     ·intro f w1 hS hf aA hA
      exact fV rfl rfl (aggC zC) (ex_build 73 _ rfl (encC zC).toArray [] (by kernel_rfl) (builtR0)) hS uS
     ·intro f w1 hS hf aA hA
      have r15 : aA.eval (.tmp 15) = aggC ((L[i])) := pA 15 4 hA sbTsz4f4 (by kernel_rfl) zsz rfl (hf 4 (by decide))
      have r16 : aA.eval (.tmp 16) = aggC zC := pA 16 5 hA sbTsz4f4 (by kernel_rfl) zsz rfl (hf 5 (by decide))
      exact fV rfl rfl (.bool false) (Eq.trans (neqR (.tmp 15) (.tmp 16) _ rfl ((L[i])) zC r15 r16) (by rw [(show (!decide (L[i] = zC)) = false by rw [decide_eq_true HZC.out]; rfl)])) hS uS
    intro f u5 hS hf hap
    have h0 : f 0 = .pointer (some ⟨g1, 1, none⟩) := hf 0 (by decide)
    have h1 : f 1 = v := hf 1 (by decide)
    have h2 : f 2 = .int .i64 ((i : Int)) := hf 2 (by decide)
    have h3 : f 3 = .pointer (some (a.add (i * 65))) := hf 3 (by decide)
    have h4 : f 4 = aggC ((L[i])) := hf 4 (by decide)
    have h5 : f 5 = aggC zC := hf 5 (by decide)
    have h6 : f 6 = .bool false := hf 6 (by decide)
    clear hf hap
    clear zsz z1 z3
    subst ha0
    simp only [slotsTsz4f4, putAll, h0, h1, h2, h3, h4, h5, h6, Act.put, List.setIfInBounds_toArray, List.set_cons_zero, List.set_cons_succ]
    clear h0 h1 h2 h3 h4 h5 h6
    refine tl_nil ?_
    replace HX1 := Lib.hid (HX1.out.keepB hS)
    replace HB := Lib.hid (HB.out.trans (hS.mono HB.out.size))
    clear hS
    go_wp2_with fail
    go_roundw
    case rel => exact ⟨i + 1, by omega, by go_num, by rw [HTA.out, HAL.out, decide_eq_true HZC.out]; rfl, HX1.out, HB.out⟩
    case measure => simp [intOf]; omega
   ·have HZC := Lib.hid hz
    clear hz
    go_upto_region 4 with fail
    refine wp_act (fun a0 ha0 => ?_)
    have zsz : a0.tmps.size = 22 := by rw [ha0]; rfl
    have z1 : a0.eval (.tmp 1) = .pointer (some ⟨g1, 0, none⟩) := by rw [ha0]; rfl
    have z3 : a0.eval (.tmp 3) = .int .i64 ((i : Int)) := by rw [ha0]; rfl
    refine wrO [] slotsTsz4t4 waitTsz4t4 [Fct.val Flz 0 (.pointer (some ⟨g1, 1, none⟩)), Fct.val Flz 1 (v), Fct.val Flz 2 (.int .i64 ((i : Int))), Fct.val Flz 3 (.pointer (some (a.add (i * 65)))), Fct.val Flz 4 (aggC ((L[i]))), Fct.val Flz 5 (aggC zC), Fct.val Flz 6 (.bool true)] (fun w' => Below u4.heap.size u4 w') _ 7 0 chkTsz4t4 (by kernel_rfl) (by kernel_rfl) (by kernel_rfl) (by decide) (Below.refl _ _) ?_ ?_
    ·refine lt_s (lt_s (lt_s (lt_s (lt_s (lt_s (lt_s (lt_0) ?_) ?_) ?_) ?_) ?_) ?_) ?_
     ·intro f w1 hS hf aA hA
      have r1 : aA.eval (.tmp 1) = .pointer (some ⟨g1, 0, none⟩) := pO 1 hA (by kernel_rfl) z1
      exact fV rfl rfl (.pointer (some ⟨g1, 1, none⟩)) (fldT1 37 (Or.inr rfl) (.tmp 1) rfl g1 r1) hS uS
     ·intro f w1 hS hf aA hA
      have r11 : aA.eval (.tmp 11) = .pointer (some ⟨g1, 1, none⟩) := pA 11 0 hA sbTsz4t4 (by kernel_rfl) zsz rfl (hf 0 (by decide))
      exact fV rfl rfl (v) (ex_load1 35 (.tmp 11) rfl ⟨g1, 1, none⟩ r11 (fun _ => by kernel_rfl) ((HX1.out.keepB hS).cellv rfl)) hS uS
     ·intro f w1 hS hf aA hA
      have r3 : aA.eval (.tmp 3) = .int .i64 ((i : Int)) := pO 3 hA (by kernel_rfl) z3
      exact fV rfl rfl (.int .i64 ((i : Int))) (ex_move (.tmp 3) rfl r3) hS uS
     ·intro f w1 hS hf aA hA
      have r12 : aA.eval (.tmp 12) = v := pA 12 1 hA sbTsz4t4 (by kernel_rfl) zsz rfl (hf 1 (by decide))
      have r13 : aA.eval (.tmp 13) = .int .i64 ((i : Int)) := pA 13 2 hA sbTsz4t4 (by kernel_rfl) zsz rfl (hf 2 (by decide))
      exact fV rfl rfl (.pointer (some (a.add (i * 65)))) (ex_indexS 35 73 (.tmp 12) (.tmp 13) rfl a L.length cp2 i 65 (by kernel_rfl) (fun _ => by kernel_rfl) (Eq.trans r12 HV.out) r13 hlt) hS uS
     ·intro f w1 hS hf aA hA
      have r14 : aA.eval (.tmp 14) = .pointer (some (a.add (i * 65))) := pA 14 3 hA sbTsz4t4 (by kernel_rfl) zsz rfl (hf 3 (by decide))
      exact fV rfl rfl (aggC ((L[i]))) (ex_loadR 73 (.tmp 14) rfl (a.add (i * 65)) r14 (fun _ => by kernel_rfl) (encC ((L[i]))) (by rw [encC_len]; kernel_rfl) (HCC.out w1 hS.block)) hS uS
     ·intro f w1 hS hf aA hA
      exact fV rfl rfl (aggC zC) (ex_build 73 _ rfl (encC zC).toArray [] (by kernel_rfl) (builtR0)) hS uS
     ·intro f w1 hS hf aA hA
      have r15 : aA.eval (.tmp 15) = aggC ((L[i])) := pA 15 4 hA sbTsz4t4 (by kernel_rfl) zsz rfl (hf 4 (by decide))
      have r16 : aA.eval (.tmp 16) = aggC zC := pA 16 5 hA sbTsz4t4 (by kernel_rfl) zsz rfl (hf 5 (by decide))
      exact fV rfl rfl (.bool true) (Eq.trans (neqR (.tmp 15) (.tmp 16) _ rfl ((L[i])) zC r15 r16) (by rw [(show (!decide (L[i] = zC)) = true by rw [decide_eq_false HZC.out]; rfl)])) hS uS
    intro f u5 hS hf hap
    have h0 : f 0 = .pointer (some ⟨g1, 1, none⟩) := hf 0 (by decide)
    have h1 : f 1 = v := hf 1 (by decide)
    have h2 : f 2 = .int .i64 ((i : Int)) := hf 2 (by decide)
    have h3 : f 3 = .pointer (some (a.add (i * 65))) := hf 3 (by decide)
    have h4 : f 4 = aggC ((L[i])) := hf 4 (by decide)
    have h5 : f 5 = aggC zC := hf 5 (by decide)
    have h6 : f 6 = .bool true := hf 6 (by decide)
    clear hf hap
    clear zsz z1 z3
    subst ha0
    simp only [slotsTsz4t4, putAll, h0, h1, h2, h3, h4, h5, h6, Act.put, List.setIfInBounds_toArray, List.set_cons_zero, List.set_cons_succ]
    clear h0 h1 h2 h3 h4 h5 h6
    refine tl_nil ?_
    replace HX1 := Lib.hid (HX1.out.keepB hS)
    replace HB := Lib.hid (HB.out.trans (hS.mono HB.out.size))
    clear hS
    go_wp2_with fail
    go_ret
    exact ⟨⟨_, rfl, (show Value.bool false = _ by rw [HZT.out, not_all hlt HZC.out, Bool.and_false])⟩, HB.out⟩
  ·have hiL : i = L.length := by omega
   have HALL : Hid (L.all (fun c => decide (c = zC)) = true) := Lib.hid (by have := HAL.out; rwa [hiL, List.take_length] at this)
   have HLT : Hid (decide (((i : Int)) < (((L).length : Int))) = false) := Lib.hid (decide_eq_false (by omega))
   clear hiL
   go_upto_region 2 with fail
   refine wp_act (fun a0 ha0 => ?_)
   have zsz : a0.tmps.size = 22 := by rw [ha0]; rfl
   have z3 : a0.eval (.tmp 3) = .int .i64 ((i : Int)) := by rw [ha0]; rfl
   have z1 : a0.eval (.tmp 1) = .pointer (some ⟨g1, 0, none⟩) := by rw [ha0]; rfl
   refine wrO [] slotsTsze2 waitTsze2 [Fct.val Flz 0 (.int .i64 ((i : Int))), Fct.val Flz 1 (.pointer (some ⟨g1, 1, none⟩)), Fct.val Flz 2 (v), Fct.val Flz 3 (.int .i64 (((L).length : Int))), Fct.val Flz 4 (.bool false)] (fun w' => Below wr.heap.size wr w') _ 5 0 chkTsze2 (by kernel_rfl) (by kernel_rfl) (by kernel_rfl) (by decide) (Below.refl _ _) ?_ ?_
   ·refine lt_s (lt_s (lt_s (lt_s (lt_s (lt_0) ?_) ?_) ?_) ?_) ?_
    ·intro f w1 hS hf aA hA
     have r3 : aA.eval (.tmp 3) = .int .i64 ((i : Int)) := pO 3 hA (by kernel_rfl) z3
     exact fV rfl rfl (.int .i64 ((i : Int))) (ex_move (.tmp 3) rfl r3) hS uS
    ·intro f w1 hS hf aA hA
     have r1 : aA.eval (.tmp 1) = .pointer (some ⟨g1, 0, none⟩) := pO 1 hA (by kernel_rfl) z1
     exact fV rfl rfl (.pointer (some ⟨g1, 1, none⟩)) (fldT1 37 (Or.inr rfl) (.tmp 1) rfl g1 r1) hS uS
    ·intro f w1 hS hf aA hA
     have r5 : aA.eval (.tmp 5) = .pointer (some ⟨g1, 1, none⟩) := pA 5 1 hA sbTsze2 (by kernel_rfl) zsz rfl (hf 1 (by decide))
     exact fV rfl rfl (v) (ex_load1 35 (.tmp 5) rfl ⟨g1, 1, none⟩ r5 (fun _ => by kernel_rfl) ((HX1.out.keepB hS).cellv rfl)) hS uS
    ·intro f w1 hS hf aA hA
     have r6 : aA.eval (.tmp 6) = v := pA 6 2 hA sbTsze2 (by kernel_rfl) zsz rfl (hf 2 (by decide))
     obtain ⟨q9, c9, hv9, _⟩ := (HC.out.keep (HB.out.trans (hS.mono HB.out.size)))
     exact fV rfl rfl (.int .i64 (((L).length : Int))) (ex_len 35 73 (.tmp 6) rfl (by kernel_rfl) q9 (L).length c9 (r6.trans hv9)) hS uS
    ·intro f w1 hS hf aA hA
     have r4 : aA.eval (.tmp 4) = .int .i64 ((i : Int)) := pA 4 0 hA sbTsze2 (by kernel_rfl) zsz rfl (hf 0 (by decide))
     have r7 : aA.eval (.tmp 7) = .int .i64 (((L).length : Int)) := pA 7 3 hA sbTsze2 (by kernel_rfl) zsz rfl (hf 3 (by decide))
     exact fV rfl rfl (.bool false) (Eq.trans (ex_int .lss _ _ (.tmp 4) (.tmp 7) rfl .i64 ((i : Int)) (((L).length : Int)) r4 r7 (.bool (decide (((i : Int)) < (((L).length : Int))))) (fun _ => rfl)) (by rw [HLT.out])) hS uS
   intro f u4 hS hf hap
   have h0 : f 0 = .int .i64 ((i : Int)) := hf 0 (by decide)
   have h1 : f 1 = .pointer (some ⟨g1, 1, none⟩) := hf 1 (by decide)
   have h2 : f 2 = v := hf 2 (by decide)
   have h3 : f 3 = .int .i64 (((L).length : Int)) := hf 3 (by decide)
   have h4 : f 4 = .bool false := hf 4 (by decide)
   clear hf hap
   clear zsz z3 z1
   subst ha0
   simp only [slotsTsze2, putAll, h0, h1, h2, h3, h4, Act.put, List.setIfInBounds_toArray, List.set_cons_zero, List.set_cons_succ]
   clear h0 h1 h2 h3 h4
   refine tl_nil ?_
   replace HX1 := Lib.hid (HX1.out.keepB hS)
   replace HB := Lib.hid (HB.out.trans (hS.mono HB.out.size))
   clear hS
   go_upto_region 6 with fail
   refine wp_act (fun a0 ha0 => ?_)
   have zsz : a0.tmps.size = 22 := by rw [ha0]; rfl
   have z1 : a0.eval (.tmp 1) = .pointer (some ⟨g1, 0, none⟩) := by rw [ha0]; rfl
   refine wrO [] slotsTsze6 waitTsze6 [Fct.val Flz 0 (.pointer (some ⟨g1, 1, none⟩)), Fct.val Flz 1 (v), Fct.val Flz 2 (.int .i64 (((L).length : Int))), Fct.val Flz 3 (.bool (goodN (((L).length : Int)))), Fct.val Flz 4 (.bool (goodN (((L).length : Int))))] (fun w' => Below u4.heap.size u4 w') _ 5 0 chkTsze6 (by kernel_rfl) (by kernel_rfl) (by kernel_rfl) (by decide) (Below.refl _ _) ?_ ?_
   ·refine lt_s (lt_s (lt_s (lt_s (lt_s (lt_0) ?_) ?_) ?_) ?_) ?_
    ·intro f w1 hS hf aA hA
     have r1 : aA.eval (.tmp 1) = .pointer (some ⟨g1, 0, none⟩) := pO 1 hA (by kernel_rfl) z1
     exact fV rfl rfl (.pointer (some ⟨g1, 1, none⟩)) (fldT1 37 (Or.inr rfl) (.tmp 1) rfl g1 r1) hS uS
    ·intro f w1 hS hf aA hA
     have r18 : aA.eval (.tmp 18) = .pointer (some ⟨g1, 1, none⟩) := pA 18 0 hA sbTsze6 (by kernel_rfl) zsz rfl (hf 0 (by decide))
     exact fV rfl rfl (v) (ex_load1 35 (.tmp 18) rfl ⟨g1, 1, none⟩ r18 (fun _ => by kernel_rfl) ((HX1.out.keepB hS).cellv rfl)) hS uS
    ·intro f w1 hS hf aA hA
     have r19 : aA.eval (.tmp 19) = v := pA 19 1 hA sbTsze6 (by kernel_rfl) zsz rfl (hf 1 (by decide))
     obtain ⟨q9, c9, hv9, _⟩ := (HC.out.keep (HB.out.trans (hS.mono HB.out.size)))
     exact fV rfl rfl (.int .i64 (((L).length : Int))) (ex_len 35 73 (.tmp 19) rfl (by kernel_rfl) q9 (L).length c9 (r19.trans hv9)) hS uS
    ·intro f w1 hS hf aA hA
     have r20 : aA.eval (.tmp 20) = .int .i64 (((L).length : Int)) := pA 20 2 hA sbTsze6 (by kernel_rfl) zsz rfl (hf 2 (by decide))
     exact fC rfl rfl 41 #[(.tmp 20)] _ rfl #[.int .i64 (((L).length : Int))] (mp1 r20) (fun w => by kernel_rfl) _ (goodR14_any (((L).length : Int)) w1) hS (fun _ _ h => uS.trans h)
    ·intro f w1 hS hf aA hA
     have r21 : aA.eval (.tmp 21) = .bool (goodN (((L).length : Int))) := pA 21 3 hA sbTsze6 (by kernel_rfl) zsz rfl (hf 3 (by decide))
     exact fV rfl rfl (.bool (goodN (((L).length : Int)))) (ex_assign (.tmp 21) rfl r21) hS uS
   intro f u6 hS hf hap
   have h0 : f 0 = .pointer (some ⟨g1, 1, none⟩) := hf 0 (by decide)
   have h1 : f 1 = v := hf 1 (by decide)
   have h2 : f 2 = .int .i64 (((L).length : Int)) := hf 2 (by decide)
   have h3 : f 3 = .bool (goodN (((L).length : Int))) := hf 3 (by decide)
   have h4 : f 4 = .bool (goodN (((L).length : Int))) := hf 4 (by decide)
   clear hf hap
   clear zsz z1
   subst ha0
   simp only [slotsTsze6, putAll, h0, h1, h2, h3, h4, Act.put, List.setIfInBounds_toArray, List.set_cons_zero, List.set_cons_succ]
   clear h0 h1 h2 h3 h4
   refine tl_nil ?_
   replace HX1 := Lib.hid (HX1.out.keepB hS)
   replace HB := Lib.hid (HB.out.trans (hS.mono HB.out.size))
   clear hS
   go_wp2_with fail
   go_ret
   exact ⟨⟨_, rfl, (show Value.bool (goodN (L.length : Int)) = _ by rw [HZT.out, HALL.out, Bool.and_true])⟩, HB.out⟩
theorem rzeroT_any (s : Nat) (v : Value) (L : List Ce) (w : World) (hM : L.length ≤ 1000000) (hC : Cs w v L) : Calls Tryd.prog 23 #[.agg #[.int .u64 (s : Int), v]] w fun e w' => (∃ v, e = .returned v ∧ v = .bool (zeroT L)) ∧ Below w.heap.size w w' := rzeroT_b s v L w w (Below.refl _ _) hM hC
def waitTsc3b3 (i : Nat) : List Nat := ([[], [], [1], [2], [3], [0, 4], [5], [6], [6, 7], [6, 8], [6, 9], [6, 10]] : List (List Nat)).getD i []
def slotsTsc3b3 : List (Nat × Nat) := [(5, 0), (6, 1), (7, 2), (8, 3), (9, 4), (10, 5), (11, 6), (12, 7), (13, 8), (14, 9), (15, 10), (16, 11)]
theorem sbTsc3b3 : slotsB slotsTsc3b3 = true := by kernel_rfl
theorem chkTsc3b3 : flwO slotsTsc3b3 waitTsc3b3 12 (regOf Tryd.f24.body 3) = true := by kernel_rfl
def waitTsc3t3 (i : Nat) : List Nat := ([[], [], [1], [2], [3], [0, 4], [5], [6], [6], [6], [6], [6, 10]] : List (List Nat)).getD i []
def slotsTsc3t3 : List (Nat × Nat) := [(5, 0), (6, 1), (7, 2), (8, 3), (9, 4), (10, 5), (11, 6), (12, 7), (13, 8), (14, 9), (15, 10), (16, 11)]
theorem sbTsc3t3 : slotsB slotsTsc3t3 = true := by kernel_rfl
theorem chkTsc3t3 : flwO slotsTsc3t3 waitTsc3t3 12 (regOf Tryd.f24.body 3) = true := by kernel_rfl
set_option maxHeartbeats 8000000 in
set_option maxRecDepth 100000 in
theorem rcountT_b (s : Nat) (v : Value) (L : List Ce) (w w0 : World) (hB : Below w.heap.size w w0) (hg : goodN (L.length : Int) = true) (hM : L.length ≤ 1000000) (hC : Cs w v L) : Calls Tryd.prog 24 #[.agg #[.int .u64 (s : Int), v]] w0 fun e w' => (∃ v, e = .returned v ∧ v = .int .i64 (cntT L)) ∧ Below w.heap.size w w' := by
 go_enter Tryd.func24, Tryd.ntmps24
 have HB := Lib.hid hB
 clear hB
 have HC := Lib.hid hC
 clear hC
 go_upto_region 0 with fail
 refine wp_region_lit ?_
 try simp only [Act.put, List.setIfInBounds_toArray, List.set_cons_zero, List.set_cons_succ]
 refine lp_step rfl (fun K hK => wp_box_row 37 (.tmp 0) rfl (.agg #[.int .u64 (s : Int), v]) rfl (hK _ _ ?_))
 try simp only [Act.put, List.setIfInBounds_toArray, List.set_cons_zero, List.set_cons_succ]
 show wpList _ _ _ _ _ (w0.alloc (.cells (([.int .u64 (s : Int), v] : List Value)).toArray 37))
 have HST : Hid (Below w0.heap.size w0 (w0.alloc (.cells (([.int .u64 (s : Int), v] : List Value)).toArray 37))) := Lib.hid ((Below.refl _ _).alloc (Nat.le_refl _) _)
 have HX1 : Hid (Has (w0.alloc (.cells (([.int .u64 (s : Int), v] : List Value)).toArray 37)) w0.heap.size 37 ([.int .u64 (s : Int), v])) := Lib.hid (Has.made' _ _ _ _ rfl)
 have HGg1 : Hid (w.heap.size ≤ w0.heap.size) := Lib.hid HB.out.size
 replace HB := Lib.hid (HB.out.trans (HST.out.mono HB.out.size))
 clear HST
 generalize w0.alloc (.cells (([.int .u64 (s : Int), v] : List Value)).toArray 37) = w1 at *
 generalize w0.heap.size = g1 at *
 refine lp_pure (v := .int .i64 0) rfl (ex_assign _ rfl rfl) ?_
 try simp only [Act.put, List.setIfInBounds_toArray, List.set_cons_zero, List.set_cons_succ]
 refine wpList_nil ?_
 have HCT : Hid (cntT L = if goodN (L.length : Int) = true then cntL (L.take (L.length / 3)) else 0) := Lib.hid rfl
 obtain ⟨m, hm⟩ : ∃ m, m = L.length / 3 := ⟨_, rfl⟩
 have HMM := Lib.hid hm
 have hmM : m ≤ 1000000 := by omega
 clear hm
 have HGD := Lib.hid hg
 clear hg
 go_wp2_with fail
 go_loopw [3, 4] (fun vn vi wr => ∃ i : Nat, i ≤ m ∧ vn = .int .i64 (cntL (L.take i)) ∧ vi = .int .i64 i ∧ Has wr g1 37 [.int .u64 (s : Int), v] ∧ Below w.heap.size w wr) (fun _ vi _ => m - (intOf vi).toNat)
 case atStart => exact ⟨0, by omega, rfl, rfl, HX1.out, HB.out⟩
 case round =>
  clear HX1 HB
  rename_i wr
  obtain ⟨i, hi, rfl, rfl, hx1, hB⟩ := hrel
  have HX1 := Lib.hid hx1
  have HB := Lib.hid hB
  clear hx1 hB
  by_cases hlt : i < m
  ·have hlL : i < L.length := by have := HMM.out; omega
   have HLT : Hid (decide (((i : Int)) < ((m : Int))) = true) := Lib.hid (decide_eq_true (by omega))
   go_upto_region 3 with fail
   refine wp_act (fun a0 ha0 => ?_)
   have zsz : a0.tmps.size = 28 := by rw [ha0]; rfl
   have z4 : a0.eval (.tmp 4) = .int .i64 ((i : Int)) := by rw [ha0]; rfl
   have z1 : a0.eval (.tmp 1) = .pointer (some ⟨g1, 0, none⟩) := by rw [ha0]; rfl
   refine wrO [] slotsTsc3b3 waitTsc3b3 [Fct.val Flz 0 (.int .i64 ((i : Int))), Fct.val Flz 1 (.pointer (some ⟨g1, 1, none⟩)), Fct.val Flz 2 (v), Fct.val Flz 3 (.int .i64 (((L).length : Int))), Fct.val Flz 4 (.int .i64 ((m : Int))), Fct.val Flz 5 (.bool true), Fct.val Flz 6 (.bool true), Fct.val Flz 7 (.pointer (some ⟨g1, 1, none⟩)), Fct.val Flz 8 (v), Fct.val Flz 9 (.int .i64 (((L).length : Int))), Fct.val Flz 10 (.bool true), Fct.val Flz 11 (.bool true)] (fun w' => Below wr.heap.size wr w') _ 12 0 chkTsc3b3 (by kernel_rfl) (by kernel_rfl) (by kernel_rfl) (by decide) (Below.refl _ _) ?_ ?_
   ·refine lt_s (lt_s (lt_s (lt_s (lt_s (lt_s (lt_s (lt_s (lt_s (lt_s (lt_s (lt_s (lt_0) ?_) ?_) ?_) ?_) ?_) ?_) ?_) ?_) ?_) ?_) ?_) ?_
    ·intro f w1 hS hf aA hA
     have r4 : aA.eval (.tmp 4) = .int .i64 ((i : Int)) := pO 4 hA (by kernel_rfl) z4
     exact fV rfl rfl (.int .i64 ((i : Int))) (ex_move (.tmp 4) rfl r4) hS uS
    ·intro f w1 hS hf aA hA
     have r1 : aA.eval (.tmp 1) = .pointer (some ⟨g1, 0, none⟩) := pO 1 hA (by kernel_rfl) z1
     exact fV rfl rfl (.pointer (some ⟨g1, 1, none⟩)) (fldT1 37 (Or.inr rfl) (.tmp 1) rfl g1 r1) hS uS
    ·intro f w1 hS hf aA hA
     have r6 : aA.eval (.tmp 6) = .pointer (some ⟨g1, 1, none⟩) := pA 6 1 hA sbTsc3b3 (by kernel_rfl) zsz rfl (hf 1 (by decide))
     exact fV rfl rfl (v) (ex_load1 35 (.tmp 6) rfl ⟨g1, 1, none⟩ r6 (fun _ => by kernel_rfl) ((HX1.out.keepB hS).cellv rfl)) hS uS
    ·intro f w1 hS hf aA hA
     have r7 : aA.eval (.tmp 7) = v := pA 7 2 hA sbTsc3b3 (by kernel_rfl) zsz rfl (hf 2 (by decide))
     obtain ⟨q9, c9, hv9, _⟩ := (HC.out.keep (HB.out.trans (hS.mono HB.out.size)))
     exact fV rfl rfl (.int .i64 (((L).length : Int))) (ex_len 35 73 (.tmp 7) rfl (by kernel_rfl) q9 (L).length c9 (r7.trans hv9)) hS uS
    ·intro f w1 hS hf aA hA
     have r8 : aA.eval (.tmp 8) = .int .i64 (((L).length : Int)) := pA 8 3 hA sbTsc3b3 (by kernel_rfl) zsz rfl (hf 3 (by decide))
     exact fV rfl rfl (.int .i64 ((m : Int))) (ex_int .quo _ _ (.tmp 8) _ rfl .i64 (((L).length : Int)) 3 r8 rfl (.int .i64 ((m : Int))) ((fun w => by rw [HMM.out]; exact quo_nat _ L.length 3 (by decide) (by omega) w))) hS uS
    ·intro f w1 hS hf aA hA
     have r5 : aA.eval (.tmp 5) = .int .i64 ((i : Int)) := pA 5 0 hA sbTsc3b3 (by kernel_rfl) zsz rfl (hf 0 (by decide))
     have r9 : aA.eval (.tmp 9) = .int .i64 ((m : Int)) := pA 9 4 hA sbTsc3b3 (by kernel_rfl) zsz rfl (hf 4 (by decide))
     exact fV rfl rfl (.bool true) (Eq.trans (ex_int .lss _ _ (.tmp 5) (.tmp 9) rfl .i64 ((i : Int)) ((m : Int)) r5 r9 (.bool (decide (((i : Int)) < ((m : Int))))) (fun _ => rfl)) (by rw [HLT.out])) hS uS
    ·intro f w1 hS hf aA hA
     have r10 : aA.eval (.tmp 10) = .bool true := pA 10 5 hA sbTsc3b3 (by kernel_rfl) zsz rfl (hf 5 (by decide))
     exact fV rfl rfl (.bool true) (ex_move (.tmp 10) rfl r10) hS uS
    ·intro f w1 hS hf aA hA
     have t11 : aA.tmps[11]? = some (.bool true) := pG 11 6 hA sbTsc3b3 (by kernel_rfl) zsz rfl (hf 6 (by decide))
     have r1 : aA.eval (.tmp 1) = .pointer (some ⟨g1, 0, none⟩) := pO 1 hA (by kernel_rfl) z1
     exact fV rfl ((wanted_of rfl 11 rfl t11).trans rfl) (.pointer (some ⟨g1, 1, none⟩)) (fldT1 37 (Or.inr rfl) (.tmp 1) rfl g1 r1) hS uS
    ·intro f w1 hS hf aA hA
     have t11 : aA.tmps[11]? = some (.bool true) := pG 11 6 hA sbTsc3b3 (by kernel_rfl) zsz rfl (hf 6 (by decide))
     have r12 : aA.eval (.tmp 12) = .pointer (some ⟨g1, 1, none⟩) := pA 12 7 hA sbTsc3b3 (by kernel_rfl) zsz rfl (hf 7 (by decide))
     exact fV rfl ((wanted_of rfl 11 rfl t11).trans rfl) (v) (ex_load1 35 (.tmp 12) rfl ⟨g1, 1, none⟩ r12 (fun _ => by kernel_rfl) ((HX1.out.keepB hS).cellv rfl)) hS uS
    ·intro f w1 hS hf aA hA
     have t11 : aA.tmps[11]? = some (.bool true) := pG 11 6 hA sbTsc3b3 (by kernel_rfl) zsz rfl (hf 6 (by decide))
     have r13 : aA.eval (.tmp 13) = v := pA 13 8 hA sbTsc3b3 (by kernel_rfl) zsz rfl (hf 8 (by decide))
     obtain ⟨q9, c9, hv9, _⟩ := (HC.out.keep (HB.out.trans (hS.mono HB.out.size)))
     exact fV rfl ((wanted_of rfl 11 rfl t11).trans rfl) (.int .i64 (((L).length : Int))) (ex_len 35 73 (.tmp 13) rfl (by kernel_rfl) q9 (L).length c9 (r13.trans hv9)) hS uS
    ·intro f w1 hS hf aA hA
     have t11 : aA.tmps[11]? = some (.bool true) := pG 11 6 hA sbTsc3b3 (by kernel_rfl) zsz rfl (hf 6 (by decide))
     have r14 : aA.eval (.tmp 14) = .int .i64 (((L).length : Int)) := pA 14 9 hA sbTsc3b3 (by kernel_rfl) zsz rfl (hf 9 (by decide))
     exact fC rfl ((wanted_of rfl 11 rfl t11).trans rfl) 41 #[(.tmp 14)] _ rfl #[.int .i64 (((L).length : Int))] (mp1 r14) (fun w => by kernel_rfl) _ (as_any (goodR14_any (((L).length : Int)) w1) (congrArg Value.bool HGD.out)) hS (fun _ _ h => uS.trans h)
    ·intro f w1 hS hf aA hA
     have r11 : aA.eval (.tmp 11) = .bool true := pA 11 6 hA sbTsc3b3 (by kernel_rfl) zsz rfl (hf 6 (by decide))
     have r15 : aA.eval (.tmp 15) = .bool true := pA 15 10 hA sbTsc3b3 (by kernel_rfl) zsz rfl (hf 10 (by decide))
     exact fV rfl rfl (.bool true) (ex_pick (.tmp 11) (.tmp 15) _ rfl true r11 ((if_pos rfl).trans r15)) hS uS
   intro f u4 hS hf hap
   have h0 : f 0 = .int .i64 ((i : Int)) := hf 0 (by decide)
   have h1 : f 1 = .pointer (some ⟨g1, 1, none⟩) := hf 1 (by decide)
   have h2 : f 2 = v := hf 2 (by decide)
   have h3 : f 3 = .int .i64 (((L).length : Int)) := hf 3 (by decide)
   have h4 : f 4 = .int .i64 ((m : Int)) := hf 4 (by decide)
   have h5 : f 5 = .bool true := hf 5 (by decide)
   have h6 : f 6 = .bool true := hf 6 (by decide)
   have h7 : f 7 = .pointer (some ⟨g1, 1, none⟩) := hf 7 (by decide)
   have h8 : f 8 = v := hf 8 (by decide)
   have h9 : f 9 = .int .i64 (((L).length : Int)) := hf 9 (by decide)
   have h10 : f 10 = .bool true := hf 10 (by decide)
   have h11 : f 11 = .bool true := hf 11 (by decide)
   clear hf hap
   clear zsz z4 z1
   subst ha0
   simp only [slotsTsc3b3, putAll, h0, h1, h2, h3, h4, h5, h6, h7, h8, h9, h10, h11, Act.put, List.setIfInBounds_toArray, List.set_cons_zero, List.set_cons_succ]
   clear h0 h1 h2 h3 h4 h5 h6 h7 h8 h9 h10 h11
   refine tl_nil ?_
   replace HX1 := Lib.hid (HX1.out.keepB hS)
   replace HB := Lib.hid (HB.out.trans (hS.mono HB.out.size))
   clear hS
   have HTK : Hid (L.take (i + 1) = L.take i ++ [L[i]]) := Lib.hid (List.take_succ_eq_append_getElem hlL)
   obtain ⟨a, cp2, hv, _, hc⟩ := (HC.out.keep HB.out).el hlL
   have HV := Lib.hid hv
   have HCC := Lib.hid hc
   clear hv hc
   go_upto_region 5 with fail
   refine wp_region_lit ?_
   refine lp_pure (v := .int .i64 (cntL (L.take i))) rfl (ex_move (.tmp 3) rfl rfl) ?_
   try simp only [Act.put, List.setIfInBounds_toArray, List.set_cons_zero, List.set_cons_succ]
   refine lp_pure (v := .pointer (some ⟨g1, 1, none⟩)) rfl (fldT1 37 (.inr rfl) (.tmp 1) rfl g1 rfl) ?_
   try simp only [Act.put, List.setIfInBounds_toArray, List.set_cons_zero, List.set_cons_succ]
   refine lp_pure (v := v) rfl (ex_load1 35 (.tmp 20) rfl ⟨g1, 1, none⟩ rfl (fun _ => by kernel_rfl) (HX1.out.cellv rfl)) ?_
   try simp only [Act.put, List.setIfInBounds_toArray, List.set_cons_zero, List.set_cons_succ]
   refine lp_pure (v := .int .i64 (i : Int)) rfl (ex_move (.tmp 4) rfl rfl) ?_
   try simp only [Act.put, List.setIfInBounds_toArray, List.set_cons_zero, List.set_cons_succ]
   refine lp_pure (v := .pointer (some (a.add (i * 65)))) rfl (ex_indexS 35 73 (.tmp 21) (.tmp 22) rfl a L.length cp2 i 65 (by kernel_rfl) (fun _ => by kernel_rfl) (Eq.trans rfl HV.out) rfl hlL) ?_
   try simp only [Act.put, List.setIfInBounds_toArray, List.set_cons_zero, List.set_cons_succ]
   refine lp_pure (v := .pointer (some (a.add (i * 65)))) rfl (fldA0 (.tmp 23) rfl (a.add (i * 65)) rfl) ?_
   try simp only [Act.put, List.setIfInBounds_toArray, List.set_cons_zero, List.set_cons_succ]
   refine lp_pure (v := .int .i64 (L[i]).1) rfl (ex_load1 2 (.tmp 24) rfl (a.add (i * 65)) rfl (fun _ => by kernel_rfl) (cell0 (HCC.out u4 (fun _ _ => rfl)))) ?_
   try simp only [Act.put, List.setIfInBounds_toArray, List.set_cons_zero, List.set_cons_succ]
   refine lp_pure (v := .int .i64 (IntKind.i64.wrap (cntL (L.take i) + (L[i]).1))) rfl (ex_int .add _ _ (.tmp 19) (.tmp 25) rfl .i64 (cntL (L.take i)) (L[i]).1 rfl rfl _ (fun _ => rfl)) ?_
   try simp only [Act.put, List.setIfInBounds_toArray, List.set_cons_zero, List.set_cons_succ]
   refine lp_pure (v := .int .i64 (IntKind.i64.wrap (cntL (L.take i) + (L[i]).1))) rfl (ex_assign (.tmp 26) rfl rfl) ?_
   try simp only [Act.put, List.setIfInBounds_toArray, List.set_cons_zero, List.set_cons_succ]
   refine wpList_nil ?_
   rw [← cntL_snoc, ← HTK.out]
   go_wp2_with fail
   go_roundw
   case rel => exact ⟨i + 1, by omega, rfl, by go_num, HX1.out, HB.out⟩
   case measure => simp [intOf]; omega
  ·have him : i = m := by omega
   have HIM := Lib.hid him
   have HLT : Hid (decide (((i : Int)) < ((m : Int))) = false) := Lib.hid (decide_eq_false (by omega))
   clear him
   go_upto_region 3 with fail
   refine wp_act (fun a0 ha0 => ?_)
   have zsz : a0.tmps.size = 28 := by rw [ha0]; rfl
   have z4 : a0.eval (.tmp 4) = .int .i64 ((i : Int)) := by rw [ha0]; rfl
   have z1 : a0.eval (.tmp 1) = .pointer (some ⟨g1, 0, none⟩) := by rw [ha0]; rfl
   refine wrO [] slotsTsc3t3 waitTsc3t3 [Fct.val Flz 0 (.int .i64 ((i : Int))), Fct.val Flz 1 (.pointer (some ⟨g1, 1, none⟩)), Fct.val Flz 2 (v), Fct.val Flz 3 (.int .i64 (((L).length : Int))), Fct.val Flz 4 (.int .i64 ((m : Int))), Fct.val Flz 5 (.bool false), Fct.val Flz 6 (.bool false), Fct.val Flz 7 (undef), Fct.val Flz 8 (undef), Fct.val Flz 9 (undef), Fct.val Flz 10 (undef), Fct.val Flz 11 (.bool false)] (fun w' => Below wr.heap.size wr w') _ 12 0 chkTsc3t3 (by kernel_rfl) (by kernel_rfl) (by kernel_rfl) (by decide) (Below.refl _ _) ?_ ?_
   ·refine lt_s (lt_s (lt_s (lt_s (lt_s (lt_s (lt_s (lt_s (lt_s (lt_s (lt_s (lt_s (lt_0) ?_) ?_) ?_) ?_) ?_) ?_) ?_) ?_) ?_) ?_) ?_) ?_
    ·intro f w1 hS hf aA hA
     have r4 : aA.eval (.tmp 4) = .int .i64 ((i : Int)) := pO 4 hA (by kernel_rfl) z4
     exact fV rfl rfl (.int .i64 ((i : Int))) (ex_move (.tmp 4) rfl r4) hS uS
    ·intro f w1 hS hf aA hA
     have r1 : aA.eval (.tmp 1) = .pointer (some ⟨g1, 0, none⟩) := pO 1 hA (by kernel_rfl) z1
     exact fV rfl rfl (.pointer (some ⟨g1, 1, none⟩)) (fldT1 37 (Or.inr rfl) (.tmp 1) rfl g1 r1) hS uS
    ·intro f w1 hS hf aA hA
     have r6 : aA.eval (.tmp 6) = .pointer (some ⟨g1, 1, none⟩) := pA 6 1 hA sbTsc3t3 (by kernel_rfl) zsz rfl (hf 1 (by decide))
     exact fV rfl rfl (v) (ex_load1 35 (.tmp 6) rfl ⟨g1, 1, none⟩ r6 (fun _ => by kernel_rfl) ((HX1.out.keepB hS).cellv rfl)) hS uS
    ·intro f w1 hS hf aA hA
     have r7 : aA.eval (.tmp 7) = v := pA 7 2 hA sbTsc3t3 (by kernel_rfl) zsz rfl (hf 2 (by decide))
     obtain ⟨q9, c9, hv9, _⟩ := (HC.out.keep (HB.out.trans (hS.mono HB.out.size)))
     exact fV rfl rfl (.int .i64 (((L).length : Int))) (ex_len 35 73 (.tmp 7) rfl (by kernel_rfl) q9 (L).length c9 (r7.trans hv9)) hS uS
    ·intro f w1 hS hf aA hA
     have r8 : aA.eval (.tmp 8) = .int .i64 (((L).length : Int)) := pA 8 3 hA sbTsc3t3 (by kernel_rfl) zsz rfl (hf 3 (by decide))
     exact fV rfl rfl (.int .i64 ((m : Int))) (ex_int .quo _ _ (.tmp 8) _ rfl .i64 (((L).length : Int)) 3 r8 rfl (.int .i64 ((m : Int))) ((fun w => by rw [HMM.out]; exact quo_nat _ L.length 3 (by decide) (by omega) w))) hS uS
    ·intro f w1 hS hf aA hA
     have r5 : aA.eval (.tmp 5) = .int .i64 ((i : Int)) := pA 5 0 hA sbTsc3t3 (by kernel_rfl) zsz rfl (hf 0 (by decide))
     have r9 : aA.eval (.tmp 9) = .int .i64 ((m : Int)) := pA 9 4 hA sbTsc3t3 (by kernel_rfl) zsz rfl (hf 4 (by decide))
     exact fV rfl rfl (.bool false) (Eq.trans (ex_int .lss _ _ (.tmp 5) (.tmp 9) rfl .i64 ((i : Int)) ((m : Int)) r5 r9 (.bool (decide (((i : Int)) < ((m : Int))))) (fun _ => rfl)) (by rw [HLT.out])) hS uS
    ·intro f w1 hS hf aA hA
     have r10 : aA.eval (.tmp 10) = .bool false := pA 10 5 hA sbTsc3t3 (by kernel_rfl) zsz rfl (hf 5 (by decide))
     exact fV rfl rfl (.bool false) (ex_move (.tmp 10) rfl r10) hS uS
    ·intro f w1 hS hf aA hA
     have t11 : aA.tmps[11]? = some (.bool false) := pG 11 6 hA sbTsc3t3 (by kernel_rfl) zsz rfl (hf 6 (by decide))
     exact flw_skip rfl ((wanted_of rfl 11 rfl t11).trans rfl) hS (Flz.refl _) uS
    ·intro f w1 hS hf aA hA
     have t11 : aA.tmps[11]? = some (.bool false) := pG 11 6 hA sbTsc3t3 (by kernel_rfl) zsz rfl (hf 6 (by decide))
     exact flw_skip rfl ((wanted_of rfl 11 rfl t11).trans rfl) hS (Flz.refl _) uS
    ·intro f w1 hS hf aA hA
     have t11 : aA.tmps[11]? = some (.bool false) := pG 11 6 hA sbTsc3t3 (by kernel_rfl) zsz rfl (hf 6 (by decide))
     exact flw_skip rfl ((wanted_of rfl 11 rfl t11).trans rfl) hS (Flz.refl _) uS
    ·intro f w1 hS hf aA hA
     have t11 : aA.tmps[11]? = some (.bool false) := pG 11 6 hA sbTsc3t3 (by kernel_rfl) zsz rfl (hf 6 (by decide))
     exact flw_skip rfl ((wanted_of rfl 11 rfl t11).trans rfl) hS (Flz.refl _) uS
    ·intro f w1 hS hf aA hA
     have r11 : aA.eval (.tmp 11) = .bool false := pA 11 6 hA sbTsc3t3 (by kernel_rfl) zsz rfl (hf 6 (by decide))
     exact fV rfl rfl (.bool false) (ex_pick (.tmp 11) (.tmp 15) _ rfl false r11 ((if_neg (by decide)).trans rfl)) hS uS
   intro f u4 hS hf hap
   have h0 : f 0 = .int .i64 ((i : Int)) := hf 0 (by decide)
   have h1 : f 1 = .pointer (some ⟨g1, 1, none⟩) := hf 1 (by decide)
   have h2 : f 2 = v := hf 2 (by decide)
   have h3 : f 3 = .int .i64 (((L).length : Int)) := hf 3 (by decide)
   have h4 : f 4 = .int .i64 ((m : Int)) := hf 4 (by decide)
   have h5 : f 5 = .bool false := hf 5 (by decide)
   have h6 : f 6 = .bool false := hf 6 (by decide)
   have h7 : f 7 = undef := hf 7 (by decide)
   have h8 : f 8 = undef := hf 8 (by decide)
   have h9 : f 9 = undef := hf 9 (by decide)
   have h10 : f 10 = undef := hf 10 (by decide)
   have h11 : f 11 = .bool false := hf 11 (by decide)
   clear hf hap
   clear zsz z4 z1
   subst ha0
   simp only [slotsTsc3t3, putAll, h0, h1, h2, h3, h4, h5, h6, h7, h8, h9, h10, h11, Act.put, List.setIfInBounds_toArray, List.set_cons_zero, List.set_cons_succ]
   clear h0 h1 h2 h3 h4 h5 h6 h7 h8 h9 h10 h11
   refine tl_nil ?_
   replace HX1 := Lib.hid (HX1.out.keepB hS)
   replace HB := Lib.hid (HB.out.trans (hS.mono HB.out.size))
   clear hS
   go_wp2_with fail
   go_ret
   have hfin : Value.int .i64 (cntL (L.take i)) = Value.int .i64 (cntT L) := by rw [HCT.out, if_pos HGD.out, HIM.out, HMM.out]
   first
    | exact ⟨congrArg Ending.returned hfin, HB.out⟩
    | exact ⟨⟨_, rfl, hfin⟩, HB.out⟩
theorem rcountT_any (s : Nat) (v : Value) (L : List Ce) (w : World) (hg : goodN (L.length : Int) = true) (hM : L.length ≤ 1000000) (hC : Cs w v L) : Calls Tryd.prog 24 #[.agg #[.int .u64 (s : Int), v]] w fun e w' => (∃ v, e = .returned v ∧ v = .int .i64 (cntT L)) ∧ Below w.heap.size w w' := rcountT_b s v L w w (Below.refl _ _) hg hM hC
end Go.Proofs.YtepeloenijlnhaaDoor
/- The document's own calls, the law's own row and own, as a walk of the laws wants them. No condition. -/
namespace Go.Proofs.YtepeloenijlnhaaDoor
open Go.RowKit
theorem of_as {R : Nat × List Ce × Int} (s : Nat) (n : Int) (v : Value) (A : List Su) (hR : R = ofT s n A) (w : World) (hs : s < 18446744073709551616) (hL : Laid w) (hn : A.length ≤ 10000) (hU : Us w v A) : Calls Tryd.prog 9 #[.int .u64 (s : Int), .int .i64 n, v] w fun e w' => (∃ v, e = .returned v ∧ ∃ zz, v = .tuple #[.agg #[.int .u64 (R.1 : Int), zz], .int .i64 R.2.2] ∧ Cs w' zz (R.2.1)) ∧ Below w.heap.size w w' := by subst hR; exact ofT_any s n v A w hs hL hn hU
theorem rof_as {R : Nat × List Ce × Int} (s : Nat) (n : Int) (v : Value) (A : List Su) (hR : R = ofT s n A) (w : World) (hs : s < 18446744073709551616) (hn : A.length ≤ 10000) (hU : Us w v A) : Calls Tryd.prog 19 #[.int .u64 (s : Int), .int .i64 n, v] w fun e w' => (∃ v, e = .returned v ∧ ∃ zz, v = .tuple #[.agg #[.int .u64 (R.1 : Int), zz], .int .i64 R.2.2] ∧ Cs w' zz (R.2.1)) ∧ Below w.heap.size w w' := by subst hR; exact rofT_any s n v A w hs hn hU
theorem minus_as {R : Nat × List Ce × Int} (s : Nat) (u : Value) (A : List Ce) (t : Nat) (v : Value) (B : List Ce) (hR : R = minusT s A t B) (hst : s = t) (hq : A.length = B.length) (w : World) (hM : A.length ≤ 10000) (hA : Cs w u A) (hV : Cs w v B) : Calls Tryd.prog 10 #[.agg #[.int .u64 (s : Int), u], .agg #[.int .u64 (t : Int), v]] w fun e w' => (∃ v, e = .returned v ∧ ∃ zz, v = .tuple #[.agg #[.int .u64 (R.1 : Int), zz], .int .i64 R.2.2] ∧ Cs w' zz (R.2.1)) ∧ Below w.heap.size w w' := by subst hR; exact minusT_any s u A t v B w hst hq (Nat.le_trans hM (by decide)) hA hV
theorem rminus_as {R : Nat × List Ce × Int} (s : Nat) (u : Value) (A : List Ce) (t : Nat) (v : Value) (B : List Ce) (hR : R = minusT s A t B) (hst : s = t) (hq : A.length = B.length) (w : World) (hM : A.length ≤ 10000) (hA : Cs w u A) (hV : Cs w v B) : Calls Tryd.prog 21 #[.agg #[.int .u64 (s : Int), u], .agg #[.int .u64 (t : Int), v]] w fun e w' => (∃ v, e = .returned v ∧ ∃ zz, v = .tuple #[.agg #[.int .u64 (R.1 : Int), zz], .int .i64 R.2.2] ∧ Cs w' zz (R.2.1)) ∧ Below w.heap.size w w' := by subst hR; exact rminusT_any s u A t v B w hst hq (Nat.le_trans hM (by decide)) hA hV
theorem ofT_good {s : Nat} {n : Int} {m : Nat} {A : List Su} (hg : goodN n = true) (hm : n = m) : ofT s n A = (s, tab s m (srt A), 0) := by unfold ofT tab; rw [if_pos hg, hm]; rfl
theorem ofT_bad {s : Nat} {n : Int} {A : List Su} (hg : goodN n = false) : ofT s n A = (0, [], 1) := by unfold ofT; rw [hg]; rfl
theorem ofT_len {s : Nat} {n : Int} {A : List Su} : (ofT s n A).2.1.length ≤ 10000 := by
 cases hg : goodN n with
 | false => rw [ofT_bad hg]; decide
 | true => obtain ⟨m, hm, _, h4⟩ := good_int hg; rw [ofT_good hg hm]; exact tab_small5 h4
theorem ofT_same {s : Nat} {n : Int} {A B : List Su} : (ofT s n A).1 = (ofT s n B).1 ∧ (ofT s n A).2.1.length = (ofT s n B).2.1.length := by
 cases hg : goodN n with
 | false => rw [ofT_bad hg, ofT_bad hg]; exact ⟨rfl, rfl⟩
 | true => obtain ⟨m, hm, _, h4⟩ := good_int hg; rw [ofT_good hg hm, ofT_good hg hm]; exact ⟨rfl, by rw [tab_len, tab_len]⟩
theorem minusT_small {s t : Nat} {A B : List Ce} (h : A.length ≤ 10000) : (minusT s A t B).2.1.length ≤ 10000 := by
 unfold minusT
 split
 ·rw [List.length_zipWith]; omega
 ·exact Nat.zero_le _
theorem zip_good {s m : Nat} {A B : List Su} (h : goodN (m : Int) = true) : goodN ((List.zipWith minusC (tab s m A) (tab s m B)).length : Int) = true := by rw [zip_len]; exact h
/-- A slice in memory that reads as these sums. -/
def SeS (w : World) (v : Value) (L : List Su) : Prop := ∃ q c, v = .slice q L.length c ∧ Sees w w.heap.size q (rowU L)
theorem SeS.keep {w w' : World} {v : Value} {L : List Su} (h : SeS w v L) (hb : Below w.heap.size w w') : SeS w' v L := by
 obtain ⟨q, c, h1, h2⟩ := h
 exact ⟨q, c, h1, (h2.keep hb).more hb.size⟩
theorem row_us {w : World} {v0 : Value} {A : List Su} (h : SeS w v0 A) (hn : A.length ≤ 10000) : Calls Tryd.prog 18 #[v0] w fun e w' => (∃ v, e = .returned v ∧ Us w' v A) ∧ Below w.heap.size w w' := by
 obtain ⟨q, c, rfl, h4⟩ := h
 refine Calls.mono (row15_any A q c (by omega) w h4) ?_
 rintro e w' ⟨⟨v, rfl, h5⟩, h6⟩
 exact ⟨⟨v, rfl, h5.us⟩, h6⟩
theorem own_us {w : World} {v0 : Value} {A : List Su} (h : Us w v0 A) (hn : A.length ≤ 10000) : Calls Tryd.prog 20 #[v0] w fun e w' => (∃ v, e = .returned v ∧ Us w' v A) ∧ Below w.heap.size w w' := by
 obtain ⟨q, c, rfl, h2, h3, h4⟩ := h
 refine Calls.mono (own15_any A q c (by omega) w h4) ?_
 rintro e w' ⟨⟨v, rfl, h5⟩, h6⟩
 exact ⟨⟨v, rfl, h5.us⟩, h6⟩
end Go.Proofs.YtepeloenijlnhaaDoor
