/- The calls of the laws over package table, as a walk wants them; the law's own awake: true. Condition: the sums' tables are laid. -/
import Derived.Test.YtepeloenijlnhaaDoorGp5
import Derived.Test.YtepeloenijlnhaaDoorGp3
import Derived.Test.YtepeloenijlnhaaDoorGp6
import Derived.Test.YtepeloenijlnhaaDoorTi
namespace Go.Proofs.YtepeloenijlnhaaDoor
open Go.RowKit
/-- A set's table. -/
def tab (s m : Nat) (A : List Su) : List Ce := layA putC s A (List.replicate m zC)
theorem tab_len (s m : Nat) (A : List Su) : (tab s m A).length = m := by unfold tab; rw [layA_len, List.length_replicate]
theorem tab_small {s m : Nat} {A : List Su} (h : m ≤ 1024) : (tab s m A).length ≤ 1000000 := by rw [tab_len]; omega
theorem tab_small5 {s m : Nat} {A : List Su} (h : m ≤ 1024) : (tab s m A).length ≤ 10000 := by rw [tab_len]; omega
theorem tab_good {s m : Nat} {A : List Su} (h : goodN (m : Int) = true) : goodN ((tab s m A).length : Int) = true := by rw [tab_len]; exact h
theorem tab_ok {s m : Nat} {A B : List Su} (h : goodN (m : Int) = true) : okM s s (tab s m A) (tab s m B) = true := okM_of _ _ _ _ (tab_good h) (tab_good h) rfl (by rw [tab_len, tab_len])
theorem zip_len (s m : Nat) (A B : List Su) : (List.zipWith minusC (tab s m A) (tab s m B)).length = m := by rw [List.length_zipWith, tab_len, tab_len]; omega
theorem zip_small {s m : Nat} {A B : List Su} (h : m ≤ 1024) : (List.zipWith minusC (tab s m A) (tab s m B)).length ≤ 1000000 := by rw [zip_len]; omega
theorem zip_small5 {s m : Nat} {A B : List Su} (h : m ≤ 1024) : (List.zipWith minusC (tab s m A) (tab s m B)).length ≤ 10000 := by rw [zip_len]; omega
theorem lay_small {f : Ce → Su → Ce} {s m : Nat} {A : List Su} {x : Su} (h : m ≤ 1024) : (layT f s x (tab s m A)).length ≤ 1000000 := by rw [layT_len, tab_len]; omega
theorem lay_small5 {f : Ce → Su → Ce} {s m : Nat} {A : List Su} {x : Su} (h : m ≤ 1024) : (layT f s x (tab s m A)).length ≤ 10000 := by rw [layT_len, tab_len]; omega
theorem ofS_t (s : Nat) (n : Int) (m : Nat) (v : Value) (A : List Su) (hg : goodN n = true) (hm : n = m) (w : World) (hs : s < 18446744073709551616) (hL : Laid w) (hn : A.length ≤ 10000) (hU : Us w v A) : Calls Tryd.prog 9 #[.int .u64 (s : Int), .int .i64 n, v] w fun e w' => (∃ v, e = .returned v ∧ ∃ zz, v = .tuple #[.agg #[.int .u64 (s : Int), zz], .int .i64 0] ∧ Cs w' zz (tab s m (srt A))) ∧ Below w.heap.size w w' := by
  have e : ofT s n A = (s, tab s m (srt A), 0) := by unfold ofT tab; rw [if_pos hg, hm]; rfl
  refine Calls.mono (ofT_any s n v A w hs hL hn hU) fun e' w' ⟨⟨v, h1, x, h2, h3⟩, h4⟩ => ?_
  rw [e] at h2 h3
  exact ⟨⟨v, h1, x, h2, h3⟩, h4⟩
theorem ofA_t (s : Nat) (n : Int) (m : Nat) (v : Value) (A : List Su) (hg : goodN n = true) (hm : n = m) (hA : AscU A) (w : World) (hs : s < 18446744073709551616) (hL : Laid w) (hn : A.length ≤ 10000) (hU : Us w v A) : Calls Tryd.prog 9 #[.int .u64 (s : Int), .int .i64 n, v] w fun e w' => (∃ v, e = .returned v ∧ ∃ zz, v = .tuple #[.agg #[.int .u64 (s : Int), zz], .int .i64 0] ∧ Cs w' zz (tab s m A)) ∧ Below w.heap.size w w' := by
  have e : ofT s n A = (s, tab s m A, 0) := by unfold ofT tab; rw [if_pos hg, hm, srt_asc hA]; rfl
  refine Calls.mono (ofT_any s n v A w hs hL hn hU) fun e' w' ⟨⟨v, h1, x, h2, h3⟩, h4⟩ => ?_
  rw [e] at h2 h3
  exact ⟨⟨v, h1, x, h2, h3⟩, h4⟩
theorem of_f (s : Nat) (n : Int) (v : Value) (A : List Su) (hg : goodN n = false) (w : World) (hs : s < 18446744073709551616) (hL : Laid w) (hn : A.length ≤ 10000) (hU : Us w v A) : Calls Tryd.prog 9 #[.int .u64 (s : Int), .int .i64 n, v] w fun e w' => (∃ v, e = .returned v ∧ ∃ zz, v = .tuple #[.agg #[.int .u64 0, zz], .int .i64 1] ∧ Cs w' zz ([])) ∧ Below w.heap.size w w' := by
  have e : ofT s n A = (0, [], 1) := by unfold ofT; rw [hg]; rfl
  refine Calls.mono (ofT_any s n v A w hs hL hn hU) fun e' w' ⟨⟨v, h1, x, h2, h3⟩, h4⟩ => ?_
  rw [e] at h2 h3
  exact ⟨⟨v, h1, x, h2, h3⟩, h4⟩
theorem minusT_t (s : Nat) (u : Value) (A : List Ce) (t : Nat) (v : Value) (B : List Ce) (hk : okM s t A B = true) (w : World) (hM : A.length ≤ 1000000) (hA : Cs w u A) (hV : Cs w v B) : Calls Tryd.prog 10 #[.agg #[.int .u64 (s : Int), u], .agg #[.int .u64 (t : Int), v]] w fun e w' => (∃ v, e = .returned v ∧ ∃ zz, v = .tuple #[.agg #[.int .u64 (s : Int), zz], .int .i64 0] ∧ Cs w' zz (List.zipWith minusC A B)) ∧ Below w.heap.size w w' := by
  have e : minusT s A t B = (s, List.zipWith minusC A B, 0) := by unfold minusT; rw [if_pos hk]
  refine Calls.mono (minusT_any s u A t v B w hM hA hV) fun e' w' ⟨⟨v, h1, x, h2, h3⟩, h4⟩ => ?_
  rw [e] at h2 h3
  exact ⟨⟨v, h1, x, h2, h3⟩, h4⟩
theorem minusT_f (s : Nat) (u : Value) (A : List Ce) (t : Nat) (v : Value) (B : List Ce) (hk : okM s t A B = false) (w : World) (hM : A.length ≤ 1000000) (hA : Cs w u A) (hV : Cs w v B) : Calls Tryd.prog 10 #[.agg #[.int .u64 (s : Int), u], .agg #[.int .u64 (t : Int), v]] w fun e w' => (∃ v, e = .returned v ∧ ∃ zz, v = .tuple #[.agg #[.int .u64 0, zz], .int .i64 1] ∧ Cs w' zz ([])) ∧ Below w.heap.size w w' := by
  have e : minusT s A t B = (0, [], 1) := by unfold minusT; rw [hk]; rfl
  refine Calls.mono (minusT_any s u A t v B w hM hA hV) fun e' w' ⟨⟨v, h1, x, h2, h3⟩, h4⟩ => ?_
  rw [e] at h2 h3
  exact ⟨⟨v, h1, x, h2, h3⟩, h4⟩
theorem newC_t (s : Nat) (n : Int) (m : Nat) (hg : goodN n = true) (hm : n = m) (w : World) : Calls Tryd.prog 8 #[.int .u64 (s : Int), .int .i64 n] w fun e w' => (∃ v, e = .returned v ∧ ∃ zz, v = .tuple #[.agg #[.int .u64 (s : Int), zz], .int .i64 0] ∧ Cs w' zz (List.replicate m zC)) ∧ Below w.heap.size w w' :=
  Calls.mono (newT_t s n m hg hm w 0 (Nat.zero_le _)) fun _ _ ⟨⟨v, h1, x, h2, h3⟩, h4⟩ => ⟨⟨v, h1, x, h2, h3.cs⟩, h4⟩
theorem newC_f (s : Nat) (n : Int) (hg : goodN n = false) (w : World) : Calls Tryd.prog 8 #[.int .u64 (s : Int), .int .i64 n] w fun e w' => (∃ v, e = .returned v ∧ ∃ zz, v = .tuple #[.agg #[.int .u64 0, zz], .int .i64 1] ∧ Cs w' zz ([])) ∧ Below w.heap.size w w' :=
  Calls.mono (newT_f s n hg w 0 (Nat.zero_le _)) fun _ _ ⟨⟨v, h1, x, h2, h3⟩, h4⟩ => ⟨⟨v, h1, x, h2, h3.cs⟩, h4⟩
theorem few15_us (v : Value) (l : List Int) (w : World) (hL : Laid w) (hn : l.length ≤ 1000) (hI : Ins w v l) : Calls Tryd.prog 25 #[v] w fun e w' => (∃ v, e = .returned v ∧ Us w' v (srt (l.map fewS))) ∧ Below w.heap.size w w' :=
  Calls.mono (few15_any v l w hL hn hI) fun _ _ ⟨⟨u, h1, _, h2, h3⟩, h4⟩ => ⟨⟨u, h1, h2 ▸ h3⟩, h4⟩
theorem asc_few (l : List Int) : AscU (srt (l.map fewS)) := asc_srt _
theorem len_few (l : List Int) (h : l.length ≤ 1000) : (srt (l.map fewS)).length ≤ 10000 := by have := len_srt_le (l.map fewS); rw [List.length_map] at this; omega
theorem wp_lit_ints9 {o : Oper} {a : Act} {w : World} {K : Act → World → Prop} {Q : Exit → Act → World → Prop} (n : Nat) (parts : Array (Nat × Operand)) (ho : o.op = .buildSlice 57 n parts) (cs : Array Value) (h0 : n ≠ 0) (h9 : n ≤ 16777216)
    (hf : Instr.fill (fun i => some (i * 1, 1)) ((Array.range (n * 1)).map ((Value.int .i64 0).cells[· % (Value.int .i64 0).cells.size]!)) (parts.map fun (i, x) => (i, a.eval x)).toList = some cs)
    (h : K (a.put o.dst (.slice (some ⟨w.heap.size, 0, none⟩) n n)) (w.alloc (.cells cs 3))) : o.wp Tryd.prog a w K Q := by
  obtain ⟨i8x, hi8, hz8, hs8, _⟩ := info_parts (show (Tryd.prog.info? 3).map (fun i => (i.zero, i.size, i.bytes)) = some (some (.int .i64 0), 1, 8) by kernel_rfl)
  refine wp_buildSlice 57 3 n parts ho cs i8x _ Tryd.underlying57 hi8 hz8 (by rw [hs8]; omega) (by rw [hs8]; omega) ?_ h
  rw [hs8]; exact hf
theorem Ins.litE9 (w : World) (l : List Int) (n : Nat) (hn : l.length = n) : Ins (w.alloc (.cells (l.map fun n => Value.int .i64 n).toArray 3)) (.slice (some ⟨w.heap.size, 0, .none⟩) n n) l := Ins.has (Has.made' _ _ _ _ rfl) hn
theorem tab_cnt {s m : Nat} {A : List Su} (h : goodN (m : Int) = true) (hA : A.length ≤ 10000) : cntT (tab s m A) = A.length := cnt_of A h hA
theorem zip_cnt {s m : Nat} {A B : List Su} (h : goodN (m : Int) = true) (hA : A.length ≤ 10000) (hB : B.length ≤ 10000) : cntT (List.zipWith minusC (tab s m A) (tab s m B)) = (A.length : Int) - B.length := cnt_minus A B h hA hB
theorem zip_zero {s m : Nat} {A : List Su} (h : goodN (m : Int) = true) : zeroT (List.zipWith minusC (tab s m A) (tab s m A)) = true := zero_self (tab_good h)
theorem tab_nz {s m : Nat} {A : List Su} (h : goodN (m : Int) = true) (hA : A.length ≤ 10000) (h0 : 0 < A.length) : zeroT (tab s m A) = false := by
  cases hz : zeroT (tab s m A) with
  | false => rfl
  | true => have h1 := zero_cnt hz; rw [tab_cnt h hA] at h1; omega
theorem few_one (n : Int) : srt ([n].map fewS) = [fewS n] := rfl
def waitTaw1 (i : Nat) : List Nat := ([[], [0], [1]] : List (List Nat)).getD i []
def slotsTaw1 : List (Nat × Nat) := [(8, 0), (9, 1), (1, 2)]
theorem sbTaw1 : slotsB slotsTaw1 = true := by kernel_rfl
theorem chkTaw1 : flwO slotsTaw1 waitTaw1 3 (regOf Tryd.f7.body 1) = true := by kernel_rfl
def waitTaw2 (i : Nat) : List Nat := ([[], [0], [1], [2], [2], [], [0, 1, 2, 3, 4, 5], [0, 1, 2, 3, 4, 5, 6]] : List (List Nat)).getD i []
def slotsTaw2 : List (Nat × Nat) := [(11, 0), (12, 1), (10, 2), (13, 3), (14, 4), (2, 5), (3, 7)]
theorem sbTaw2 : slotsB slotsTaw2 = true := by kernel_rfl
theorem chkTaw2 : flwO slotsTaw2 waitTaw2 6 (regOf Tryd.f7.body 2) = true := by kernel_rfl
def waitTaw3 (i : Nat) : List Nat := ([[], [0], [1], [2], [2], [], [0, 1, 2, 3, 4, 5], [0, 1, 2, 3, 4, 5, 6]] : List (List Nat)).getD i []
def slotsTaw3 : List (Nat × Nat) := [(16, 0), (17, 1), (15, 2), (18, 3), (19, 4), (4, 5), (5, 7)]
theorem sbTaw3 : slotsB slotsTaw3 = true := by kernel_rfl
theorem chkTaw3 : flwO slotsTaw3 waitTaw3 6 (regOf Tryd.f7.body 3) = true := by kernel_rfl
def waitTaw4 (i : Nat) : List Nat := ([[], [], [0, 1], [2], [3], [3], [], [0, 1, 2, 3, 4, 5, 6], [0, 1, 2, 3, 4, 5, 6, 7]] : List (List Nat)).getD i []
def slotsTaw4 : List (Nat × Nat) := [(21, 0), (22, 1), (23, 2), (20, 3), (24, 4), (25, 5), (6, 6), (7, 8)]
theorem sbTaw4 : slotsB slotsTaw4 = true := by kernel_rfl
theorem chkTaw4 : flwO slotsTaw4 waitTaw4 7 (regOf Tryd.f7.body 4) = true := by kernel_rfl
def waitTaw5 (i : Nat) : List Nat := ([[], [0], [1], [2], [2, 3], [2, 4], [5], [6], [6, 7], [6, 8], [9], [10], [10, 11], [10, 12], [13], [14], [14, 15], [14, 16], [14, 17], [18], [19], [19, 20], [19, 21], [19, 22], [23]] : List (List Nat)).getD i []
def slotsTaw5 : List (Nat × Nat) := [(26, 0), (27, 1), (28, 2), (29, 3), (30, 4), (31, 5), (32, 6), (33, 7), (34, 8), (35, 9), (36, 10), (37, 11), (38, 12), (39, 13), (40, 14), (41, 15), (42, 16), (43, 17), (44, 18), (45, 19), (46, 20), (47, 21), (48, 22), (49, 23), (0, 24)]
theorem sbTaw5 : slotsB slotsTaw5 = true := by kernel_rfl
theorem chkTaw5 : flwO slotsTaw5 waitTaw5 25 (regOf Tryd.f7.body 5) = true := by kernel_rfl
set_option maxHeartbeats 8000000 in
set_option maxRecDepth 100000 in
theorem awake15_b  (w w0 : World) (hB : Below w.heap.size w w0) (hL : Laid w) : Calls Tryd.prog 7 #[] w0 fun e w' => (∃ v, e = .returned v ∧ v = .bool true) ∧ Below w.heap.size w w' := by
  go_enter Tryd.func7, Tryd.ntmps7
  have HB := Lib.hid hB
  clear hB
  have HL := Lib.hid hL
  have HSZ := Lib.hid hL.size
  clear hL
  go_upto_region 1 with fail
  refine wp_act (fun a0 ha0 => ?_)
  have zsz : a0.tmps.size = 50 := by rw [ha0]; rfl
  refine wp_region_flwo (E := Flz) [] slotsTaw1 waitTaw1 [Fct.obj 0 (fun v w => Ins w v ([1])) (fun _ _ _ h he => h.flzT he), Fct.obj 1 (fun v w => Us w v (srt (([1]).map fewS))) (fun _ _ _ h he => h.flz he), (⟨([2, 1], fun f _ => f 2 = f 1), fun f f' _ _ h _ hd => (show f' 2 = f' 1 by rw [hd 2 (by simp), hd 1 (by simp)]; exact h)⟩ : Fct Flz)] (fun w' => Below w0.heap.size w0 w') _ 3 0 chkTaw1 (by kernel_rfl) (by kernel_rfl) (by kernel_rfl) (by decide) (Below.refl _ _) ?_ ?_
  · refine lt_s (lt_s (lt_s (lt_0) ?_) ?_) ?_
    · intro f w1 hS hf
      generalize hA : putAll _ _ f = aA
      exact flw_wp rfl rfl (fun K hK => wp_lit_ints9 1 _ rfl (([1] : List Int).map fun n => Value.int .i64 n).toArray (by decide) (by decide) (by kernel_rfl) (hK _ _ (hS.alloc hS.size _) (Flz.al _ _) (show Ins _ (updF f 0 _ 0) [1] by rw [updF_self]; exact Ins.litE9 _ _ 1 rfl)))
    · intro f w1 hS hf
      generalize hA : putAll _ _ f = aA
      have hu0 : Ins w1 (f 0) ([1]) := (hf 0 (by decide))
      have e8 : aA.eval (.tmp 8) = f 0 := by rw [← hA]; exact putAll_at f 8 0 slotsTaw1 a0 sbTaw1 (by kernel_rfl) zsz rfl rfl
      exact flw_call rfl rfl 25 #[(.tmp 8)] _ rfl #[f 0] (by simp only [List.map_toArray, List.map_cons, List.map_nil, e8]) (fun w => by kernel_rfl) (fun v w' => Us w' v (srt (([1]).map fewS))) (few15_us _ ([1]) w1 (HL.out.keep (HB.out.trans (hS.mono HB.out.size)) HSZ.out) (by decide) hu0) (fun v w' hr hb => ⟨hS.trans (hb.mono hS.size), Flz.of hb, (show Us w' (updF f 1 v 1) (srt (([1]).map fewS)) by rw [updF_self]; exact hr)⟩)
    · intro f w1 hS hf
      generalize hA : putAll _ _ f = aA
      have hu1 : Us w1 (f 1) (srt (([1]).map fewS)) := (hf 1 (by decide))
      have e9 : aA.eval (.tmp 9) = f 1 := by rw [← hA]; exact putAll_at f 9 1 slotsTaw1 a0 sbTaw1 (by kernel_rfl) zsz rfl rfl
      exact flw_val rfl rfl (f 1) (ex_assign (.tmp 9) rfl e9) hS (Flz.refl _) (show updF f 2 (f 1) 2 = updF f 2 (f 1) 1 by rw [updF_self, updF_ne f _ (by decide)])
  intro f u1 hS hf hap
  obtain ⟨v1_0, h0, hu0⟩ : ∃ v, f 0 = v ∧ Ins u1 v ([1]) := ⟨_, rfl, (hf 0 (by decide))⟩
  have HU1_0 := Lib.hid hu0
  clear hu0
  obtain ⟨v1_1, h1, hu1⟩ : ∃ v, f 1 = v ∧ Us u1 v (srt (([1]).map fewS)) := ⟨_, rfl, (hf 1 (by decide))⟩
  have HU1_1 := Lib.hid hu1
  clear hu1
  have h2 : f 2 = v1_1 := Eq.trans (hf 2 (by decide)) h1
  clear hf hap
  clear zsz
  subst ha0
  simp only [slotsTaw1, putAll, h0, h1, h2, Act.put, List.setIfInBounds_toArray, List.set_cons_zero, List.set_cons_succ]
  clear h0 h1 h2
  refine tl_nil ?_
  replace HB := Lib.hid (HB.out.trans (hS.mono HB.out.size))
  clear hS
  go_upto_region 2 with fail
  refine wp_act (fun a0 ha0 => ?_)
  have zsz : a0.tmps.size = 50 := by rw [ha0]; rfl
  have z1 : a0.eval (.tmp 1) = v1_1 := by rw [ha0]; rfl
  refine wp_region_flwo (E := Flz) [] slotsTaw2 waitTaw2 [Fct.val Flz 0 (v1_1), Fct.obj 1 (fun v w => ∃ zz, v = .tuple #[.agg #[.int .u64 5, zz], .int .i64 0] ∧ Cs w zz (tab 5 12 (srt (([1]).map fewS)))) (fun _ _ _ ⟨zz, a, b⟩ he => ⟨zz, a, b.flz he⟩), Fct.obj 2 (fun v w => ∃ zz, v = .tuple #[.agg #[.int .u64 5, zz], .int .i64 0] ∧ Cs w zz (tab 5 12 (srt (([1]).map fewS)))) (fun _ _ _ ⟨zz, a, b⟩ he => ⟨zz, a, b.flz he⟩), Fct.obj 3 (fun v w => ∃ zz, v = .agg #[.int .u64 5, zz] ∧ Cs w zz (tab 5 12 (srt (([1]).map fewS)))) (fun _ _ _ ⟨zz, a, b⟩ he => ⟨zz, a, b.flz he⟩), Fct.val Flz 4 (.int .i64 0), Fct.obj 5 (fun v w => ∃ g, v = .pointer (some ⟨g, 0, none⟩) ∧ u1.heap.size ≤ g ∧ Has w g 26 ([.int .u64 0, .slice none 0 0])) (fun _ _ _ ⟨g, a, b, c⟩ he => ⟨g, a, b, c.flz he (by decide)⟩)] (fun w' => Below u1.heap.size u1 w') _ 6 2 chkTaw2 (by kernel_rfl) (by kernel_rfl) (by kernel_rfl) (by decide) (Below.refl _ _) ?_ ?_
  · refine lt_s (lt_s (lt_s (lt_s (lt_s (lt_s (lt_0) ?_) ?_) ?_) ?_) ?_) ?_
    · intro f w1 hS hf
      generalize hA : putAll _ _ f = aA
      have r1 : aA.eval (.tmp 1) = v1_1 := by rw [← hA]; exact putAll_off f 1 slotsTaw2 a0 (by kernel_rfl) z1
      exact flw_val rfl rfl (v1_1) (ex_move (.tmp 1) rfl r1) hS (Flz.refl _) (updF_self _ _ _)
    · intro f w1 hS hf
      generalize hA : putAll _ _ f = aA
      have h11 : f 0 = v1_1 := hf 0 (by decide)
      have r11 : aA.eval (.tmp 11) = v1_1 := by rw [← hA]; exact putAll_at f 11 0 slotsTaw2 a0 sbTaw2 (by kernel_rfl) zsz rfl h11
      exact flw_call rfl rfl 9 #[_, _, (.tmp 11)] _ rfl #[.int .u64 5, .int .i64 12, v1_1] (by simp only [List.map_toArray, List.map_cons, List.map_nil, r11]; rfl) (fun w => by kernel_rfl) (fun v w' => ∃ zz, v = .tuple #[.agg #[.int .u64 5, zz], .int .i64 0] ∧ Cs w' zz (tab 5 12 (srt (([1]).map fewS)))) (ofA_t 5 12 12 _ _ (by decide) rfl (asc_few _) w1 (by decide) (HL.out.keep (HB.out.trans (hS.mono HB.out.size)) HSZ.out) (len_few _ (by decide)) (HU1_1.out.keep hS)) (fun v w' hr hb => ⟨hS.trans (hb.mono hS.size), Flz.of hb, by obtain ⟨zz, a, b⟩ := hr; exact ⟨zz, (updF_self _ _ _).trans a, b⟩⟩)
    · intro f w1 hS hf
      generalize hA : putAll _ _ f = aA
      obtain ⟨x12, hx12, hr12⟩ := hf 1 (by decide)
      have e12 : aA.eval (.tmp 12) = .tuple #[.agg #[.int .u64 5, x12], .int .i64 0] := by rw [← hA]; exact putAll_at f 12 1 slotsTaw2 a0 sbTaw2 (by kernel_rfl) zsz rfl hx12
      exact flw_val rfl rfl (.tuple #[.agg #[.int .u64 5, x12], .int .i64 0]) (ex_move (.tmp 12) rfl e12) hS (Flz.refl _) ⟨x12, updF_self _ _ _, hr12⟩
    · intro f w1 hS hf
      generalize hA : putAll _ _ f = aA
      obtain ⟨x10, hx10, hr10⟩ := hf 2 (by decide)
      have e10 : aA.eval (.tmp 10) = .tuple #[.agg #[.int .u64 5, x10], .int .i64 0] := by rw [← hA]; exact putAll_at f 10 2 slotsTaw2 a0 sbTaw2 (by kernel_rfl) zsz rfl hx10
      exact flw_val rfl rfl (.agg #[.int .u64 5, x10]) (ex_extract (.tmp 10) 0 rfl e10 rfl) hS (Flz.refl _) ⟨x10, updF_self _ _ _, hr10⟩
    · intro f w1 hS hf
      generalize hA : putAll _ _ f = aA
      obtain ⟨x10, hx10, hr10⟩ := hf 2 (by decide)
      have e10 : aA.eval (.tmp 10) = .tuple #[.agg #[.int .u64 5, x10], .int .i64 0] := by rw [← hA]; exact putAll_at f 10 2 slotsTaw2 a0 sbTaw2 (by kernel_rfl) zsz rfl hx10
      exact flw_val rfl rfl (.int .i64 0) (ex_extract (.tmp 10) 1 rfl e10 rfl) hS (Flz.refl _) (updF_self _ _ _)
    · intro f w1 hS hf
      generalize hA : putAll _ _ f = aA
      exact flw_wp rfl rfl (fun K hK => wp_alloc_row 26 rfl (.agg #[.int .u64 0, .slice none 0 0]) (fun w => by kernel_rfl) (hK _ _ (hS.alloc hS.size _) (Flz.al _ _) ⟨_, updF_self _ _ _, hS.size, Has.made' _ _ _ _ rfl⟩))
  intro f x2 hS hf hap
  have h0 : f 0 = v1_1 := hf 0 (by decide)
  obtain ⟨v2_1, h1, -⟩ := hf 1 (by decide)
  obtain ⟨v2_2, h2, -⟩ := hf 2 (by decide)
  obtain ⟨v2_3, h3, hu3⟩ := hf 3 (by decide)
  have HU2_3 := Lib.hid hu3
  clear hu3
  have h4 : f 4 = .int .i64 0 := hf 4 (by decide)
  obtain ⟨b2_5, h5, hgb5, hhb5⟩ := hf 5 (by decide)
  clear hf hap
  clear zsz z1
  subst ha0
  simp only [slotsTaw2, putAll, h0, h1, h2, h3, h4, h5, Act.put, List.setIfInBounds_toArray, List.set_cons_zero, List.set_cons_succ]
  clear h0 h1 h2 h3 h4 h5
  refine tl_store rfl (by kernel_rfl) 26 (.tmp 2) (.tmp 13) rfl b2_5 ([.int .u64 5, v2_3]) _ rfl rfl _ hhb5 (by kernel_rfl) rfl (tb_ones _ HU2_3.out.one) ?_
  intro u2 hp5 hbl hot
  replace hS := hS.trans (hbl _ hgb5)
  replace HU2_3 := Lib.hid (HU2_3.out.hotb hhb5 ⟨_, _, _, rfl⟩ (by decide) (hbl 0 (Nat.zero_le _)).size hot)
  clear hbl hot hhb5
  try simp only [Act.put]
  refine tl_pure rfl (by kernel_rfl) (.int .i64 0) (ex_assign (.tmp 14) rfl rfl) ?_
  try simp only [Act.put, List.setIfInBounds_toArray, List.set_cons_zero, List.set_cons_succ]
  refine tl_nil ?_
  replace HU1_0 := Lib.hid (HU1_0.out.keep hS)
  replace HU1_1 := Lib.hid (HU1_1.out.keep hS)
  have HBW := Lib.hid HB.out.size
  replace HB := Lib.hid (HB.out.trans (hS.mono HB.out.size))
  clear hS
  have HGb2_5 : Hid (w.heap.size ≤ b2_5) := Lib.hid (Nat.le_trans HBW.out hgb5)
  have HX_b2_5 : Hid (Has u2 b2_5 26 ([.int .u64 5, v2_3])) := Lib.hid hp5
  clear hp5 hgb5
  clear HBW
  go_upto_region 3 with fail
  refine wp_act (fun a0 ha0 => ?_)
  have zsz : a0.tmps.size = 50 := by rw [ha0]; rfl
  have z1 : a0.eval (.tmp 1) = v1_1 := by rw [ha0]; rfl
  refine wp_region_flwo (E := Flz) [] slotsTaw3 waitTaw3 [Fct.val Flz 0 (v1_1), Fct.obj 1 (fun v w => ∃ zz, v = .tuple #[.agg #[.int .u64 5, zz], .int .i64 0] ∧ Cs w zz (tab 5 12 (srt (([1]).map fewS)))) (fun _ _ _ ⟨zz, a, b⟩ he => ⟨zz, a, b.flz he⟩), Fct.obj 2 (fun v w => ∃ zz, v = .tuple #[.agg #[.int .u64 5, zz], .int .i64 0] ∧ Cs w zz (tab 5 12 (srt (([1]).map fewS)))) (fun _ _ _ ⟨zz, a, b⟩ he => ⟨zz, a, b.flz he⟩), Fct.obj 3 (fun v w => ∃ zz, v = .agg #[.int .u64 5, zz] ∧ Cs w zz (tab 5 12 (srt (([1]).map fewS)))) (fun _ _ _ ⟨zz, a, b⟩ he => ⟨zz, a, b.flz he⟩), Fct.val Flz 4 (.int .i64 0), Fct.obj 5 (fun v w => ∃ g, v = .pointer (some ⟨g, 0, none⟩) ∧ u2.heap.size ≤ g ∧ Has w g 26 ([.int .u64 0, .slice none 0 0])) (fun _ _ _ ⟨g, a, b, c⟩ he => ⟨g, a, b, c.flz he (by decide)⟩)] (fun w' => Below u2.heap.size u2 w') _ 6 2 chkTaw3 (by kernel_rfl) (by kernel_rfl) (by kernel_rfl) (by decide) (Below.refl _ _) ?_ ?_
  · refine lt_s (lt_s (lt_s (lt_s (lt_s (lt_s (lt_0) ?_) ?_) ?_) ?_) ?_) ?_
    · intro f w1 hS hf
      generalize hA : putAll _ _ f = aA
      have r1 : aA.eval (.tmp 1) = v1_1 := by rw [← hA]; exact putAll_off f 1 slotsTaw3 a0 (by kernel_rfl) z1
      exact flw_val rfl rfl (v1_1) (ex_move (.tmp 1) rfl r1) hS (Flz.refl _) (updF_self _ _ _)
    · intro f w1 hS hf
      generalize hA : putAll _ _ f = aA
      have h16 : f 0 = v1_1 := hf 0 (by decide)
      have r16 : aA.eval (.tmp 16) = v1_1 := by rw [← hA]; exact putAll_at f 16 0 slotsTaw3 a0 sbTaw3 (by kernel_rfl) zsz rfl h16
      exact flw_call rfl rfl 9 #[_, _, (.tmp 16)] _ rfl #[.int .u64 5, .int .i64 12, v1_1] (by simp only [List.map_toArray, List.map_cons, List.map_nil, r16]; rfl) (fun w => by kernel_rfl) (fun v w' => ∃ zz, v = .tuple #[.agg #[.int .u64 5, zz], .int .i64 0] ∧ Cs w' zz (tab 5 12 (srt (([1]).map fewS)))) (ofA_t 5 12 12 _ _ (by decide) rfl (asc_few _) w1 (by decide) (HL.out.keep (HB.out.trans (hS.mono HB.out.size)) HSZ.out) (len_few _ (by decide)) (HU1_1.out.keep hS)) (fun v w' hr hb => ⟨hS.trans (hb.mono hS.size), Flz.of hb, by obtain ⟨zz, a, b⟩ := hr; exact ⟨zz, (updF_self _ _ _).trans a, b⟩⟩)
    · intro f w1 hS hf
      generalize hA : putAll _ _ f = aA
      obtain ⟨x17, hx17, hr17⟩ := hf 1 (by decide)
      have e17 : aA.eval (.tmp 17) = .tuple #[.agg #[.int .u64 5, x17], .int .i64 0] := by rw [← hA]; exact putAll_at f 17 1 slotsTaw3 a0 sbTaw3 (by kernel_rfl) zsz rfl hx17
      exact flw_val rfl rfl (.tuple #[.agg #[.int .u64 5, x17], .int .i64 0]) (ex_move (.tmp 17) rfl e17) hS (Flz.refl _) ⟨x17, updF_self _ _ _, hr17⟩
    · intro f w1 hS hf
      generalize hA : putAll _ _ f = aA
      obtain ⟨x15, hx15, hr15⟩ := hf 2 (by decide)
      have e15 : aA.eval (.tmp 15) = .tuple #[.agg #[.int .u64 5, x15], .int .i64 0] := by rw [← hA]; exact putAll_at f 15 2 slotsTaw3 a0 sbTaw3 (by kernel_rfl) zsz rfl hx15
      exact flw_val rfl rfl (.agg #[.int .u64 5, x15]) (ex_extract (.tmp 15) 0 rfl e15 rfl) hS (Flz.refl _) ⟨x15, updF_self _ _ _, hr15⟩
    · intro f w1 hS hf
      generalize hA : putAll _ _ f = aA
      obtain ⟨x15, hx15, hr15⟩ := hf 2 (by decide)
      have e15 : aA.eval (.tmp 15) = .tuple #[.agg #[.int .u64 5, x15], .int .i64 0] := by rw [← hA]; exact putAll_at f 15 2 slotsTaw3 a0 sbTaw3 (by kernel_rfl) zsz rfl hx15
      exact flw_val rfl rfl (.int .i64 0) (ex_extract (.tmp 15) 1 rfl e15 rfl) hS (Flz.refl _) (updF_self _ _ _)
    · intro f w1 hS hf
      generalize hA : putAll _ _ f = aA
      exact flw_wp rfl rfl (fun K hK => wp_alloc_row 26 rfl (.agg #[.int .u64 0, .slice none 0 0]) (fun w => by kernel_rfl) (hK _ _ (hS.alloc hS.size _) (Flz.al _ _) ⟨_, updF_self _ _ _, hS.size, Has.made' _ _ _ _ rfl⟩))
  intro f x3 hS hf hap
  have h0 : f 0 = v1_1 := hf 0 (by decide)
  obtain ⟨v3_1, h1, -⟩ := hf 1 (by decide)
  obtain ⟨v3_2, h2, -⟩ := hf 2 (by decide)
  obtain ⟨v3_3, h3, hu3⟩ := hf 3 (by decide)
  have HU3_3 := Lib.hid hu3
  clear hu3
  have h4 : f 4 = .int .i64 0 := hf 4 (by decide)
  obtain ⟨b3_5, h5, hgb5, hhb5⟩ := hf 5 (by decide)
  clear hf hap
  clear zsz z1
  subst ha0
  simp only [slotsTaw3, putAll, h0, h1, h2, h3, h4, h5, Act.put, List.setIfInBounds_toArray, List.set_cons_zero, List.set_cons_succ]
  clear h0 h1 h2 h3 h4 h5
  refine tl_store rfl (by kernel_rfl) 26 (.tmp 4) (.tmp 18) rfl b3_5 ([.int .u64 5, v3_3]) _ rfl rfl _ hhb5 (by kernel_rfl) rfl (tb_ones _ HU3_3.out.one) ?_
  intro u3 hp5 hbl hot
  replace hS := hS.trans (hbl _ hgb5)
  replace HU3_3 := Lib.hid (HU3_3.out.hotb hhb5 ⟨_, _, _, rfl⟩ (by decide) (hbl 0 (Nat.zero_le _)).size hot)
  clear hbl hot hhb5
  try simp only [Act.put]
  refine tl_pure rfl (by kernel_rfl) (.int .i64 0) (ex_assign (.tmp 19) rfl rfl) ?_
  try simp only [Act.put, List.setIfInBounds_toArray, List.set_cons_zero, List.set_cons_succ]
  refine tl_nil ?_
  replace HU1_0 := Lib.hid (HU1_0.out.keep hS)
  replace HU1_1 := Lib.hid (HU1_1.out.keep hS)
  replace HX_b2_5 := Lib.hid (HX_b2_5.out.keepB hS)
  replace HU2_3 := Lib.hid (HU2_3.out.keep hS)
  have HBW := Lib.hid HB.out.size
  replace HB := Lib.hid (HB.out.trans (hS.mono HB.out.size))
  clear hS
  have HGb3_5 : Hid (w.heap.size ≤ b3_5) := Lib.hid (Nat.le_trans HBW.out hgb5)
  have HX_b3_5 : Hid (Has u3 b3_5 26 ([.int .u64 5, v3_3])) := Lib.hid hp5
  clear hp5 hgb5
  clear HBW
  go_upto_region 4 with fail
  refine wp_act (fun a0 ha0 => ?_)
  have zsz : a0.tmps.size = 50 := by rw [ha0]; rfl
  have z2 : a0.eval (.tmp 2) = .pointer (some ⟨b2_5, 0, none⟩) := by rw [ha0]; rfl
  have z4 : a0.eval (.tmp 4) = .pointer (some ⟨b3_5, 0, none⟩) := by rw [ha0]; rfl
  refine wp_region_flwo (E := Flz) [] slotsTaw4 waitTaw4 [Fct.val Flz 0 (.agg #[.int .u64 5, v2_3]), Fct.val Flz 1 (.agg #[.int .u64 5, v3_3]), Fct.obj 2 (fun v w => ∃ zz, v = .tuple #[.agg #[.int .u64 5, zz], .int .i64 0] ∧ Cs w zz (List.zipWith minusC (tab 5 12 (srt (([1]).map fewS))) (tab 5 12 (srt (([1]).map fewS))))) (fun _ _ _ ⟨zz, a, b⟩ he => ⟨zz, a, b.flz he⟩), Fct.obj 3 (fun v w => ∃ zz, v = .tuple #[.agg #[.int .u64 5, zz], .int .i64 0] ∧ Cs w zz (List.zipWith minusC (tab 5 12 (srt (([1]).map fewS))) (tab 5 12 (srt (([1]).map fewS))))) (fun _ _ _ ⟨zz, a, b⟩ he => ⟨zz, a, b.flz he⟩), Fct.obj 4 (fun v w => ∃ zz, v = .agg #[.int .u64 5, zz] ∧ Cs w zz (List.zipWith minusC (tab 5 12 (srt (([1]).map fewS))) (tab 5 12 (srt (([1]).map fewS))))) (fun _ _ _ ⟨zz, a, b⟩ he => ⟨zz, a, b.flz he⟩), Fct.val Flz 5 (.int .i64 0), Fct.obj 6 (fun v w => ∃ g, v = .pointer (some ⟨g, 0, none⟩) ∧ u3.heap.size ≤ g ∧ Has w g 26 ([.int .u64 0, .slice none 0 0])) (fun _ _ _ ⟨g, a, b, c⟩ he => ⟨g, a, b, c.flz he (by decide)⟩)] (fun w' => Below u3.heap.size u3 w') _ 7 2 chkTaw4 (by kernel_rfl) (by kernel_rfl) (by kernel_rfl) (by decide) (Below.refl _ _) ?_ ?_
  · refine lt_s (lt_s (lt_s (lt_s (lt_s (lt_s (lt_s (lt_0) ?_) ?_) ?_) ?_) ?_) ?_) ?_
    · intro f w1 hS hf
      generalize hA : putAll _ _ f = aA
      have r2 : aA.eval (.tmp 2) = .pointer (some ⟨b2_5, 0, none⟩) := by rw [← hA]; exact putAll_off f 2 slotsTaw4 a0 (by kernel_rfl) z2
      exact flw_val rfl rfl (.agg #[.int .u64 5, v2_3]) (ex_loadR 26 (.tmp 2) rfl ⟨b2_5, 0, none⟩ r2 (fun _ => by kernel_rfl) [.int .u64 5, v2_3] (by kernel_rfl) ((HX_b2_5.out.keepB hS).part [.int .u64 5, v2_3] 0 (fun j u hu => by rw [Nat.zero_add]; exact hu))) hS (Flz.refl _) (updF_self _ _ _)
    · intro f w1 hS hf
      generalize hA : putAll _ _ f = aA
      have r4 : aA.eval (.tmp 4) = .pointer (some ⟨b3_5, 0, none⟩) := by rw [← hA]; exact putAll_off f 4 slotsTaw4 a0 (by kernel_rfl) z4
      exact flw_val rfl rfl (.agg #[.int .u64 5, v3_3]) (ex_loadR 26 (.tmp 4) rfl ⟨b3_5, 0, none⟩ r4 (fun _ => by kernel_rfl) [.int .u64 5, v3_3] (by kernel_rfl) ((HX_b3_5.out.keepB hS).part [.int .u64 5, v3_3] 0 (fun j u hu => by rw [Nat.zero_add]; exact hu))) hS (Flz.refl _) (updF_self _ _ _)
    · intro f w1 hS hf
      generalize hA : putAll _ _ f = aA
      have h21 : f 0 = .agg #[.int .u64 5, v2_3] := hf 0 (by decide)
      have r21 : aA.eval (.tmp 21) = .agg #[.int .u64 5, v2_3] := by rw [← hA]; exact putAll_at f 21 0 slotsTaw4 a0 sbTaw4 (by kernel_rfl) zsz rfl h21
      have h22 : f 1 = .agg #[.int .u64 5, v3_3] := hf 1 (by decide)
      have r22 : aA.eval (.tmp 22) = .agg #[.int .u64 5, v3_3] := by rw [← hA]; exact putAll_at f 22 1 slotsTaw4 a0 sbTaw4 (by kernel_rfl) zsz rfl h22
      exact flw_call rfl rfl 10 #[(.tmp 21), (.tmp 22)] _ rfl #[.agg #[.int .u64 5, v2_3], .agg #[.int .u64 5, v3_3]] (by simp only [List.map_toArray, List.map_cons, List.map_nil, r21, r22]) (fun w => by kernel_rfl) (fun v w' => ∃ zz, v = .tuple #[.agg #[.int .u64 5, zz], .int .i64 0] ∧ Cs w' zz (List.zipWith minusC (tab 5 12 (srt (([1]).map fewS))) (tab 5 12 (srt (([1]).map fewS))))) (minusT_t 5 _ _ 5 _ _ (tab_ok (by decide)) w1 (tab_small (by decide)) (HU2_3.out.keep hS) (HU3_3.out.keep hS)) (fun v w' hr hb => ⟨hS.trans (hb.mono hS.size), Flz.of hb, by obtain ⟨zz, a, b⟩ := hr; exact ⟨zz, (updF_self _ _ _).trans a, b⟩⟩)
    · intro f w1 hS hf
      generalize hA : putAll _ _ f = aA
      obtain ⟨x23, hx23, hr23⟩ := hf 2 (by decide)
      have e23 : aA.eval (.tmp 23) = .tuple #[.agg #[.int .u64 5, x23], .int .i64 0] := by rw [← hA]; exact putAll_at f 23 2 slotsTaw4 a0 sbTaw4 (by kernel_rfl) zsz rfl hx23
      exact flw_val rfl rfl (.tuple #[.agg #[.int .u64 5, x23], .int .i64 0]) (ex_move (.tmp 23) rfl e23) hS (Flz.refl _) ⟨x23, updF_self _ _ _, hr23⟩
    · intro f w1 hS hf
      generalize hA : putAll _ _ f = aA
      obtain ⟨x20, hx20, hr20⟩ := hf 3 (by decide)
      have e20 : aA.eval (.tmp 20) = .tuple #[.agg #[.int .u64 5, x20], .int .i64 0] := by rw [← hA]; exact putAll_at f 20 3 slotsTaw4 a0 sbTaw4 (by kernel_rfl) zsz rfl hx20
      exact flw_val rfl rfl (.agg #[.int .u64 5, x20]) (ex_extract (.tmp 20) 0 rfl e20 rfl) hS (Flz.refl _) ⟨x20, updF_self _ _ _, hr20⟩
    · intro f w1 hS hf
      generalize hA : putAll _ _ f = aA
      obtain ⟨x20, hx20, hr20⟩ := hf 3 (by decide)
      have e20 : aA.eval (.tmp 20) = .tuple #[.agg #[.int .u64 5, x20], .int .i64 0] := by rw [← hA]; exact putAll_at f 20 3 slotsTaw4 a0 sbTaw4 (by kernel_rfl) zsz rfl hx20
      exact flw_val rfl rfl (.int .i64 0) (ex_extract (.tmp 20) 1 rfl e20 rfl) hS (Flz.refl _) (updF_self _ _ _)
    · intro f w1 hS hf
      generalize hA : putAll _ _ f = aA
      exact flw_wp rfl rfl (fun K hK => wp_alloc_row 26 rfl (.agg #[.int .u64 0, .slice none 0 0]) (fun w => by kernel_rfl) (hK _ _ (hS.alloc hS.size _) (Flz.al _ _) ⟨_, updF_self _ _ _, hS.size, Has.made' _ _ _ _ rfl⟩))
  intro f x4 hS hf hap
  have h0 : f 0 = .agg #[.int .u64 5, v2_3] := hf 0 (by decide)
  have h1 : f 1 = .agg #[.int .u64 5, v3_3] := hf 1 (by decide)
  obtain ⟨v4_2, h2, -⟩ := hf 2 (by decide)
  obtain ⟨v4_3, h3, -⟩ := hf 3 (by decide)
  obtain ⟨v4_4, h4, hu4⟩ := hf 4 (by decide)
  have HU4_4 := Lib.hid hu4
  clear hu4
  have h5 : f 5 = .int .i64 0 := hf 5 (by decide)
  obtain ⟨b4_6, h6, hgb6, hhb6⟩ := hf 6 (by decide)
  clear hf hap
  clear zsz z2 z4
  subst ha0
  simp only [slotsTaw4, putAll, h0, h1, h2, h3, h4, h5, h6, Act.put, List.setIfInBounds_toArray, List.set_cons_zero, List.set_cons_succ]
  clear h0 h1 h2 h3 h4 h5 h6
  refine tl_store rfl (by kernel_rfl) 26 (.tmp 6) (.tmp 24) rfl b4_6 ([.int .u64 5, v4_4]) _ rfl rfl _ hhb6 (by kernel_rfl) rfl (tb_ones _ HU4_4.out.one) ?_
  intro u4 hp6 hbl hot
  replace hS := hS.trans (hbl _ hgb6)
  replace HU4_4 := Lib.hid (HU4_4.out.hotb hhb6 ⟨_, _, _, rfl⟩ (by decide) (hbl 0 (Nat.zero_le _)).size hot)
  clear hbl hot hhb6
  try simp only [Act.put]
  refine tl_pure rfl (by kernel_rfl) (.int .i64 0) (ex_assign (.tmp 25) rfl rfl) ?_
  try simp only [Act.put, List.setIfInBounds_toArray, List.set_cons_zero, List.set_cons_succ]
  refine tl_nil ?_
  replace HU1_0 := Lib.hid (HU1_0.out.keep hS)
  replace HU1_1 := Lib.hid (HU1_1.out.keep hS)
  replace HX_b2_5 := Lib.hid (HX_b2_5.out.keepB hS)
  replace HU2_3 := Lib.hid (HU2_3.out.keep hS)
  replace HX_b3_5 := Lib.hid (HX_b3_5.out.keepB hS)
  replace HU3_3 := Lib.hid (HU3_3.out.keep hS)
  have HBW := Lib.hid HB.out.size
  replace HB := Lib.hid (HB.out.trans (hS.mono HB.out.size))
  clear hS
  have HGb4_6 : Hid (w.heap.size ≤ b4_6) := Lib.hid (Nat.le_trans HBW.out hgb6)
  have HX_b4_6 : Hid (Has u4 b4_6 26 ([.int .u64 5, v4_4])) := Lib.hid hp6
  clear hp6 hgb6
  clear HBW
  go_upto_region 5 with fail
  refine wp_act (fun a0 ha0 => ?_)
  have zsz : a0.tmps.size = 50 := by rw [ha0]; rfl
  have z3 : a0.eval (.tmp 3) = .int .i64 0 := by rw [ha0]; rfl
  have z5 : a0.eval (.tmp 5) = .int .i64 0 := by rw [ha0]; rfl
  have z7 : a0.eval (.tmp 7) = .int .i64 0 := by rw [ha0]; rfl
  have z6 : a0.eval (.tmp 6) = .pointer (some ⟨b4_6, 0, none⟩) := by rw [ha0]; rfl
  have z2 : a0.eval (.tmp 2) = .pointer (some ⟨b2_5, 0, none⟩) := by rw [ha0]; rfl
  refine wp_region_flwo (E := Flz) [] slotsTaw5 waitTaw5 [Fct.val Flz 0 (.int .i64 0), Fct.val Flz 1 (.bool true), Fct.val Flz 2 (.bool true), Fct.val Flz 3 (.int .i64 0), Fct.val Flz 4 (.bool true), Fct.val Flz 5 (.bool true), Fct.val Flz 6 (.bool true), Fct.val Flz 7 (.int .i64 0), Fct.val Flz 8 (.bool true), Fct.val Flz 9 (.bool true), Fct.val Flz 10 (.bool true), Fct.val Flz 11 (.agg #[.int .u64 5, v4_4]), Fct.val Flz 12 (.bool true), Fct.val Flz 13 (.bool true), Fct.val Flz 14 (.bool true), Fct.val Flz 15 (.agg #[.int .u64 5, v2_3]), Fct.val Flz 16 (.bool false), Fct.val Flz 17 (.bool true), Fct.val Flz 18 (.bool true), Fct.val Flz 19 (.bool true), Fct.val Flz 20 (.agg #[.int .u64 5, v2_3]), Fct.val Flz 21 (.int .i64 (cntT (tab 5 12 (srt (([1]).map fewS))))), Fct.val Flz 22 (.bool true), Fct.val Flz 23 (.bool true), Fct.val Flz 24 (.bool true)] (fun w' => Below u4.heap.size u4 w') _ 25 0 chkTaw5 (by kernel_rfl) (by kernel_rfl) (by kernel_rfl) (by decide) (Below.refl _ _) ?_ ?_
  · refine lt_s (lt_s (lt_s (lt_s (lt_s (lt_s (lt_s (lt_s (lt_s (lt_s (lt_s (lt_s (lt_s (lt_s (lt_s (lt_s (lt_s (lt_s (lt_s (lt_s (lt_s (lt_s (lt_s (lt_s (lt_s (lt_0) ?_) ?_) ?_) ?_) ?_) ?_) ?_) ?_) ?_) ?_) ?_) ?_) ?_) ?_) ?_) ?_) ?_) ?_) ?_) ?_) ?_) ?_) ?_) ?_) ?_
    · intro f w1 hS hf
      generalize hA : putAll _ _ f = aA
      have r3 : aA.eval (.tmp 3) = .int .i64 0 := by rw [← hA]; exact putAll_off f 3 slotsTaw5 a0 (by kernel_rfl) z3
      exact flw_val rfl rfl (.int .i64 0) (ex_move (.tmp 3) rfl r3) hS (Flz.refl _) (updF_self _ _ _)
    · intro f w1 hS hf
      generalize hA : putAll _ _ f = aA
      have h26 : f 0 = .int .i64 0 := hf 0 (by decide)
      have r26 : aA.eval (.tmp 26) = .int .i64 0 := by rw [← hA]; exact putAll_at f 26 0 slotsTaw5 a0 sbTaw5 (by kernel_rfl) zsz rfl h26
      exact flw_val rfl rfl (.bool true) (Eq.trans (ex_int .eql _ _ (.tmp 26) _ rfl .i64 0 0 r26 rfl (.bool ((0 : Int) == (0 : Int))) (fun _ => rfl)) (by rw [(by decide : ((0 : Int) == (0 : Int)) = true)])) hS (Flz.refl _) (updF_self _ _ _)
    · intro f w1 hS hf
      generalize hA : putAll _ _ f = aA
      have h27 : f 1 = .bool true := hf 1 (by decide)
      have r27 : aA.eval (.tmp 27) = .bool true := by rw [← hA]; exact putAll_at f 27 1 slotsTaw5 a0 sbTaw5 (by kernel_rfl) zsz rfl h27
      exact flw_val rfl rfl (.bool true) (ex_move (.tmp 27) rfl r27) hS (Flz.refl _) (updF_self _ _ _)
    · intro f w1 hS hf
      generalize hA : putAll _ _ f = aA
      have g28 : f 2 = .bool true := hf 2 (by decide)
      have t28 : aA.tmps[28]? = some (.bool true) := by rw [← hA]; exact putAll_g f 28 2 slotsTaw5 a0 sbTaw5 (by kernel_rfl) zsz rfl g28
      have r5 : aA.eval (.tmp 5) = .int .i64 0 := by rw [← hA]; exact putAll_off f 5 slotsTaw5 a0 (by kernel_rfl) z5
      exact flw_val rfl ((wanted_of rfl 28 rfl t28).trans rfl) (.int .i64 0) (ex_move (.tmp 5) rfl r5) hS (Flz.refl _) (updF_self _ _ _)
    · intro f w1 hS hf
      generalize hA : putAll _ _ f = aA
      have g28 : f 2 = .bool true := hf 2 (by decide)
      have t28 : aA.tmps[28]? = some (.bool true) := by rw [← hA]; exact putAll_g f 28 2 slotsTaw5 a0 sbTaw5 (by kernel_rfl) zsz rfl g28
      have h29 : f 3 = .int .i64 0 := hf 3 (by decide)
      have r29 : aA.eval (.tmp 29) = .int .i64 0 := by rw [← hA]; exact putAll_at f 29 3 slotsTaw5 a0 sbTaw5 (by kernel_rfl) zsz rfl h29
      exact flw_val rfl ((wanted_of rfl 28 rfl t28).trans rfl) (.bool true) (Eq.trans (ex_int .eql _ _ (.tmp 29) _ rfl .i64 0 0 r29 rfl (.bool ((0 : Int) == (0 : Int))) (fun _ => rfl)) (by rw [(by decide : ((0 : Int) == (0 : Int)) = true)])) hS (Flz.refl _) (updF_self _ _ _)
    · intro f w1 hS hf
      generalize hA : putAll _ _ f = aA
      have h28 : f 2 = .bool true := hf 2 (by decide)
      have r28 : aA.eval (.tmp 28) = .bool true := by rw [← hA]; exact putAll_at f 28 2 slotsTaw5 a0 sbTaw5 (by kernel_rfl) zsz rfl h28
      have h30 : f 4 = .bool true := hf 4 (by decide)
      have r30 : aA.eval (.tmp 30) = .bool true := by rw [← hA]; exact putAll_at f 30 4 slotsTaw5 a0 sbTaw5 (by kernel_rfl) zsz rfl h30
      exact flw_val rfl rfl (.bool true) (ex_pick (.tmp 28) (.tmp 30) _ rfl true r28 ((if_pos rfl).trans r30)) hS (Flz.refl _) (updF_self _ _ _)
    · intro f w1 hS hf
      generalize hA : putAll _ _ f = aA
      have h31 : f 5 = .bool true := hf 5 (by decide)
      have r31 : aA.eval (.tmp 31) = .bool true := by rw [← hA]; exact putAll_at f 31 5 slotsTaw5 a0 sbTaw5 (by kernel_rfl) zsz rfl h31
      exact flw_val rfl rfl (.bool true) (ex_move (.tmp 31) rfl r31) hS (Flz.refl _) (updF_self _ _ _)
    · intro f w1 hS hf
      generalize hA : putAll _ _ f = aA
      have g32 : f 6 = .bool true := hf 6 (by decide)
      have t32 : aA.tmps[32]? = some (.bool true) := by rw [← hA]; exact putAll_g f 32 6 slotsTaw5 a0 sbTaw5 (by kernel_rfl) zsz rfl g32
      have r7 : aA.eval (.tmp 7) = .int .i64 0 := by rw [← hA]; exact putAll_off f 7 slotsTaw5 a0 (by kernel_rfl) z7
      exact flw_val rfl ((wanted_of rfl 32 rfl t32).trans rfl) (.int .i64 0) (ex_move (.tmp 7) rfl r7) hS (Flz.refl _) (updF_self _ _ _)
    · intro f w1 hS hf
      generalize hA : putAll _ _ f = aA
      have g32 : f 6 = .bool true := hf 6 (by decide)
      have t32 : aA.tmps[32]? = some (.bool true) := by rw [← hA]; exact putAll_g f 32 6 slotsTaw5 a0 sbTaw5 (by kernel_rfl) zsz rfl g32
      have h33 : f 7 = .int .i64 0 := hf 7 (by decide)
      have r33 : aA.eval (.tmp 33) = .int .i64 0 := by rw [← hA]; exact putAll_at f 33 7 slotsTaw5 a0 sbTaw5 (by kernel_rfl) zsz rfl h33
      exact flw_val rfl ((wanted_of rfl 32 rfl t32).trans rfl) (.bool true) (Eq.trans (ex_int .eql _ _ (.tmp 33) _ rfl .i64 0 0 r33 rfl (.bool ((0 : Int) == (0 : Int))) (fun _ => rfl)) (by rw [(by decide : ((0 : Int) == (0 : Int)) = true)])) hS (Flz.refl _) (updF_self _ _ _)
    · intro f w1 hS hf
      generalize hA : putAll _ _ f = aA
      have h32 : f 6 = .bool true := hf 6 (by decide)
      have r32 : aA.eval (.tmp 32) = .bool true := by rw [← hA]; exact putAll_at f 32 6 slotsTaw5 a0 sbTaw5 (by kernel_rfl) zsz rfl h32
      have h34 : f 8 = .bool true := hf 8 (by decide)
      have r34 : aA.eval (.tmp 34) = .bool true := by rw [← hA]; exact putAll_at f 34 8 slotsTaw5 a0 sbTaw5 (by kernel_rfl) zsz rfl h34
      exact flw_val rfl rfl (.bool true) (ex_pick (.tmp 32) (.tmp 34) _ rfl true r32 ((if_pos rfl).trans r34)) hS (Flz.refl _) (updF_self _ _ _)
    · intro f w1 hS hf
      generalize hA : putAll _ _ f = aA
      have h35 : f 9 = .bool true := hf 9 (by decide)
      have r35 : aA.eval (.tmp 35) = .bool true := by rw [← hA]; exact putAll_at f 35 9 slotsTaw5 a0 sbTaw5 (by kernel_rfl) zsz rfl h35
      exact flw_val rfl rfl (.bool true) (ex_move (.tmp 35) rfl r35) hS (Flz.refl _) (updF_self _ _ _)
    · intro f w1 hS hf
      generalize hA : putAll _ _ f = aA
      have g36 : f 10 = .bool true := hf 10 (by decide)
      have t36 : aA.tmps[36]? = some (.bool true) := by rw [← hA]; exact putAll_g f 36 10 slotsTaw5 a0 sbTaw5 (by kernel_rfl) zsz rfl g36
      have r6 : aA.eval (.tmp 6) = .pointer (some ⟨b4_6, 0, none⟩) := by rw [← hA]; exact putAll_off f 6 slotsTaw5 a0 (by kernel_rfl) z6
      exact flw_val rfl ((wanted_of rfl 36 rfl t36).trans rfl) (.agg #[.int .u64 5, v4_4]) (ex_loadR 26 (.tmp 6) rfl ⟨b4_6, 0, none⟩ r6 (fun _ => by kernel_rfl) [.int .u64 5, v4_4] (by kernel_rfl) ((HX_b4_6.out.keepB hS).part [.int .u64 5, v4_4] 0 (fun j u hu => by rw [Nat.zero_add]; exact hu))) hS (Flz.refl _) (updF_self _ _ _)
    · intro f w1 hS hf
      generalize hA : putAll _ _ f = aA
      have g36 : f 10 = .bool true := hf 10 (by decide)
      have t36 : aA.tmps[36]? = some (.bool true) := by rw [← hA]; exact putAll_g f 36 10 slotsTaw5 a0 sbTaw5 (by kernel_rfl) zsz rfl g36
      have h37 : f 11 = .agg #[.int .u64 5, v4_4] := hf 11 (by decide)
      have r37 : aA.eval (.tmp 37) = .agg #[.int .u64 5, v4_4] := by rw [← hA]; exact putAll_at f 37 11 slotsTaw5 a0 sbTaw5 (by kernel_rfl) zsz rfl h37
      exact flw_call rfl ((wanted_of rfl 36 rfl t36).trans rfl) 12 #[(.tmp 37)] _ rfl #[.agg #[.int .u64 5, v4_4]] (by simp only [List.map_toArray, List.map_cons, List.map_nil, r37]) (fun w => by kernel_rfl) (fun v _ => v = .bool true) (as_any (zeroT_any _ _ _ w1 (zip_small (by decide)) (HU4_4.out.keep hS)) (congrArg Value.bool (zip_zero (by decide)))) (fun v w' hr hb => ⟨hS.trans (hb.mono hS.size), Flz.of hb, (updF_self _ _ _).trans hr⟩)
    · intro f w1 hS hf
      generalize hA : putAll _ _ f = aA
      have h36 : f 10 = .bool true := hf 10 (by decide)
      have r36 : aA.eval (.tmp 36) = .bool true := by rw [← hA]; exact putAll_at f 36 10 slotsTaw5 a0 sbTaw5 (by kernel_rfl) zsz rfl h36
      have h38 : f 12 = .bool true := hf 12 (by decide)
      have r38 : aA.eval (.tmp 38) = .bool true := by rw [← hA]; exact putAll_at f 38 12 slotsTaw5 a0 sbTaw5 (by kernel_rfl) zsz rfl h38
      exact flw_val rfl rfl (.bool true) (ex_pick (.tmp 36) (.tmp 38) _ rfl true r36 ((if_pos rfl).trans r38)) hS (Flz.refl _) (updF_self _ _ _)
    · intro f w1 hS hf
      generalize hA : putAll _ _ f = aA
      have h39 : f 13 = .bool true := hf 13 (by decide)
      have r39 : aA.eval (.tmp 39) = .bool true := by rw [← hA]; exact putAll_at f 39 13 slotsTaw5 a0 sbTaw5 (by kernel_rfl) zsz rfl h39
      exact flw_val rfl rfl (.bool true) (ex_move (.tmp 39) rfl r39) hS (Flz.refl _) (updF_self _ _ _)
    · intro f w1 hS hf
      generalize hA : putAll _ _ f = aA
      have g40 : f 14 = .bool true := hf 14 (by decide)
      have t40 : aA.tmps[40]? = some (.bool true) := by rw [← hA]; exact putAll_g f 40 14 slotsTaw5 a0 sbTaw5 (by kernel_rfl) zsz rfl g40
      have r2 : aA.eval (.tmp 2) = .pointer (some ⟨b2_5, 0, none⟩) := by rw [← hA]; exact putAll_off f 2 slotsTaw5 a0 (by kernel_rfl) z2
      exact flw_val rfl ((wanted_of rfl 40 rfl t40).trans rfl) (.agg #[.int .u64 5, v2_3]) (ex_loadR 26 (.tmp 2) rfl ⟨b2_5, 0, none⟩ r2 (fun _ => by kernel_rfl) [.int .u64 5, v2_3] (by kernel_rfl) ((HX_b2_5.out.keepB hS).part [.int .u64 5, v2_3] 0 (fun j u hu => by rw [Nat.zero_add]; exact hu))) hS (Flz.refl _) (updF_self _ _ _)
    · intro f w1 hS hf
      generalize hA : putAll _ _ f = aA
      have g40 : f 14 = .bool true := hf 14 (by decide)
      have t40 : aA.tmps[40]? = some (.bool true) := by rw [← hA]; exact putAll_g f 40 14 slotsTaw5 a0 sbTaw5 (by kernel_rfl) zsz rfl g40
      have h41 : f 15 = .agg #[.int .u64 5, v2_3] := hf 15 (by decide)
      have r41 : aA.eval (.tmp 41) = .agg #[.int .u64 5, v2_3] := by rw [← hA]; exact putAll_at f 41 15 slotsTaw5 a0 sbTaw5 (by kernel_rfl) zsz rfl h41
      exact flw_call rfl ((wanted_of rfl 40 rfl t40).trans rfl) 12 #[(.tmp 41)] _ rfl #[.agg #[.int .u64 5, v2_3]] (by simp only [List.map_toArray, List.map_cons, List.map_nil, r41]) (fun w => by kernel_rfl) (fun v _ => v = .bool false) (as_any (zeroT_any _ _ _ w1 (tab_small (by decide)) (HU2_3.out.keep hS)) (congrArg Value.bool (tab_nz (by decide) (len_few _ (by decide)) (by rw [few_one]; decide)))) (fun v w' hr hb => ⟨hS.trans (hb.mono hS.size), Flz.of hb, (updF_self _ _ _).trans hr⟩)
    · intro f w1 hS hf
      generalize hA : putAll _ _ f = aA
      have g40 : f 14 = .bool true := hf 14 (by decide)
      have t40 : aA.tmps[40]? = some (.bool true) := by rw [← hA]; exact putAll_g f 40 14 slotsTaw5 a0 sbTaw5 (by kernel_rfl) zsz rfl g40
      have h42 : f 16 = .bool false := hf 16 (by decide)
      have r42 : aA.eval (.tmp 42) = .bool false := by rw [← hA]; exact putAll_at f 42 16 slotsTaw5 a0 sbTaw5 (by kernel_rfl) zsz rfl h42
      exact flw_val rfl ((wanted_of rfl 40 rfl t40).trans rfl) (.bool true) (ex_not _ (.tmp 42) rfl r42) hS (Flz.refl _) (updF_self _ _ _)
    · intro f w1 hS hf
      generalize hA : putAll _ _ f = aA
      have h40 : f 14 = .bool true := hf 14 (by decide)
      have r40 : aA.eval (.tmp 40) = .bool true := by rw [← hA]; exact putAll_at f 40 14 slotsTaw5 a0 sbTaw5 (by kernel_rfl) zsz rfl h40
      have h43 : f 17 = .bool true := hf 17 (by decide)
      have r43 : aA.eval (.tmp 43) = .bool true := by rw [← hA]; exact putAll_at f 43 17 slotsTaw5 a0 sbTaw5 (by kernel_rfl) zsz rfl h43
      exact flw_val rfl rfl (.bool true) (ex_pick (.tmp 40) (.tmp 43) _ rfl true r40 ((if_pos rfl).trans r43)) hS (Flz.refl _) (updF_self _ _ _)
    · intro f w1 hS hf
      generalize hA : putAll _ _ f = aA
      have h44 : f 18 = .bool true := hf 18 (by decide)
      have r44 : aA.eval (.tmp 44) = .bool true := by rw [← hA]; exact putAll_at f 44 18 slotsTaw5 a0 sbTaw5 (by kernel_rfl) zsz rfl h44
      exact flw_val rfl rfl (.bool true) (ex_move (.tmp 44) rfl r44) hS (Flz.refl _) (updF_self _ _ _)
    · intro f w1 hS hf
      generalize hA : putAll _ _ f = aA
      have g45 : f 19 = .bool true := hf 19 (by decide)
      have t45 : aA.tmps[45]? = some (.bool true) := by rw [← hA]; exact putAll_g f 45 19 slotsTaw5 a0 sbTaw5 (by kernel_rfl) zsz rfl g45
      have r2 : aA.eval (.tmp 2) = .pointer (some ⟨b2_5, 0, none⟩) := by rw [← hA]; exact putAll_off f 2 slotsTaw5 a0 (by kernel_rfl) z2
      exact flw_val rfl ((wanted_of rfl 45 rfl t45).trans rfl) (.agg #[.int .u64 5, v2_3]) (ex_loadR 26 (.tmp 2) rfl ⟨b2_5, 0, none⟩ r2 (fun _ => by kernel_rfl) [.int .u64 5, v2_3] (by kernel_rfl) ((HX_b2_5.out.keepB hS).part [.int .u64 5, v2_3] 0 (fun j u hu => by rw [Nat.zero_add]; exact hu))) hS (Flz.refl _) (updF_self _ _ _)
    · intro f w1 hS hf
      generalize hA : putAll _ _ f = aA
      have g45 : f 19 = .bool true := hf 19 (by decide)
      have t45 : aA.tmps[45]? = some (.bool true) := by rw [← hA]; exact putAll_g f 45 19 slotsTaw5 a0 sbTaw5 (by kernel_rfl) zsz rfl g45
      have h46 : f 20 = .agg #[.int .u64 5, v2_3] := hf 20 (by decide)
      have r46 : aA.eval (.tmp 46) = .agg #[.int .u64 5, v2_3] := by rw [← hA]; exact putAll_at f 46 20 slotsTaw5 a0 sbTaw5 (by kernel_rfl) zsz rfl h46
      exact flw_call rfl ((wanted_of rfl 45 rfl t45).trans rfl) 13 #[(.tmp 46)] _ rfl #[.agg #[.int .u64 5, v2_3]] (by simp only [List.map_toArray, List.map_cons, List.map_nil, r46]) (fun w => by kernel_rfl) (fun v _ => v = .int .i64 (cntT (tab 5 12 (srt (([1]).map fewS))))) (countT_any _ _ _ w1 (tab_small (by decide)) (HU2_3.out.keep hS)) (fun v w' hr hb => ⟨hS.trans (hb.mono hS.size), Flz.of hb, (updF_self _ _ _).trans hr⟩)
    · intro f w1 hS hf
      generalize hA : putAll _ _ f = aA
      have g45 : f 19 = .bool true := hf 19 (by decide)
      have t45 : aA.tmps[45]? = some (.bool true) := by rw [← hA]; exact putAll_g f 45 19 slotsTaw5 a0 sbTaw5 (by kernel_rfl) zsz rfl g45
      have h47 : f 21 = .int .i64 (cntT (tab 5 12 (srt (([1]).map fewS)))) := hf 21 (by decide)
      have r47 : aA.eval (.tmp 47) = .int .i64 (cntT (tab 5 12 (srt (([1]).map fewS)))) := by rw [← hA]; exact putAll_at f 47 21 slotsTaw5 a0 sbTaw5 (by kernel_rfl) zsz rfl h47
      exact flw_val rfl ((wanted_of rfl 45 rfl t45).trans rfl) (.bool true) (Eq.trans (ex_int .eql _ _ (.tmp 47) _ rfl .i64 (cntT (tab 5 12 (srt (([1]).map fewS)))) 1 r47 rfl (.bool ((cntT (tab 5 12 (srt (([1]).map fewS)))) == (1 : Int))) (fun _ => rfl)) (by rw [(show ((cntT (tab 5 12 (srt (([1]).map fewS)))) == (1 : Int)) = true by rw [tab_cnt (by decide) (len_few _ (by decide)), few_one]; rfl)])) hS (Flz.refl _) (updF_self _ _ _)
    · intro f w1 hS hf
      generalize hA : putAll _ _ f = aA
      have h45 : f 19 = .bool true := hf 19 (by decide)
      have r45 : aA.eval (.tmp 45) = .bool true := by rw [← hA]; exact putAll_at f 45 19 slotsTaw5 a0 sbTaw5 (by kernel_rfl) zsz rfl h45
      have h48 : f 22 = .bool true := hf 22 (by decide)
      have r48 : aA.eval (.tmp 48) = .bool true := by rw [← hA]; exact putAll_at f 48 22 slotsTaw5 a0 sbTaw5 (by kernel_rfl) zsz rfl h48
      exact flw_val rfl rfl (.bool true) (ex_pick (.tmp 45) (.tmp 48) _ rfl true r45 ((if_pos rfl).trans r48)) hS (Flz.refl _) (updF_self _ _ _)
    · intro f w1 hS hf
      generalize hA : putAll _ _ f = aA
      have h49 : f 23 = .bool true := hf 23 (by decide)
      have r49 : aA.eval (.tmp 49) = .bool true := by rw [← hA]; exact putAll_at f 49 23 slotsTaw5 a0 sbTaw5 (by kernel_rfl) zsz rfl h49
      exact flw_val rfl rfl (.bool true) (ex_assign (.tmp 49) rfl r49) hS (Flz.refl _) (updF_self _ _ _)
  intro f u5 hS hf hap
  have h0 : f 0 = .int .i64 0 := hf 0 (by decide)
  have h1 : f 1 = .bool true := hf 1 (by decide)
  have h2 : f 2 = .bool true := hf 2 (by decide)
  have h3 : f 3 = .int .i64 0 := hf 3 (by decide)
  have h4 : f 4 = .bool true := hf 4 (by decide)
  have h5 : f 5 = .bool true := hf 5 (by decide)
  have h6 : f 6 = .bool true := hf 6 (by decide)
  have h7 : f 7 = .int .i64 0 := hf 7 (by decide)
  have h8 : f 8 = .bool true := hf 8 (by decide)
  have h9 : f 9 = .bool true := hf 9 (by decide)
  have h10 : f 10 = .bool true := hf 10 (by decide)
  have h11 : f 11 = .agg #[.int .u64 5, v4_4] := hf 11 (by decide)
  have h12 : f 12 = .bool true := hf 12 (by decide)
  have h13 : f 13 = .bool true := hf 13 (by decide)
  have h14 : f 14 = .bool true := hf 14 (by decide)
  have h15 : f 15 = .agg #[.int .u64 5, v2_3] := hf 15 (by decide)
  have h16 : f 16 = .bool false := hf 16 (by decide)
  have h17 : f 17 = .bool true := hf 17 (by decide)
  have h18 : f 18 = .bool true := hf 18 (by decide)
  have h19 : f 19 = .bool true := hf 19 (by decide)
  have h20 : f 20 = .agg #[.int .u64 5, v2_3] := hf 20 (by decide)
  have h21 : f 21 = .int .i64 (cntT (tab 5 12 (srt (([1]).map fewS)))) := hf 21 (by decide)
  have h22 : f 22 = .bool true := hf 22 (by decide)
  have h23 : f 23 = .bool true := hf 23 (by decide)
  have h24 : f 24 = .bool true := hf 24 (by decide)
  clear hf hap
  clear zsz z3 z5 z7 z6 z2
  subst ha0
  simp only [slotsTaw5, putAll, h0, h1, h2, h3, h4, h5, h6, h7, h8, h9, h10, h11, h12, h13, h14, h15, h16, h17, h18, h19, h20, h21, h22, h23, h24, Act.put, List.setIfInBounds_toArray, List.set_cons_zero, List.set_cons_succ]
  clear h0 h1 h2 h3 h4 h5 h6 h7 h8 h9 h10 h11 h12 h13 h14 h15 h16 h17 h18 h19 h20 h21 h22 h23 h24
  refine tl_nil ?_
  replace HU1_0 := Lib.hid (HU1_0.out.keep hS)
  replace HU1_1 := Lib.hid (HU1_1.out.keep hS)
  replace HX_b2_5 := Lib.hid (HX_b2_5.out.keepB hS)
  replace HU2_3 := Lib.hid (HU2_3.out.keep hS)
  replace HX_b3_5 := Lib.hid (HX_b3_5.out.keepB hS)
  replace HU3_3 := Lib.hid (HU3_3.out.keep hS)
  replace HX_b4_6 := Lib.hid (HX_b4_6.out.keepB hS)
  replace HU4_4 := Lib.hid (HU4_4.out.keep hS)
  replace HB := Lib.hid (HB.out.trans (hS.mono HB.out.size))
  clear hS
  go_wp2_with fail
  go_ret
  exact ⟨⟨_, rfl, rfl⟩, HB.out⟩
theorem awake15_any  (w : World) (hL : Laid w) : Calls Tryd.prog 7 #[] w fun e w' => (∃ v, e = .returned v ∧ v = .bool true) ∧ Below w.heap.size w w' := awake15_b  w w (Below.refl _ _) hL
end Go.Proofs.YtepeloenijlnhaaDoor
