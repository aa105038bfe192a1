/- The calls of the laws over package table, as a walk wants them; the law's own awake: true. Condition: the sums' tables are laid. -/
import Derived.Test.YtepeloenijlnhaaDoorGp5
import Derived.Test.YtepeloenijlnhaaDoorGp3
import Derived.Test.YtepeloenijlnhaaDoorGp6
import Derived.Test.YtepeloenijlnhaaDoorTi
import Derived.Test.YtepeloenijlnhaaDoorGp15
namespace Go.Proofs.YtepeloenijlnhaaDoor
open Go.RowKit
/-- A set's table. -/
def tab (s m : Nat) (A : List Su) : List Ce := layA putC s A (List.replicate m zC)
theorem tab_len (s m : Nat) (A : List Su) : (tab s m A).length = m := by unfold tab; rw [layA_len, List.length_replicate]
theorem tab_small {s m : Nat} {A : List Su} (h : m ≤ 1024) : (tab s m A).length ≤ 1000000 := by rw [tab_len]; omega
theorem tab_small5 {s m : Nat} {A : List Su} (h : m ≤ 1024) : (tab s m A).length ≤ 10000 := by rw [tab_len]; omega
theorem tab_good {s m : Nat} {A : List Su} (h : goodN (m : Int) = true) : goodN ((tab s m A).length : Int) = true := by rw [tab_len]; exact h
theorem tab_ok {s m : Nat} {A B : List Su} (h : goodN (m : Int) = true) : okM s s (tab s m A) (tab s m B) = true := okM_of _ _ _ _ (tab_good h) (tab_good h) rfl (by rw [tab_len, tab_len])
theorem zip_len (s m : Nat) (A B : List Su) : (List.zipWith minusC (tab s m A) (tab s m B)).length = m := by rw [List.length_zipWith, tab_len, tab_len]; omega
theorem zip_small {s m : Nat} {A B : List Su} (h : m ≤ 1024) : (List.zipWith minusC (tab s m A) (tab s m B)).length ≤ 1000000 := by rw [zip_len]; omega
theorem zip_small5 {s m : Nat} {A B : List Su} (h : m ≤ 1024) : (List.zipWith minusC (tab s m A) (tab s m B)).length ≤ 10000 := by rw [zip_len]; omega
theorem lay_small {f : Ce → Su → Ce} {s m : Nat} {A : List Su} {x : Su} (h : m ≤ 1024) : (layT f s x (tab s m A)).length ≤ 1000000 := by rw [layT_len, tab_len]; omega
theorem lay_small5 {f : Ce → Su → Ce} {s m : Nat} {A : List Su} {x : Su} (h : m ≤ 1024) : (layT f s x (tab s m A)).length ≤ 10000 := by rw [layT_len, tab_len]; omega
theorem ofS_t (s : Nat) (n : Int) (m : Nat) (v : Value) (A : List Su) (hg : goodN n = true) (hm : n = m) (w : World) (hs : s < 18446744073709551616) (hL : Laid w) (hn : A.length ≤ 10000) (hU : Us w v A) : Calls Tryd.prog 9 #[.int .u64 (s : Int), .int .i64 n, v] w fun e w' => (∃ v, e = .returned v ∧ ∃ zz, v = .tuple #[.agg #[.int .u64 (s : Int), zz], .int .i64 0] ∧ Cs w' zz (tab s m (srt A))) ∧ Below w.heap.size w w' := by
  have e : ofT s n A = (s, tab s m (srt A), 0) := by unfold ofT tab; rw [if_pos hg, hm]; rfl
  refine Calls.mono (ofT_any s n v A w hs hL hn hU) fun e' w' ⟨⟨v, h1, x, h2, h3⟩, h4⟩ => ?_
  rw [e] at h2 h3
  exact ⟨⟨v, h1, x, h2, h3⟩, h4⟩
theorem ofA_t (s : Nat) (n : Int) (m : Nat) (v : Value) (A : List Su) (hg : goodN n = true) (hm : n = m) (hA : AscU A) (w : World) (hs : s < 18446744073709551616) (hL : Laid w) (hn : A.length ≤ 10000) (hU : Us w v A) : Calls Tryd.prog 9 #[.int .u64 (s : Int), .int .i64 n, v] w fun e w' => (∃ v, e = .returned v ∧ ∃ zz, v = .tuple #[.agg #[.int .u64 (s : Int), zz], .int .i64 0] ∧ Cs w' zz (tab s m A)) ∧ Below w.heap.size w w' := by
  have e : ofT s n A = (s, tab s m A, 0) := by unfold ofT tab; rw [if_pos hg, hm, srt_asc hA]; rfl
  refine Calls.mono (ofT_any s n v A w hs hL hn hU) fun e' w' ⟨⟨v, h1, x, h2, h3⟩, h4⟩ => ?_
  rw [e] at h2 h3
  exact ⟨⟨v, h1, x, h2, h3⟩, h4⟩
theorem of_f (s : Nat) (n : Int) (v : Value) (A : List Su) (hg : goodN n = false) (w : World) (hs : s < 18446744073709551616) (hL : Laid w) (hn : A.length ≤ 10000) (hU : Us w v A) : Calls Tryd.prog 9 #[.int .u64 (s : Int), .int .i64 n, v] w fun e w' => (∃ v, e = .returned v ∧ ∃ zz, v = .tuple #[.agg #[.int .u64 0, zz], .int .i64 1] ∧ Cs w' zz ([])) ∧ Below w.heap.size w w' := by
  have e : ofT s n A = (0, [], 1) := by unfold ofT; rw [hg]; rfl
  refine Calls.mono (ofT_any s n v A w hs hL hn hU) fun e' w' ⟨⟨v, h1, x, h2, h3⟩, h4⟩ => ?_
  rw [e] at h2 h3
  exact ⟨⟨v, h1, x, h2, h3⟩, h4⟩
theorem minusT_t (s : Nat) (u : Value) (A : List Ce) (t : Nat) (v : Value) (B : List Ce) (hk : okM s t A B = true) (w : World) (hM : A.length ≤ 1000000) (hA : Cs w u A) (hV : Cs w v B) : Calls Tryd.prog 10 #[.agg #[.int .u64 (s : Int), u], .agg #[.int .u64 (t : Int), v]] w fun e w' => (∃ v, e = .returned v ∧ ∃ zz, v = .tuple #[.agg #[.int .u64 (s : Int), zz], .int .i64 0] ∧ Cs w' zz (List.zipWith minusC A B)) ∧ Below w.heap.size w w' := by
  have e : minusT s A t B = (s, List.zipWith minusC A B, 0) := by unfold minusT; rw [if_pos hk]
  refine Calls.mono (minusT_any s u A t v B w hM hA hV) fun e' w' ⟨⟨v, h1, x, h2, h3⟩, h4⟩ => ?_
  rw [e] at h2 h3
  exact ⟨⟨v, h1, x, h2, h3⟩, h4⟩
theorem minusT_f (s : Nat) (u : Value) (A : List Ce) (t : Nat) (v : Value) (B : List Ce) (hk : okM s t A B = false) (w : World) (hM : A.length ≤ 1000000) (hA : Cs w u A) (hV : Cs w v B) : Calls Tryd.prog 10 #[.agg #[.int .u64 (s : Int), u], .agg #[.int .u64 (t : Int), v]] w fun e w' => (∃ v, e = .returned v ∧ ∃ zz, v = .tuple #[.agg #[.int .u64 0, zz], .int .i64 1] ∧ Cs w' zz ([])) ∧ Below w.heap.size w w' := by
  have e : minusT s A t B = (0, [], 1) := by unfold minusT; rw [hk]; rfl
  refine Calls.mono (minusT_any s u A t v B w hM hA hV) fun e' w' ⟨⟨v, h1, x, h2, h3⟩, h4⟩ => ?_
  rw [e] at h2 h3
  exact ⟨⟨v, h1, x, h2, h3⟩, h4⟩
theorem newC_t (s : Nat) (n : Int) (m : Nat) (hg : goodN n = true) (hm : n = m) (w : World) : Calls Tryd.prog 8 #[.int .u64 (s : Int), .int .i64 n] w fun e w' => (∃ v, e = .returned v ∧ ∃ zz, v = .tuple #[.agg #[.int .u64 (s : Int), zz], .int .i64 0] ∧ Cs w' zz (List.replicate m zC)) ∧ Below w.heap.size w w' :=
  Calls.mono (newT_t s n m hg hm w 0 (Nat.zero_le _)) fun _ _ ⟨⟨v, h1, x, h2, h3⟩, h4⟩ => ⟨⟨v, h1, x, h2, h3.cs⟩, h4⟩
theorem newC_f (s : Nat) (n : Int) (hg : goodN n = false) (w : World) : Calls Tryd.prog 8 #[.int .u64 (s : Int), .int .i64 n] w fun e w' => (∃ v, e = .returned v ∧ ∃ zz, v = .tuple #[.agg #[.int .u64 0, zz], .int .i64 1] ∧ Cs w' zz ([])) ∧ Below w.heap.size w w' :=
  Calls.mono (newT_f s n hg w 0 (Nat.zero_le _)) fun _ _ ⟨⟨v, h1, x, h2, h3⟩, h4⟩ => ⟨⟨v, h1, x, h2, h3.cs⟩, h4⟩
theorem few15_us (v : Value) (l : List Int) (w : World) (hL : Laid w) (hn : l.length ≤ 1000) (hI : Ins w v l) : Calls Tryd.prog 25 #[v] w fun e w' => (∃ v, e = .returned v ∧ Us w' v (srt (l.map fewS))) ∧ Below w.heap.size w w' :=
  Calls.mono (few15_any v l w hL hn hI) fun _ _ ⟨⟨u, h1, _, h2, h3⟩, h4⟩ => ⟨⟨u, h1, h2 ▸ h3⟩, h4⟩
theorem asc_few (l : List Int) : AscU (srt (l.map fewS)) := asc_srt _
theorem len_few (l : List Int) (h : l.length ≤ 1000) : (srt (l.map fewS)).length ≤ 10000 := by have := len_srt_le (l.map fewS); rw [List.length_map] at this; omega
theorem wp_lit_ints9 {o : Oper} {a : Act} {w : World} {K : Act → World → Prop} {Q : Exit → Act → World → Prop} (n : Nat) (parts : Array (Nat × Operand)) (ho : o.op = .buildSlice 57 n parts) (cs : Array Value) (h0 : n ≠ 0) (h9 : n ≤ 16777216)
    (hf : Instr.fill (fun i => some (i * 1, 1)) ((Array.range (n * 1)).map ((Value.int .i64 0).cells[· % (Value.int .i64 0).cells.size]!)) (parts.map fun (i, x) => (i, a.eval x)).toList = some cs)
    (h : K (a.put o.dst (.slice (some ⟨w.heap.size, 0, none⟩) n n)) (w.alloc (.cells cs 3))) : o.wp Tryd.prog a w K Q := by
  obtain ⟨i8x, hi8, hz8, hs8, _⟩ := info_parts (show (Tryd.prog.info? 3).map (fun i => (i.zero, i.size, i.bytes)) = some (some (.int .i64 0), 1, 8) by kernel_rfl)
  refine wp_buildSlice 57 3 n parts ho cs i8x _ Tryd.underlying57 hi8 hz8 (by rw [hs8]; omega) (by rw [hs8]; omega) ?_ h
  rw [hs8]; exact hf
theorem Ins.litE9 (w : World) (l : List Int) (n : Nat) (hn : l.length = n) : Ins (w.alloc (.cells (l.map fun n => Value.int .i64 n).toArray 3)) (.slice (some ⟨w.heap.size, 0, .none⟩) n n) l := Ins.has (Has.made' _ _ _ _ rfl) hn
theorem tab_cnt {s m : Nat} {A : List Su} (h : goodN (m : Int) = true) (hA : A.length ≤ 10000) : cntT (tab s m A) = A.length := cnt_of A h hA
theorem zip_cnt {s m : Nat} {A B : List Su} (h : goodN (m : Int) = true) (hA : A.length ≤ 10000) (hB : B.length ≤ 10000) : cntT (List.zipWith minusC (tab s m A) (tab s m B)) = (A.length : Int) - B.length := cnt_minus A B h hA hB
theorem zip_zero {s m : Nat} {A : List Su} (h : goodN (m : Int) = true) : zeroT (List.zipWith minusC (tab s m A) (tab s m A)) = true := zero_self (tab_good h)
theorem tab_nz {s m : Nat} {A : List Su} (h : goodN (m : Int) = true) (hA : A.length ≤ 10000) (h0 : 0 < A.length) : zeroT (tab s m A) = false := by
  cases hz : zeroT (tab s m A) with
  | false => rfl
  | true => have h1 := zero_cnt hz; rw [tab_cnt h hA] at h1; omega
theorem few_one (n : Int) : srt ([n].map fewS) = [fewS n] := rfl
def waitTaw1 (i : Nat) : List Nat := ([[], [0], [1]] : List (List Nat)).getD i []
def slotsTaw1 : List (Nat × Nat) := [(8, 0), (9, 1), (1, 2)]
theorem sbTaw1 : slotsB slotsTaw1 = true := by kernel_rfl
theorem chkTaw1 : flwO slotsTaw1 waitTaw1 3 (regOf Tryd.f7.body 1) = true := by kernel_rfl
def waitTaw2 (i : Nat) : List Nat := ([[], [0], [1], [2], [2], [], [0, 1, 2, 3, 4, 5], [0, 1, 2, 3, 4, 5, 6]] : List (List Nat)).getD i []
def slotsTaw2 : List (Nat × Nat) := [(11, 0), (12, 1), (10, 2), (13, 3), (14, 4), (2, 5), (3, 7)]
theorem sbTaw2 : slotsB slotsTaw2 = true := by kernel_rfl
theorem chkTaw2 : flwO slotsTaw2 waitTaw2 6 (regOf Tryd.f7.body 2) = true := by kernel_rfl
def waitTaw3 (i : Nat) : List Nat := ([[], [0], [1], [2], [2], [], [0, 1, 2, 3, 4, 5], [0, 1, 2, 3, 4, 5, 6]] : List (List Nat)).getD i []
def slotsTaw3 : List (Nat × Nat) := [(16, 0), (17, 1), (15, 2), (18, 3), (19, 4), (4, 5), (5, 7)]
theorem sbTaw3 : slotsB slotsTaw3 = true := by kernel_rfl
theorem chkTaw3 : flwO slotsTaw3 waitTaw3 6 (regOf Tryd.f7.body 3) = true := by kernel_rfl
def waitTaw4 (i : Nat) : List Nat := ([[], [], [0, 1], [2], [3], [3], [], [0, 1, 2, 3, 4, 5, 6], [0, 1, 2, 3, 4, 5, 6, 7]] : List (List Nat)).getD i []
def slotsTaw4 : List (Nat × Nat) := [(21, 0), (22, 1), (23, 2), (20, 3), (24, 4), (25, 5), (6, 6), (7, 8)]
theorem sbTaw4 : slotsB slotsTaw4 = true := by kernel_rfl
theorem chkTaw4 : flwO slotsTaw4 waitTaw4 7 (regOf Tryd.f7.body 4) = true := by kernel_rfl
def waitTaw5 (i : Nat) : List Nat := ([[], [0], [1], [2], [2, 3], [2, 4], [5], [6], [6, 7], [6, 8], [9], [10], [10, 11], [10, 12], [13], [14], [14, 15], [14, 16], [14, 17], [18], [19], [19, 20], [19, 21], [19, 22], [23]] : List (List Nat)).getD i []
def slotsTaw5 : List (Nat × Nat) := [(26, 0), (27, 1), (28, 2), (29, 3), (30, 4), (31, 5), (32, 6), (33, 7), (34, 8), (35, 9), (36, 10), (37, 11), (38, 12), (39, 13), (40, 14), (41, 15), (42, 16), (43, 17), (44, 18), (45, 19), (46, 20), (47, 21), (48, 22), (49, 23), (0, 24)]
theorem sbTaw5 : slotsB slotsTaw5 = true := by kernel_rfl
theorem chkTaw5 : flwO slotsTaw5 waitTaw5 25 (regOf Tryd.f7.body 5) = true := by kernel_rfl
set_option maxHeartbeats 8000000 in
set_option maxRecDepth 100000 in
theorem awake15_b  (w w0 : World) (hB : Below w.heap.size w w0) (hL : Laid w) : Calls Tryd.prog 7 #[] w0 fun e w' => (∃ v, e = .returned v ∧ v = .bool true) ∧ Below w.heap.size w w' := by
  go_enter Tryd.func7, Tryd.ntmps7
  have HB := Lib.hid hB
  clear hB
  have HL := Lib.hid hL
  have HSZ := Lib.hid hL.size
  clear hL
  go_upto_region 1 with fail
  refine wp_act (fun a0 ha0 => ?_)
  have zsz : a0.tmps.size = 50 := by rw [ha0]; rfl
  refine wp_region_flwo (E := Flz) [] slotsTaw1 waitTaw1 [Fct.obj 0 (fun v w => Ins w v ([1])) (fun _ _ _ h he => h.flzT he), Fct.obj 1 (fun v w => Us w v (srt (([1]).map fewS))) (fun _ _ _ h he => h.flz he), (⟨([2, 1], fun f _ => f 2 = f 1), fun f f' _ _ h _ hd => (show f' 2 = f' 1 by rw [hd 2 (by simp), hd 1 (by simp)]; exact h)⟩ : Fct Flz)] (fun w' => Below w0.heap.size w0 w') _ 3 0 chkTaw1 (by kernel_rfl) (by kernel_rfl) (by kernel_rfl) (by decide) (Below.refl _ _) ?_ ?_
  · refine lt_s (lt_s (lt_s (lt_0) ?_) ?_) ?_
    · intro f w1 hS hf
      generalize hA : putAll _ _ f = aA
      exact flw_wp rfl rfl (fun K hK => wp_lit_ints9 1 _ rfl (([1] : List Int).map fun n => Value.int .i64 n).toArray (by decide) (by decide) (by kernel_rfl) (hK _ _ (hS.alloc hS.size _) (Flz.al _ _) (show Ins _ (updF f 0 _ 0) [1] by rw [updF_self]; exact Ins.litE9 _ _ 1 rfl)))
    · intro f w1 hS hf
      generalize hA : putAll _ _ f = aA
      have hu0 : Ins w1 (f 0) ([1]) := (hf 0 (by decide))
      have e8 : aA.eval (.tmp 8) = f 0 := by rw [← hA]; exact putAll_at f 8 0 slotsTaw1 a0 sbTaw1 (by kernel_rfl) zsz rfl rfl
      exact flw_call rfl rfl 25 #[(.tmp 8)] _ rfl #[f 0] (by simp only [List.map_toArray, List.map_cons, List.map_nil, e8]) (fun w => by kernel_rfl) (fun v w' => Us w' v (srt (([1]).map fewS))) (few15_us _ ([1]) w1 (HL.out.keep (HB.out.trans (hS.mono HB.out.size)) HSZ.out) (by decide) hu0) (fun v w' hr hb => ⟨hS.trans (hb.mono hS.size), Flz.of hb, (show Us w' (updF f 1 v 1) (srt (([1]).map fewS)) by rw [updF_self]; exact hr)⟩)
    · intro f w1 hS hf
      generalize hA : putAll _ _ f = aA
      have hu1 : Us w1 (f 1) (srt (([1]).map fewS)) := (hf 1 (by decide))
      have e9 : aA.eval (.tmp 9) = f 1 := by rw [← hA]; exact putAll_at f 9 1 slotsTaw1 a0 sbTaw1 (by kernel_rfl) zsz rfl rfl
      exact flw_val rfl rfl (f 1) (ex_assign (.tmp 9) rfl e9) hS (Flz.refl _) (show updF f 2 (f 1) 2 = updF f 2 (f 1) 1 by rw [updF_self, updF_ne f _ (by decide)])
  intro f u1 hS hf hap
  obtain ⟨v1_0, h0, hu0⟩ : ∃ v, f 0 = v ∧ Ins u1 v ([1]) := ⟨_, rfl, (hf 0 (by decide))⟩
  have HU1_0 := Lib.hid hu0
  clear hu0
  obtain ⟨v1_1, h1, hu1⟩ : ∃ v, f 1 = v ∧ Us u1 v (srt (([1]).map fewS)) := ⟨_, rfl, (hf 1 (by decide))⟩
  have HU1_1 := Lib.hid hu1
  clear hu1
  have h2 : f 2 = v1_1 := Eq.trans (hf 2 (by decide)) h1
  clear hf hap
  clear zsz
  subst ha0
  simp only [slotsTaw1, putAll, h0, h1, h2, Act.put, List.setIfInBounds_toArray, List.set_cons_zero, List.set_cons_succ]
  clear h0 h1 h2
  refine tl_nil ?_
  replace HB := Lib.hid (HB.out.trans (hS.mono HB.out.size))
  clear hS
  go_upto_region 2 with fail
  refine wp_act (fun a0 ha0 => ?_)
  have zsz : a0.tmps.size = 50 := by rw [ha0]; rfl
  have z1 : a0.eval (.tmp 1) = v1_1 := by rw [ha0]; rfl
  refine wp_region_flwo (E := Flz) [] slotsTaw2 waitTaw2 [Fct.val Flz 0 (v1_1), Fct.obj 1 (fun v w => ∃ zz, v = .tuple #[.agg #[.int .u64 5, zz], .int .i64 0] ∧ Cs w zz (tab 5 12 (srt (([1]).map fewS)))) (fun _ _ _ ⟨zz, a, b⟩ he => ⟨zz, a, b.flz he⟩), Fct.obj 2 (fun v w => ∃ zz, v = .tuple #[.agg #[.int .u64 5, zz], .int .i64 0] ∧ Cs w zz (tab 5 12 (srt (([1]).map fewS)))) (fun _ _ _ ⟨zz, a, b⟩ he => ⟨zz, a, b.flz he⟩), Fct.obj 3 (fun v w => ∃ zz, v = .agg #[.int .u64 5, zz] ∧ Cs w zz (tab 5 12 (srt (([1]).map fewS)))) (fun _ _ _ ⟨zz, a, b⟩ he => ⟨zz, a, b.flz he⟩), Fct.val Flz 4 (.int .i64 0), Fct.obj 5 (fun v w => ∃ g, v = .pointer (some ⟨g, 0, none⟩) ∧ u1.heap.size ≤ g ∧ Has w g 26 ([.int .u64 0, .slice none 0 0])) (fun _ _ _ ⟨g, a, b, c⟩ he => ⟨g, a, b, c.flz he (by decide)⟩)] (fun w' => Below u1.heap.size u1 w') _ 6 2 chkTaw2 (by kernel_rfl) (by kernel_rfl) (by kernel_rfl) (by decide) (Below.refl _ _) ?_ ?_
  · refine lt_s (lt_s (lt_s (lt_s (lt_s (lt_s (lt_0) ?_) ?_) ?_) ?_) ?_) ?_
    · intro f w1 hS hf
      generalize hA : putAll _ _ f = aA
      have r1 : aA.eval (.tmp 1) = v1_1 := by rw [← hA]; exact putAll_off f 1 slotsTaw2 a0 (by kernel_rfl) z1
      exact flw_val rfl rfl (v1_1) (ex_move (.tmp 1) rfl r1) hS (Flz.refl _) (updF_self _ _ _)
    · intro f w1 hS hf
      generalize hA : putAll _ _ f = aA
      have h11 : f 0 = v1_1 := hf 0 (by decide)
      have r11 : aA.eval (.tmp 11) = v1_1 := by rw [← hA]; exact putAll_at f 11 0 slotsTaw2 a0 sbTaw2 (by kernel_rfl) zsz rfl h11
      exact flw_call rfl rfl 9 #[_, _, (.tmp 11)] _ rfl #[.int .u64 5, .int .i64 12, v1_1] (by simp only [List.map_toArray, List.map_cons, List.map_nil, r11]; rfl) (fun w => by kernel_rfl) (fun v w' => ∃ zz, v = .tuple #[.agg #[.int .u64 5, zz], .int .i64 0] ∧ Cs w' zz (tab 5 12 (srt (([1]).map fewS)))) (ofA_t 5 12 12 _ _ (by decide) rfl (asc_few _) w1 (by decide) (HL.out.keep (HB.out.trans (hS.mono HB.out.size)) HSZ.out) (len_few _ (by decide)) (HU1_1.out.keep hS)) (fun v w' hr hb => ⟨hS.trans (hb.mono hS.size), Flz.of hb, by obtain ⟨zz, a, b⟩ := hr; exact ⟨zz, (updF_self _ _ _).trans a, b⟩⟩)
    · intro f w1 hS hf
      generalize hA : putAll _ _ f = aA
      obtain ⟨x12, hx12, hr12⟩ := hf 1 (by decide)
      have e12 : aA.eval (.tmp 12) = .tuple #[.agg #[.int .u64 5, x12], .int .i64 0] := by rw [← hA]; exact putAll_at f 12 1 slotsTaw2 a0 sbTaw2 (by kernel_rfl) zsz rfl hx12
      exact flw_val rfl rfl (.tuple #[.agg #[.int .u64 5, x12], .int .i64 0]) (ex_move (.tmp 12) rfl e12) hS (Flz.refl _) ⟨x12, updF_self _ _ _, hr12⟩
    · intro f w1 hS hf
      generalize hA : putAll _ _ f = aA
      obtain ⟨x10, hx10, hr10⟩ := hf 2 (by decide)
      have e10 : aA.eval (.tmp 10) = .tuple #[.agg #[.int .u64 5, x10], .int .i64 0] := by rw [← hA]; exact putAll_at f 10 2 slotsTaw2 a0 sbTaw2 (by kernel_rfl) zsz rfl hx10
      exact flw_val rfl rfl (.agg #[.int .u64 5, x10]) (ex_extract (.tmp 10) 0 rfl e10 rfl) hS (Flz.refl _) ⟨x10, updF_self _ _ _, hr10⟩
    · intro f w1 hS hf
      generalize hA : putAll _ _ f = aA
      obtain ⟨x10, hx10, hr10⟩ := hf 2 (by decide)
      have e10 : aA.eval (.tmp 10) = .tuple #[.agg #[.int .u64 5, x10], .int .i64 0] := by rw [← hA]; exact putAll_at f 10 2 slotsTaw2 a0 sbTaw2 (by kernel_rfl) zsz rfl hx10
      exact flw_val rfl rfl (.int .i64 0) (ex_extract (.tmp 10) 1 rfl e10 rfl) hS (Flz.refl _) (updF_self _ _ _)
    · intro f w1 hS hf
      generalize hA : putAll _ _ f = aA
      exact flw_wp rfl rfl (fun K hK => wp_alloc_row 26 rfl (.agg #[.int .u64 0, .slice none 0 0]) (fun w => by kernel_rfl) (hK _ _ (hS.alloc hS.size _) (Flz.al _ _) ⟨_, updF_self _ _ _, hS.size, Has.made' _ _ _ _ rfl⟩))
  intro f x2 hS hf hap
  have h0 : f 0 = v1_1 := hf 0 (by decide)
  obtain ⟨v2_1, h1, -⟩ := hf 1 (by decide)
  obtain ⟨v2_2, h2, -⟩ := hf 2 (by decide)
  obtain ⟨v2_3, h3, hu3⟩ := hf 3 (by decide)
  have HU2_3 := Lib.hid hu3
  clear hu3
  have h4 : f 4 = .int .i64 0 := hf 4 (by decide)
  obtain ⟨b2_5, h5, hgb5, hhb5⟩ := hf 5 (by decide)
  clear hf hap
  clear zsz z1
  subst ha0
  simp only [slotsTaw2, putAll, h0, h1, h2, h3, h4, h5, Act.put, List.setIfInBounds_toArray, List.set_cons_zero, List.set_cons_succ]
  clear h0 h1 h2 h3 h4 h5
  refine tl_store rfl (by kernel_rfl) 26 (.tmp 2) (.tmp 13) rfl b2_5 ([.int .u64 5, v2_3]) _ rfl rfl _ hhb5 (by kernel_rfl) rfl (tb_ones _ HU2_3.out.one) ?_
  intro u2 hp5 hbl hot
  replace hS := hS.trans (hbl _ hgb5)
  replace HU2_3 := Lib.hid (HU2_3.out.hotb hhb5 ⟨_, _, _, rfl⟩ (by decide) (hbl 0 (Nat.zero_le _)).size hot)
  clear hbl hot hhb5
  try simp only [Act.put]
  refine tl_pure rfl (by kernel_rfl) (.int .i64 0) (ex_assign (.tmp 14) rfl rfl) ?_
  try simp only [Act.put, List.setIfInBounds_toArray, List.set_cons_zero, List.set_cons_succ]
  refine tl_nil ?_
  replace HU1_0 := Lib.hid (HU1_0.out.keep hS)
  replace HU1_1 := Lib.hid (HU1_1.out.keep hS)
  have HBW := Lib.hid HB.out.size
  replace HB := Lib.hid (HB.out.trans (hS.mono HB.out.size))
  clear hS
  have HGb2_5 : Hid (w.heap.size ≤ b2_5) := Lib.hid (Nat.le_trans HBW.out hgb5)
  have HX_b2_5 : Hid (Has u2 b2_5 26 ([.int .u64 5, v2_3])) := Lib.hid hp5
  clear hp5 hgb5
  clear HBW
  go_upto_region 3 with fail
  refine wp_act (fun a0 ha0 => ?_)
  have zsz : a0.tmps.size = 50 := by rw [ha0]; rfl
  have z1 : a0.eval (.tmp 1) = v1_1 := by rw [ha0]; rfl
  refine wp_region_flwo (E := Flz) [] slotsTaw3 waitTaw3 [Fct.val Flz 0 (v1_1), Fct.obj 1 (fun v w => ∃ zz, v = .tuple #[.agg #[.int .u64 5, zz], .int .i64 0] ∧ Cs w zz (tab 5 12 (srt (([1]).map fewS)))) (fun _ _ _ ⟨zz, a, b⟩ he => ⟨zz, a, b.flz he⟩), Fct.obj 2 (fun v w => ∃ zz, v = .tuple #[.agg #[.int .u64 5, zz], .int .i64 0] ∧ Cs w zz (tab 5 12 (srt (([1]).map fewS)))) (fun _ _ _ ⟨zz, a, b⟩ he => ⟨zz, a, b.flz he⟩), Fct.obj 3 (fun v w => ∃ zz, v = .agg #[.int .u64 5, zz] ∧ Cs w zz (tab 5 12 (srt (([1]).map fewS)))) (fun _ _ _ ⟨zz, a, b⟩ he => ⟨zz, a, b.flz he⟩), Fct.val Flz 4 (.int .i64 0), Fct.obj 5 (fun v w => ∃ g, v = .pointer (some ⟨g, 0, none⟩) ∧ u2.heap.size ≤ g ∧ Has w g 26 ([.int .u64 0, .slice none 0 0])) (fun _ _ _ ⟨g, a, b, c⟩ he => ⟨g, a, b, c.flz he (by decide)⟩)] (fun w' => Below u2.heap.size u2 w') _ 6 2 chkTaw3 (by kernel_rfl) (by kernel_rfl) (by kernel_rfl) (by decide) (Below.refl _ _) ?_ ?_
  · refine lt_s (lt_s (lt_s (lt_s (lt_s (lt_s (lt_0) ?_) ?_) ?_) ?_) ?_) ?_
    · intro f w1 hS hf
      generalize hA : putAll _ _ f = aA
      have r1 : aA.eval (.tmp 1) = v1_1 := by rw [← hA]; exact putAll_off f 1 slotsTaw3 a0 (by kernel_rfl) z1
      exact flw_val rfl rfl (v1_1) (ex_move (.tmp 1) rfl r1) hS (Flz.refl _) (updF_self _ _ _)
    · intro f w1 hS hf
      generalize hA : putAll _ _ f = aA
      have h16 : f 0 = v1_1 := hf 0 (by decide)
      have r16 : aA.eval (.tmp 16) = v1_1 := by rw [← hA]; exact putAll_at f 16 0 slotsTaw3 a0 sbTaw3 (by kernel_rfl) zsz rfl h16
      exact flw_call rfl rfl 9 #[_, _, (.tmp 16)] _ rfl #[.int .u64 5, .int .i64 12, v1_1] (by simp only [List.map_toArray, List.map_cons, List.map_nil, r16]; rfl) (fun w => by kernel_rfl) (fun v w' => ∃ zz, v = .tuple #[.agg #[.int .u64 5, zz], .int .i64 0] ∧ Cs w' zz (tab 5 12 (srt (([1]).map fewS)))) (ofA_t 5 12 12 _ _ (by decide) rfl (asc_few _) w1 (by decide) (HL.out.keep (HB.out.trans (hS.mono HB.out.size)) HSZ.out) (len_few _ (by decide)) (HU1_1.out.keep hS)) (fun v w' hr hb => ⟨hS.trans (hb.mono hS.size), Flz.of hb, by obtain ⟨zz, a, b⟩ := hr; exact ⟨zz, (updF_self _ _ _).trans a, b⟩⟩)
    · intro f w1 hS hf
      generalize hA : putAll _ _ f = aA
      obtain ⟨x17, hx17, hr17⟩ := hf 1 (by decide)
      have e17 : aA.eval (.tmp 17) = .tuple #[.agg #[.int .u64 5, x17], .int .i64 0] := by rw [← hA]; exact putAll_at f 17 1 slotsTaw3 a0 sbTaw3 (by kernel_rfl) zsz rfl hx17
      exact flw_val rfl rfl (.tuple #[.agg #[.int .u64 5, x17], .int .i64 0]) (ex_move (.tmp 17) rfl e17) hS (Flz.refl _) ⟨x17, updF_self _ _ _, hr17⟩
    · intro f w1 hS hf
      generalize hA : putAll _ _ f = aA
      obtain ⟨x15, hx15, hr15⟩ := hf 2 (by decide)
      have e15 : aA.eval (.tmp 15) = .tuple #[.agg #[.int .u64 5, x15], .int .i64 0] := by rw [← hA]; exact putAll_at f 15 2 slotsTaw3 a0 sbTaw3 (by kernel_rfl) zsz rfl hx15
      exact flw_val rfl rfl (.agg #[.int .u64 5, x15]) (ex_extract (.tmp 15) 0 rfl e15 rfl) hS (Flz.refl _) ⟨x15, updF_self _ _ _, hr15⟩
    · intro f w1 hS hf
      generalize hA : putAll _ _ f = aA
      obtain ⟨x15, hx15, hr15⟩ := hf 2 (by decide)
      have e15 : aA.eval (.tmp 15) = .tuple #[.agg #[.int .u64 5, x15], .int .i64 0] := by rw [← hA]; exact putAll_at f 15 2 slotsTaw3 a0 sbTaw3 (by kernel_rfl) zsz rfl hx15
      exact flw_val rfl rfl (.int .i64 0) (ex_extract (.tmp 15) 1 rfl e15 rfl) hS (Flz.refl _) (updF_self _ _ _)
    · intro f w1 hS hf
      generalize hA : putAll _ _ f = aA
      exact flw_wp rfl rfl (fun K hK => wp_alloc_row 26 rfl (.agg #[.int .u64 0, .slice none 0 0]) (fun w => by kernel_rfl) (hK _ _ (hS.alloc hS.size _) (Flz.al _ _) ⟨_, updF_self _ _ _, hS.size, Has.made' _ _ _ _ rfl⟩))
  intro f x3 hS hf hap
  have h0 : f 0 = v1_1 := hf 0 (by decide)
  obtain ⟨v3_1, h1, -⟩ := hf 1 (by decide)
  obtain ⟨v3_2, h2, -⟩ := hf 2 (by decide)
  obtain ⟨v3_3, h3, hu3⟩ := hf 3 (by decide)
  have HU3_3 := Lib.hid hu3
  clear hu3
  have h4 : f 4 = .int .i64 0 := hf 4 (by decide)
  obtain ⟨b3_5, h5, hgb5, hhb5⟩ := hf 5 (by decide)
  clear hf hap
  clear zsz z1
  subst ha0
  simp only [slotsTaw3, putAll, h0, h1, h2, h3, h4, h5, Act.put, List.setIfInBounds_toArray, List.set_cons_zero, List.set_cons_succ]
  clear h0 h1 h2 h3 h4 h5
  refine tl_store rfl (by kernel_rfl) 26 (.tmp 4) (.tmp 18) rfl b3_5 ([.int .u64 5, v3_3]) _ rfl rfl _ hhb5 (by kernel_rfl) rfl (tb_ones _ HU3_3.out.one) ?_
  intro u3 hp5 hbl hot
  replace hS := hS.trans (hbl _ hgb5)
  replace HU3_3 := Lib.hid (HU3_3.out.hotb hhb5 ⟨_, _, _, rfl⟩ (by decide) (hbl 0 (Nat.zero_le _)).size hot)
  clear hbl hot hhb5
  try simp only [Act.put]
  refine tl_pure rfl (by kernel_rfl) (.int .i64 0) (ex_assign (.tmp 19) rfl rfl) ?_
  try simp only [Act.put, List.setIfInBounds_toArray, List.set_cons_zero, List.set_cons_succ]
  refine tl_nil ?_
  replace HU1_0 := Lib.hid (HU1_0.out.keep hS)
  replace HU1_1 := Lib.hid (HU1_1.out.keep hS)
  replace HX_b2_5 := Lib.hid (HX_b2_5.out.keepB hS)
  replace HU2_3 := Lib.hid (HU2_3.out.keep hS)
  have HBW := Lib.hid HB.out.size
  replace HB := Lib.hid (HB.out.trans (hS.mono HB.out.size))
  clear hS
  have HGb3_5 : Hid (w.heap.size ≤ b3_5) := Lib.hid (Nat.le_trans HBW.out hgb5)
  have HX_b3_5 : Hid (Has u3 b3_5 26 ([.int .u64 5, v3_3])) := Lib.hid hp5
  clear hp5 hgb5
  clear HBW
  go_upto_region 4 with fail
  refine wp_act (fun a0 ha0 => ?_)
  have zsz : a0.tmps.size = 50 := by rw [ha0]; rfl
  have z2 : a0.eval (.tmp 2) = .pointer (some ⟨b2_5, 0, none⟩) := by rw [ha0]; rfl
  have z4 : a0.eval (.tmp 4) = .pointer (some ⟨b3_5, 0, none⟩) := by rw [ha0]; rfl
  refine wp_region_flwo (E := Flz) [] slotsTaw4 waitTaw4 [Fct.val Flz 0 (.agg #[.int .u64 5, v2_3]), Fct.val Flz 1 (.agg #[.int .u64 5, v3_3]), Fct.obj 2 (fun v w => ∃ zz, v = .tuple #[.agg #[.int .u64 5, zz], .int .i64 0] ∧ Cs w zz (List.zipWith minusC (tab 5 12 (srt (([1]).map fewS))) (tab 5 12 (srt (([1]).map fewS))))) (fun _ _ _ ⟨zz, a, b⟩ he => ⟨zz, a, b.flz he⟩), Fct.obj 3 (fun v w => ∃ zz, v = .tuple #[.agg #[.int .u64 5, zz], .int .i64 0] ∧ Cs w zz (List.zipWith minusC (tab 5 12 (srt (([1]).map fewS))) (tab 5 12 (srt (([1]).map fewS))))) (fun _ _ _ ⟨zz, a, b⟩ he => ⟨zz, a, b.flz he⟩), Fct.obj 4 (fun v w => ∃ zz, v = .agg #[.int .u64 5, zz] ∧ Cs w zz (List.zipWith minusC (tab 5 12 (srt (([1]).map fewS))) (tab 5 12 (srt (([1]).map fewS))))) (fun _ _ _ ⟨zz, a, b⟩ he => ⟨zz, a, b.flz he⟩), Fct.val Flz 5 (.int .i64 0), Fct.obj 6 (fun v w => ∃ g, v = .pointer (some ⟨g, 0, none⟩) ∧ u3.heap.size ≤ g ∧ Has w g 26 ([.int .u64 0, .slice none 0 0])) (fun _ _ _ ⟨g, a, b, c⟩ he => ⟨g, a, b, c.flz he (by decide)⟩)] (fun w' => Below u3.heap.size u3 w') _ 7 2 chkTaw4 (by kernel_rfl) (by kernel_rfl) (by kernel_rfl) (by decide) (Below.refl _ _) ?_ ?_
  · refine lt_s (lt_s (lt_s (lt_s (lt_s (lt_s (lt_s (lt_0) ?_) ?_) ?_) ?_) ?_) ?_) ?_
    · intro f w1 hS hf
      generalize hA : putAll _ _ f = aA
      have r2 : aA.eval (.tmp 2) = .pointer (some ⟨b2_5, 0, none⟩) := by rw [← hA]; exact putAll_off f 2 slotsTaw4 a0 (by kernel_rfl) z2
      exact flw_val rfl rfl (.agg #[.int .u64 5, v2_3]) (ex_loadR 26 (.tmp 2) rfl ⟨b2_5, 0, none⟩ r2 (fun _ => by kernel_rfl) [.int .u64 5, v2_3] (by kernel_rfl) ((HX_b2_5.out.keepB hS).part [.int .u64 5, v2_3] 0 (fun j u hu => by rw [Nat.zero_add]; exact hu))) hS (Flz.refl _) (updF_self _ _ _)
    · intro f w1 hS hf
      generalize hA : putAll _ _ f = aA
      have r4 : aA.eval (.tmp 4) = .pointer (some ⟨b3_5, 0, none⟩) := by rw [← hA]; exact putAll_off f 4 slotsTaw4 a0 (by kernel_rfl) z4
      exact flw_val rfl rfl (.agg #[.int .u64 5, v3_3]) (ex_loadR 26 (.tmp 4) rfl ⟨b3_5, 0, none⟩ r4 (fun _ => by kernel_rfl) [.int .u64 5, v3_3] (by kernel_rfl) ((HX_b3_5.out.keepB hS).part [.int .u64 5, v3_3] 0 (fun j u hu => by rw [Nat.zero_add]; exact hu))) hS (Flz.refl _) (updF_self _ _ _)
    · intro f w1 hS hf
      generalize hA : putAll _ _ f = aA
      have h21 : f 0 = .agg #[.int .u64 5, v2_3] := hf 0 (by decide)
      have r21 : aA.eval (.tmp 21) = .agg #[.int .u64 5, v2_3] := by rw [← hA]; exact putAll_at f 21 0 slotsTaw4 a0 sbTaw4 (by kernel_rfl) zsz rfl h21
      have h22 : f 1 = .agg #[.int .u64 5, v3_3] := hf 1 (by decide)
      have r22 : aA.eval (.tmp 22) = .agg #[.int .u64 5, v3_3] := by rw [← hA]; exact putAll_at f 22 1 slotsTaw4 a0 sbTaw4 (by kernel_rfl) zsz rfl h22
      exact flw_call rfl rfl 10 #[(.tmp 21), (.tmp 22)] _ rfl #[.agg #[.int .u64 5, v2_3], .agg #[.int .u64 5, v3_3]] (by simp only [List.map_toArray, List.map_cons, List.map_nil, r21, r22]) (fun w => by kernel_rfl) (fun v w' => ∃ zz, v = .tuple #[.agg #[.int .u64 5, zz], .int .i64 0] ∧ Cs w' zz (List.zipWith minusC (tab 5 12 (srt (([1]).map fewS))) (tab 5 12 (srt (([1]).map fewS))))) (minusT_t 5 _ _ 5 _ _ (tab_ok (by decide)) w1 (tab_small (by decide)) (HU2_3.out.keep hS) (HU3_3.out.keep hS)) (fun v w' hr hb => ⟨hS.trans (hb.mono hS.size), Flz.of hb, by obtain ⟨zz, a, b⟩ := hr; exact ⟨zz, (updF_self _ _ _).trans a, b⟩⟩)
    · intro f w1 hS hf
      generalize hA : putAll _ _ f = aA
      obtain ⟨x23, hx23, hr23⟩ := hf 2 (by decide)
      have e23 : aA.eval (.tmp 23) = .tuple #[.agg #[.int .u64 5, x23], .int .i64 0] := by rw [← hA]; exact putAll_at f 23 2 slotsTaw4 a0 sbTaw4 (by kernel_rfl) zsz rfl hx23
      exact flw_val rfl rfl (.tuple #[.agg #[.int .u64 5, x23], .int .i64 0]) (ex_move (.tmp 23) rfl e23) hS (Flz.refl _) ⟨x23, updF_self _ _ _, hr23⟩
    · intro f w1 hS hf
      generalize hA : putAll _ _ f = aA
      obtain ⟨x20, hx20, hr20⟩ := hf 3 (by decide)
      have e20 : aA.eval (.tmp 20) = .tuple #[.agg #[.int .u64 5, x20], .int .i64 0] := by rw [← hA]; exact putAll_at f 20 3 slotsTaw4 a0 sbTaw4 (by kernel_rfl) zsz rfl hx20
      exact flw_val rfl rfl (.agg #[.int .u64 5, x20]) (ex_extract (.tmp 20) 0 rfl e20 rfl) hS (Flz.refl _) ⟨x20, updF_self _ _ _, hr20⟩
    · intro f w1 hS hf
      generalize hA : putAll _ _ f = aA
      obtain ⟨x20, hx20, hr20⟩ := hf 3 (by decide)
      have e20 : aA.eval (.tmp 20) = .tuple #[.agg #[.int .u64 5, x20], .int .i64 0] := by rw [← hA]; exact putAll_at f 20 3 slotsTaw4 a0 sbTaw4 (by kernel_rfl) zsz rfl hx20
      exact flw_val rfl rfl (.int .i64 0) (ex_extract (.tmp 20) 1 rfl e20 rfl) hS (Flz.refl _) (updF_self _ _ _)
    · intro f w1 hS hf
      generalize hA : putAll _ _ f = aA
      exact flw_wp rfl rfl (fun K hK => wp_alloc_row 26 rfl (.agg #[.int .u64 0, .slice none 0 0]) (fun w => by kernel_rfl) (hK _ _ (hS.alloc hS.size _) (Flz.al _ _) ⟨_, updF_self _ _ _, hS.size, Has.made' _ _ _ _ rfl⟩))
  intro f x4 hS hf hap
  have h0 : f 0 = .agg #[.int .u64 5, v2_3] := hf 0 (by decide)
  have h1 : f 1 = .agg #[.int .u64 5, v3_3] := hf 1 (by decide)
  obtain ⟨v4_2, h2, -⟩ := hf 2 (by decide)
  obtain ⟨v4_3, h3, -⟩ := hf 3 (by decide)
  obtain ⟨v4_4, h4, hu4⟩ := hf 4 (by decide)
  have HU4_4 := Lib.hid hu4
  clear hu4
  have h5 : f 5 = .int .i64 0 := hf 5 (by decide)
  obtain ⟨b4_6, h6, hgb6, hhb6⟩ := hf 6 (by decide)
  clear hf hap
  clear zsz z2 z4
  subst ha0
  simp only [slotsTaw4, putAll, h0, h1, h2, h3, h4, h5, h6, Act.put, List.setIfInBounds_toArray, List.set_cons_zero, List.set_cons_succ]
  clear h0 h1 h2 h3 h4 h5 h6
  refine tl_store rfl (by kernel_rfl) 26 (.tmp 6) (.tmp 24) rfl b4_6 ([.int .u64 5, v4_4]) _ rfl rfl _ hhb6 (by kernel_rfl) rfl (tb_ones _ HU4_4.out.one) ?_
  intro u4 hp6 hbl hot
  replace hS := hS.trans (hbl _ hgb6)
  replace HU4_4 := Lib.hid (HU4_4.out.hotb hhb6 ⟨_, _, _, rfl⟩ (by decide) (hbl 0 (Nat.zero_le _)).size hot)
  clear hbl hot hhb6
  try simp only [Act.put]
  refine tl_pure rfl (by kernel_rfl) (.int .i64 0) (ex_assign (.tmp 25) rfl rfl) ?_
  try simp only [Act.put, List.setIfInBounds_toArray, List.set_cons_zero, List.set_cons_succ]
  refine tl_nil ?_
  replace HU1_0 := Lib.hid (HU1_0.out.keep hS)
  replace HU1_1 := Lib.hid (HU1_1.out.keep hS)
  replace HX_b2_5 := Lib.hid (HX_b2_5.out.keepB hS)
  replace HU2_3 := Lib.hid (HU2_3.out.keep hS)
  replace HX_b3_5 := Lib.hid (HX_b3_5.out.keepB hS)
  replace HU3_3 := Lib.hid (HU3_3.out.keep hS)
  have HBW := Lib.hid HB.out.size
  replace HB := Lib.hid (HB.out.trans (hS.mono HB.out.size))
  clear hS
  have HGb4_6 : Hid (w.heap.size ≤ b4_6) := Lib.hid (Nat.le_trans HBW.out hgb6)
  have HX_b4_6 : Hid (Has u4 b4_6 26 ([.int .u64 5, v4_4])) := Lib.hid hp6
  clear hp6 hgb6
  clear HBW
  go_upto_region 5 with fail
  refine wp_act (fun a0 ha0 => ?_)
  have zsz : a0.tmps.size = 50 := by rw [ha0]; rfl
  have z3 : a0.eval (.tmp 3) = .int .i64 0 := by rw [ha0]; rfl
  have z5 : a0.eval (.tmp 5) = .int .i64 0 := by rw [ha0]; rfl
  have z7 : a0.eval (.tmp 7) = .int .i64 0 := by rw [ha0]; rfl
  have z6 : a0.eval (.tmp 6) = .pointer (some ⟨b4_6, 0, none⟩) := by rw [ha0]; rfl
  have z2 : a0.eval (.tmp 2) = .pointer (some ⟨b2_5, 0, none⟩) := by rw [ha0]; rfl
  refine wp_region_flwo (E := Flz) [] slotsTaw5 waitTaw5 [Fct.val Flz 0 (.int .i64 0), Fct.val Flz 1 (.bool true), Fct.val Flz 2 (.bool true), Fct.val Flz 3 (.int .i64 0), Fct.val Flz 4 (.bool true), Fct.val Flz 5 (.bool true), Fct.val Flz 6 (.bool true), Fct.val Flz 7 (.int .i64 0), Fct.val Flz 8 (.bool true), Fct.val Flz 9 (.bool true), Fct.val Flz 10 (.bool true), Fct.val Flz 11 (.agg #[.int .u64 5, v4_4]), Fct.val Flz 12 (.bool true), Fct.val Flz 13 (.bool true), Fct.val Flz 14 (.bool true), Fct.val Flz 15 (.agg #[.int .u64 5, v2_3]), Fct.val Flz 16 (.bool false), Fct.val Flz 17 (.bool true), Fct.val Flz 18 (.bool true), Fct.val Flz 19 (.bool true), Fct.val Flz 20 (.agg #[.int .u64 5, v2_3]), Fct.val Flz 21 (.int .i64 (cntT (tab 5 12 (srt (([1]).map fewS))))), Fct.val Flz 22 (.bool true), Fct.val Flz 23 (.bool true), Fct.val Flz 24 (.bool true)] (fun w' => Below u4.heap.size u4 w') _ 25 0 chkTaw5 (by kernel_rfl) (by kernel_rfl) (by kernel_rfl) (by decide) (Below.refl _ _) ?_ ?_
  · refine lt_s (lt_s (lt_s (lt_s (lt_s (lt_s (lt_s (lt_s (lt_s (lt_s (lt_s (lt_s (lt_s (lt_s (lt_s (lt_s (lt_s (lt_s (lt_s (lt_s (lt_s (lt_s (lt_s (lt_s (lt_s (lt_0) ?_) ?_) ?_) ?_) ?_) ?_) ?_) ?_) ?_) ?_) ?_) ?_) ?_) ?_) ?_) ?_) ?_) ?_) ?_) ?_) ?_) ?_) ?_) ?_) ?_
    · intro f w1 hS hf
      generalize hA : putAll _ _ f = aA
      have r3 : aA.eval (.tmp 3) = .int .i64 0 := by rw [← hA]; exact putAll_off f 3 slotsTaw5 a0 (by kernel_rfl) z3
      exact flw_val rfl rfl (.int .i64 0) (ex_move (.tmp 3) rfl r3) hS (Flz.refl _) (updF_self _ _ _)
    · intro f w1 hS hf
      generalize hA : putAll _ _ f = aA
      have h26 : f 0 = .int .i64 0 := hf 0 (by decide)
      have r26 : aA.eval (.tmp 26) = .int .i64 0 := by rw [← hA]; exact putAll_at f 26 0 slotsTaw5 a0 sbTaw5 (by kernel_rfl) zsz rfl h26
      exact flw_val rfl rfl (.bool true) (Eq.trans (ex_int .eql _ _ (.tmp 26) _ rfl .i64 0 0 r26 rfl (.bool ((0 : Int) == (0 : Int))) (fun _ => rfl)) (by rw [(by decide : ((0 : Int) == (0 : Int)) = true)])) hS (Flz.refl _) (updF_self _ _ _)
    · intro f w1 hS hf
      generalize hA : putAll _ _ f = aA
      have h27 : f 1 = .bool true := hf 1 (by decide)
      have r27 : aA.eval (.tmp 27) = .bool true := by rw [← hA]; exact putAll_at f 27 1 slotsTaw5 a0 sbTaw5 (by kernel_rfl) zsz rfl h27
      exact flw_val rfl rfl (.bool true) (ex_move (.tmp 27) rfl r27) hS (Flz.refl _) (updF_self _ _ _)
    · intro f w1 hS hf
      generalize hA : putAll _ _ f = aA
      have g28 : f 2 = .bool true := hf 2 (by decide)
      have t28 : aA.tmps[28]? = some (.bool true) := by rw [← hA]; exact putAll_g f 28 2 slotsTaw5 a0 sbTaw5 (by kernel_rfl) zsz rfl g28
      have r5 : aA.eval (.tmp 5) = .int .i64 0 := by rw [← hA]; exact putAll_off f 5 slotsTaw5 a0 (by kernel_rfl) z5
      exact flw_val rfl ((wanted_of rfl 28 rfl t28).trans rfl) (.int .i64 0) (ex_move (.tmp 5) rfl r5) hS (Flz.refl _) (updF_self _ _ _)
    · intro f w1 hS hf
      generalize hA : putAll _ _ f = aA
      have g28 : f 2 = .bool true := hf 2 (by decide)
      have t28 : aA.tmps[28]? = some (.bool true) := by rw [← hA]; exact putAll_g f 28 2 slotsTaw5 a0 sbTaw5 (by kernel_rfl) zsz rfl g28
      have h29 : f 3 = .int .i64 0 := hf 3 (by decide)
      have r29 : aA.eval (.tmp 29) = .int .i64 0 := by rw [← hA]; exact putAll_at f 29 3 slotsTaw5 a0 sbTaw5 (by kernel_rfl) zsz rfl h29
      exact flw_val rfl ((wanted_of rfl 28 rfl t28).trans rfl) (.bool true) (Eq.trans (ex_int .eql _ _ (.tmp 29) _ rfl .i64 0 0 r29 rfl (.bool ((0 : Int) == (0 : Int))) (fun _ => rfl)) (by rw [(by decide : ((0 : Int) == (0 : Int)) = true)])) hS (Flz.refl _) (updF_self _ _ _)
    · intro f w1 hS hf
      generalize hA : putAll _ _ f = aA
      have h28 : f 2 = .bool true := hf 2 (by decide)
      have r28 : aA.eval (.tmp 28) = .bool true := by rw [← hA]; exact putAll_at f 28 2 slotsTaw5 a0 sbTaw5 (by kernel_rfl) zsz rfl h28
      have h30 : f 4 = .bool true := hf 4 (by decide)
      have r30 : aA.eval (.tmp 30) = .bool true := by rw [← hA]; exact putAll_at f 30 4 slotsTaw5 a0 sbTaw5 (by kernel_rfl) zsz rfl h30
      exact flw_val rfl rfl (.bool true) (ex_pick (.tmp 28) (.tmp 30) _ rfl true r28 ((if_pos rfl).trans r30)) hS (Flz.refl _) (updF_self _ _ _)
    · intro f w1 hS hf
      generalize hA : putAll _ _ f = aA
      have h31 : f 5 = .bool true := hf 5 (by decide)
      have r31 : aA.eval (.tmp 31) = .bool true := by rw [← hA]; exact putAll_at f 31 5 slotsTaw5 a0 sbTaw5 (by kernel_rfl) zsz rfl h31
      exact flw_val rfl rfl (.bool true) (ex_move (.tmp 31) rfl r31) hS (Flz.refl _) (updF_self _ _ _)
    · intro f w1 hS hf
      generalize hA : putAll _ _ f = aA
      have g32 : f 6 = .bool true := hf 6 (by decide)
      have t32 : aA.tmps[32]? = some (.bool true) := by rw [← hA]; exact putAll_g f 32 6 slotsTaw5 a0 sbTaw5 (by kernel_rfl) zsz rfl g32
      have r7 : aA.eval (.tmp 7) = .int .i64 0 := by rw [← hA]; exact putAll_off f 7 slotsTaw5 a0 (by kernel_rfl) z7
      exact flw_val rfl ((wanted_of rfl 32 rfl t32).trans rfl) (.int .i64 0) (ex_move (.tmp 7) rfl r7) hS (Flz.refl _) (updF_self _ _ _)
    · intro f w1 hS hf
      generalize hA : putAll _ _ f = aA
      have g32 : f 6 = .bool true := hf 6 (by decide)
      have t32 : aA.tmps[32]? = some (.bool true) := by rw [← hA]; exact putAll_g f 32 6 slotsTaw5 a0 sbTaw5 (by kernel_rfl) zsz rfl g32
      have h33 : f 7 = .int .i64 0 := hf 7 (by decide)
      have r33 : aA.eval (.tmp 33) = .int .i64 0 := by rw [← hA]; exact putAll_at f 33 7 slotsTaw5 a0 sbTaw5 (by kernel_rfl) zsz rfl h33
      exact flw_val rfl ((wanted_of rfl 32 rfl t32).trans rfl) (.bool true) (Eq.trans (ex_int .eql _ _ (.tmp 33) _ rfl .i64 0 0 r33 rfl (.bool ((0 : Int) == (0 : Int))) (fun _ => rfl)) (by rw [(by decide : ((0 : Int) == (0 : Int)) = true)])) hS (Flz.refl _) (updF_self _ _ _)
    · intro f w1 hS hf
      generalize hA : putAll _ _ f = aA
      have h32 : f 6 = .bool true := hf 6 (by decide)
      have r32 : aA.eval (.tmp 32) = .bool true := by rw [← hA]; exact putAll_at f 32 6 slotsTaw5 a0 sbTaw5 (by kernel_rfl) zsz rfl h32
      have h34 : f 8 = .bool true := hf 8 (by decide)
      have r34 : aA.eval (.tmp 34) = .bool true := by rw [← hA]; exact putAll_at f 34 8 slotsTaw5 a0 sbTaw5 (by kernel_rfl) zsz rfl h34
      exact flw_val rfl rfl (.bool true) (ex_pick (.tmp 32) (.tmp 34) _ rfl true r32 ((if_pos rfl).trans r34)) hS (Flz.refl _) (updF_self _ _ _)
    · intro f w1 hS hf
      generalize hA : putAll _ _ f = aA
      have h35 : f 9 = .bool true := hf 9 (by decide)
      have r35 : aA.eval (.tmp 35) = .bool true := by rw [← hA]; exact putAll_at f 35 9 slotsTaw5 a0 sbTaw5 (by kernel_rfl) zsz rfl h35
      exact flw_val rfl rfl (.bool true) (ex_move (.tmp 35) rfl r35) hS (Flz.refl _) (updF_self _ _ _)
    · intro f w1 hS hf
      generalize hA : putAll _ _ f = aA
      have g36 : f 10 = .bool true := hf 10 (by decide)
      have t36 : aA.tmps[36]? = some (.bool true) := by rw [← hA]; exact putAll_g f 36 10 slotsTaw5 a0 sbTaw5 (by kernel_rfl) zsz rfl g36
      have r6 : aA.eval (.tmp 6) = .pointer (some ⟨b4_6, 0, none⟩) := by rw [← hA]; exact putAll_off f 6 slotsTaw5 a0 (by kernel_rfl) z6
      exact flw_val rfl ((wanted_of rfl 36 rfl t36).trans rfl) (.agg #[.int .u64 5, v4_4]) (ex_loadR 26 (.tmp 6) rfl ⟨b4_6, 0, none⟩ r6 (fun _ => by kernel_rfl) [.int .u64 5, v4_4] (by kernel_rfl) ((HX_b4_6.out.keepB hS).part [.int .u64 5, v4_4] 0 (fun j u hu => by rw [Nat.zero_add]; exact hu))) hS (Flz.refl _) (updF_self _ _ _)
    · intro f w1 hS hf
      generalize hA : putAll _ _ f = aA
      have g36 : f 10 = .bool true := hf 10 (by decide)
      have t36 : aA.tmps[36]? = some (.bool true) := by rw [← hA]; exact putAll_g f 36 10 slotsTaw5 a0 sbTaw5 (by kernel_rfl) zsz rfl g36
      have h37 : f 11 = .agg #[.int .u64 5, v4_4] := hf 11 (by decide)
      have r37 : aA.eval (.tmp 37) = .agg #[.int .u64 5, v4_4] := by rw [← hA]; exact putAll_at f 37 11 slotsTaw5 a0 sbTaw5 (by kernel_rfl) zsz rfl h37
      exact flw_call rfl ((wanted_of rfl 36 rfl t36).trans rfl) 12 #[(.tmp 37)] _ rfl #[.agg #[.int .u64 5, v4_4]] (by simp only [List.map_toArray, List.map_cons, List.map_nil, r37]) (fun w => by kernel_rfl) (fun v _ => v = .bool true) (as_any (zeroT_any _ _ _ w1 (zip_small (by decide)) (HU4_4.out.keep hS)) (congrArg Value.bool (zip_zero (by decide)))) (fun v w' hr hb => ⟨hS.trans (hb.mono hS.size), Flz.of hb, (updF_self _ _ _).trans hr⟩)
    · intro f w1 hS hf
      generalize hA : putAll _ _ f = aA
      have h36 : f 10 = .bool true := hf 10 (by decide)
      have r36 : aA.eval (.tmp 36) = .bool true := by rw [← hA]; exact putAll_at f 36 10 slotsTaw5 a0 sbTaw5 (by kernel_rfl) zsz rfl h36
      have h38 : f 12 = .bool true := hf 12 (by decide)
      have r38 : aA.eval (.tmp 38) = .bool true := by rw [← hA]; exact putAll_at f 38 12 slotsTaw5 a0 sbTaw5 (by kernel_rfl) zsz rfl h38
      exact flw_val rfl rfl (.bool true) (ex_pick (.tmp 36) (.tmp 38) _ rfl true r36 ((if_pos rfl).trans r38)) hS (Flz.refl _) (updF_self _ _ _)
    · intro f w1 hS hf
      generalize hA : putAll _ _ f = aA
      have h39 : f 13 = .bool true := hf 13 (by decide)
      have r39 : aA.eval (.tmp 39) = .bool true := by rw [← hA]; exact putAll_at f 39 13 slotsTaw5 a0 sbTaw5 (by kernel_rfl) zsz rfl h39
      exact flw_val rfl rfl (.bool true) (ex_move (.tmp 39) rfl r39) hS (Flz.refl _) (updF_self _ _ _)
    · intro f w1 hS hf
      generalize hA : putAll _ _ f = aA
      have g40 : f 14 = .bool true := hf 14 (by decide)
      have t40 : aA.tmps[40]? = some (.bool true) := by rw [← hA]; exact putAll_g f 40 14 slotsTaw5 a0 sbTaw5 (by kernel_rfl) zsz rfl g40
      have r2 : aA.eval (.tmp 2) = .pointer (some ⟨b2_5, 0, none⟩) := by rw [← hA]; exact putAll_off f 2 slotsTaw5 a0 (by kernel_rfl) z2
      exact flw_val rfl ((wanted_of rfl 40 rfl t40).trans rfl) (.agg #[.int .u64 5, v2_3]) (ex_loadR 26 (.tmp 2) rfl ⟨b2_5, 0, none⟩ r2 (fun _ => by kernel_rfl) [.int .u64 5, v2_3] (by kernel_rfl) ((HX_b2_5.out.keepB hS).part [.int .u64 5, v2_3] 0 (fun j u hu => by rw [Nat.zero_add]; exact hu))) hS (Flz.refl _) (updF_self _ _ _)
    · intro f w1 hS hf
      generalize hA : putAll _ _ f = aA
      have g40 : f 14 = .bool true := hf 14 (by decide)
      have t40 : aA.tmps[40]? = some (.bool true) := by rw [← hA]; exact putAll_g f 40 14 slotsTaw5 a0 sbTaw5 (by kernel_rfl) zsz rfl g40
      have h41 : f 15 = .agg #[.int .u64 5, v2_3] := hf 15 (by decide)
      have r41 : aA.eval (.tmp 41) = .agg #[.int .u64 5, v2_3] := by rw [← hA]; exact putAll_at f 41 15 slotsTaw5 a0 sbTaw5 (by kernel_rfl) zsz rfl h41
      exact flw_call rfl ((wanted_of rfl 40 rfl t40).trans rfl) 12 #[(.tmp 41)] _ rfl #[.agg #[.int .u64 5, v2_3]] (by simp only [List.map_toArray, List.map_cons, List.map_nil, r41]) (fun w => by kernel_rfl) (fun v _ => v = .bool false) (as_any (zeroT_any _ _ _ w1 (tab_small (by decide)) (HU2_3.out.keep hS)) (congrArg Value.bool (tab_nz (by decide) (len_few _ (by decide)) (by rw [few_one]; decide)))) (fun v w' hr hb => ⟨hS.trans (hb.mono hS.size), Flz.of hb, (updF_self _ _ _).trans hr⟩)
    · intro f w1 hS hf
      generalize hA : putAll _ _ f = aA
      have g40 : f 14 = .bool true := hf 14 (by decide)
      have t40 : aA.tmps[40]? = some (.bool true) := by rw [← hA]; exact putAll_g f 40 14 slotsTaw5 a0 sbTaw5 (by kernel_rfl) zsz rfl g40
      have h42 : f 16 = .bool false := hf 16 (by decide)
      have r42 : aA.eval (.tmp 42) = .bool false := by rw [← hA]; exact putAll_at f 42 16 slotsTaw5 a0 sbTaw5 (by kernel_rfl) zsz rfl h42
      exact flw_val rfl ((wanted_of rfl 40 rfl t40).trans rfl) (.bool true) (ex_not _ (.tmp 42) rfl r42) hS (Flz.refl _) (updF_self _ _ _)
    · intro f w1 hS hf
      generalize hA : putAll _ _ f = aA
      have h40 : f 14 = .bool true := hf 14 (by decide)
      have r40 : aA.eval (.tmp 40) = .bool true := by rw [← hA]; exact putAll_at f 40 14 slotsTaw5 a0 sbTaw5 (by kernel_rfl) zsz rfl h40
      have h43 : f 17 = .bool true := hf 17 (by decide)
      have r43 : aA.eval (.tmp 43) = .bool true := by rw [← hA]; exact putAll_at f 43 17 slotsTaw5 a0 sbTaw5 (by kernel_rfl) zsz rfl h43
      exact flw_val rfl rfl (.bool true) (ex_pick (.tmp 40) (.tmp 43) _ rfl true r40 ((if_pos rfl).trans r43)) hS (Flz.refl _) (updF_self _ _ _)
    · intro f w1 hS hf
      generalize hA : putAll _ _ f = aA
      have h44 : f 18 = .bool true := hf 18 (by decide)
      have r44 : aA.eval (.tmp 44) = .bool true := by rw [← hA]; exact putAll_at f 44 18 slotsTaw5 a0 sbTaw5 (by kernel_rfl) zsz rfl h44
      exact flw_val rfl rfl (.bool true) (ex_move (.tmp 44) rfl r44) hS (Flz.refl _) (updF_self _ _ _)
    · intro f w1 hS hf
      generalize hA : putAll _ _ f = aA
      have g45 : f 19 = .bool true := hf 19 (by decide)
      have t45 : aA.tmps[45]? = some (.bool true) := by rw [← hA]; exact putAll_g f 45 19 slotsTaw5 a0 sbTaw5 (by kernel_rfl) zsz rfl g45
      have r2 : aA.eval (.tmp 2) = .pointer (some ⟨b2_5, 0, none⟩) := by rw [← hA]; exact putAll_off f 2 slotsTaw5 a0 (by kernel_rfl) z2
      exact flw_val rfl ((wanted_of rfl 45 rfl t45).trans rfl) (.agg #[.int .u64 5, v2_3]) (ex_loadR 26 (.tmp 2) rfl ⟨b2_5, 0, none⟩ r2 (fun _ => by kernel_rfl) [.int .u64 5, v2_3] (by kernel_rfl) ((HX_b2_5.out.keepB hS).part [.int .u64 5, v2_3] 0 (fun j u hu => by rw [Nat.zero_add]; exact hu))) hS (Flz.refl _) (updF_self _ _ _)
    · intro f w1 hS hf
      generalize hA : putAll _ _ f = aA
      have g45 : f 19 = .bool true := hf 19 (by decide)
      have t45 : aA.tmps[45]? = some (.bool true) := by rw [← hA]; exact putAll_g f 45 19 slotsTaw5 a0 sbTaw5 (by kernel_rfl) zsz rfl g45
      have h46 : f 20 = .agg #[.int .u64 5, v2_3] := hf 20 (by decide)
      have r46 : aA.eval (.tmp 46) = .agg #[.int .u64 5, v2_3] := by rw [← hA]; exact putAll_at f 46 20 slotsTaw5 a0 sbTaw5 (by kernel_rfl) zsz rfl h46
      exact flw_call rfl ((wanted_of rfl 45 rfl t45).trans rfl) 13 #[(.tmp 46)] _ rfl #[.agg #[.int .u64 5, v2_3]] (by simp only [List.map_toArray, List.map_cons, List.map_nil, r46]) (fun w => by kernel_rfl) (fun v _ => v = .int .i64 (cntT (tab 5 12 (srt (([1]).map fewS))))) (countT_any _ _ _ w1 (tab_small (by decide)) (HU2_3.out.keep hS)) (fun v w' hr hb => ⟨hS.trans (hb.mono hS.size), Flz.of hb, (updF_self _ _ _).trans hr⟩)
    · intro f w1 hS hf
      generalize hA : putAll _ _ f = aA
      have g45 : f 19 = .bool true := hf 19 (by decide)
      have t45 : aA.tmps[45]? = some (.bool true) := by rw [← hA]; exact putAll_g f 45 19 slotsTaw5 a0 sbTaw5 (by kernel_rfl) zsz rfl g45
      have h47 : f 21 = .int .i64 (cntT (tab 5 12 (srt (([1]).map fewS)))) := hf 21 (by decide)
      have r47 : aA.eval (.tmp 47) = .int .i64 (cntT (tab 5 12 (srt (([1]).map fewS)))) := by rw [← hA]; exact putAll_at f 47 21 slotsTaw5 a0 sbTaw5 (by kernel_rfl) zsz rfl h47
      exact flw_val rfl ((wanted_of rfl 45 rfl t45).trans rfl) (.bool true) (Eq.trans (ex_int .eql _ _ (.tmp 47) _ rfl .i64 (cntT (tab 5 12 (srt (([1]).map fewS)))) 1 r47 rfl (.bool ((cntT (tab 5 12 (srt (([1]).map fewS)))) == (1 : Int))) (fun _ => rfl)) (by rw [(show ((cntT (tab 5 12 (srt (([1]).map fewS)))) == (1 : Int)) = true by rw [tab_cnt (by decide) (len_few _ (by decide)), few_one]; rfl)])) hS (Flz.refl _) (updF_self _ _ _)
    · intro f w1 hS hf
      generalize hA : putAll _ _ f = aA
      have h45 : f 19 = .bool true := hf 19 (by decide)
      have r45 : aA.eval (.tmp 45) = .bool true := by rw [← hA]; exact putAll_at f 45 19 slotsTaw5 a0 sbTaw5 (by kernel_rfl) zsz rfl h45
      have h48 : f 22 = .bool true := hf 22 (by decide)
      have r48 : aA.eval (.tmp 48) = .bool true := by rw [← hA]; exact putAll_at f 48 22 slotsTaw5 a0 sbTaw5 (by kernel_rfl) zsz rfl h48
      exact flw_val rfl rfl (.bool true) (ex_pick (.tmp 45) (.tmp 48) _ rfl true r45 ((if_pos rfl).trans r48)) hS (Flz.refl _) (updF_self _ _ _)
    · intro f w1 hS hf
      generalize hA : putAll _ _ f = aA
      have h49 : f 23 = .bool true := hf 23 (by decide)
      have r49 : aA.eval (.tmp 49) = .bool true := by rw [← hA]; exact putAll_at f 49 23 slotsTaw5 a0 sbTaw5 (by kernel_rfl) zsz rfl h49
      exact flw_val rfl rfl (.bool true) (ex_assign (.tmp 49) rfl r49) hS (Flz.refl _) (updF_self _ _ _)
  intro f u5 hS hf hap
  have h0 : f 0 = .int .i64 0 := hf 0 (by decide)
  have h1 : f 1 = .bool true := hf 1 (by decide)
  have h2 : f 2 = .bool true := hf 2 (by decide)
  have h3 : f 3 = .int .i64 0 := hf 3 (by decide)
  have h4 : f 4 = .bool true := hf 4 (by decide)
  have h5 : f 5 = .bool true := hf 5 (by decide)
  have h6 : f 6 = .bool true := hf 6 (by decide)
  have h7 : f 7 = .int .i64 0 := hf 7 (by decide)
  have h8 : f 8 = .bool true := hf 8 (by decide)
  have h9 : f 9 = .bool true := hf 9 (by decide)
  have h10 : f 10 = .bool true := hf 10 (by decide)
  have h11 : f 11 = .agg #[.int .u64 5, v4_4] := hf 11 (by decide)
  have h12 : f 12 = .bool true := hf 12 (by decide)
  have h13 : f 13 = .bool true := hf 13 (by decide)
  have h14 : f 14 = .bool true := hf 14 (by decide)
  have h15 : f 15 = .agg #[.int .u64 5, v2_3] := hf 15 (by decide)
  have h16 : f 16 = .bool false := hf 16 (by decide)
  have h17 : f 17 = .bool true := hf 17 (by decide)
  have h18 : f 18 = .bool true := hf 18 (by decide)
  have h19 : f 19 = .bool true := hf 19 (by decide)
  have h20 : f 20 = .agg #[.int .u64 5, v2_3] := hf 20 (by decide)
  have h21 : f 21 = .int .i64 (cntT (tab 5 12 (srt (([1]).map fewS)))) := hf 21 (by decide)
  have h22 : f 22 = .bool true := hf 22 (by decide)
  have h23 : f 23 = .bool true := hf 23 (by decide)
  have h24 : f 24 = .bool true := hf 24 (by decide)
  clear hf hap
  clear zsz z3 z5 z7 z6 z2
  subst ha0
  simp only [slotsTaw5, putAll, h0, h1, h2, h3, h4, h5, h6, h7, h8, h9, h10, h11, h12, h13, h14, h15, h16, h17, h18, h19, h20, h21, h22, h23, h24, Act.put, List.setIfInBounds_toArray, List.set_cons_zero, List.set_cons_succ]
  clear h0 h1 h2 h3 h4 h5 h6 h7 h8 h9 h10 h11 h12 h13 h14 h15 h16 h17 h18 h19 h20 h21 h22 h23 h24
  refine tl_nil ?_
  replace HU1_0 := Lib.hid (HU1_0.out.keep hS)
  replace HU1_1 := Lib.hid (HU1_1.out.keep hS)
  replace HX_b2_5 := Lib.hid (HX_b2_5.out.keepB hS)
  replace HU2_3 := Lib.hid (HU2_3.out.keep hS)
  replace HX_b3_5 := Lib.hid (HX_b3_5.out.keepB hS)
  replace HU3_3 := Lib.hid (HU3_3.out.keep hS)
  replace HX_b4_6 := Lib.hid (HX_b4_6.out.keepB hS)
  replace HU4_4 := Lib.hid (HU4_4.out.keep hS)
  replace HB := Lib.hid (HB.out.trans (hS.mono HB.out.size))
  clear hS
  go_wp2_with fail
  go_ret
  exact ⟨⟨_, rfl, rfl⟩, HB.out⟩
theorem awake15_any  (w : World) (hL : Laid w) : Calls Tryd.prog 7 #[] w fun e w' => (∃ v, e = .returned v ∧ v = .bool true) ∧ Below w.heap.size w w' := awake15_b  w w (Below.refl _ _) hL
end Go.Proofs.YtepeloenijlnhaaDoor
/- The law TableApart: it answers true. Conditions: the sums' tables are laid; a seed of 64 bits; what comes in lies in memory. -/
namespace Go.Proofs.YtepeloenijlnhaaDoor
open Go.RowKit
theorem same_tu (s : Nat) {L M : List Ce} (h : L = M) : (decide (s = s) && decide (L = M)) = true := by rw [h]; simp
theorem sub_len (a b : Nat) (ha : a ≤ 10000) (hb : b ≤ 10000) : IntKind.i64.wrap ((a : Int) - (b : Int)) = (a : Int) - (b : Int) := wrap_small (by omega)
def waitSa0 (i : Nat) : List Nat := ([[]] : List (List Nat)).getD i []
def slotsSa0 : List (Nat × Nat) := [(8, 0)]
theorem sbSa0 : slotsB slotsSa0 = true := by kernel_rfl
theorem chkSa0 : flwO slotsSa0 waitSa0 1 (regOf Tryd.f5.body 0) = true := by kernel_rfl
def waitSa1 (i : Nat) : List Nat := ([[], [0]] : List (List Nat)).getD i []
def slotsSa1 : List (Nat × Nat) := [(23, 0), (24, 1)]
theorem sbSa1 : slotsB slotsSa1 = true := by kernel_rfl
theorem chkSa1 : flwO slotsSa1 waitSa1 2 (regOf Tryd.f5.body 1) = true := by kernel_rfl
def waitSaf5 (i : Nat) : List Nat := ([[], [0], [], [2], [1], [3]] : List (List Nat)).getD i []
def slotsSaf5 : List (Nat × Nat) := [(37, 0), (38, 1), (39, 2), (40, 3), (9, 4), (10, 5)]
theorem sbSaf5 : slotsB slotsSaf5 = true := by kernel_rfl
theorem chkSaf5 : flwO slotsSaf5 waitSaf5 6 (regOf Tryd.f5.body 5) = true := by kernel_rfl
def waitSaf6 (i : Nat) : List Nat := ([[], [], [], [0, 1, 2], [3], [4], [4], [], [0, 1, 2, 3, 4, 5, 6, 7], [0, 1, 2, 3, 4, 5, 6, 7, 8]] : List (List Nat)).getD i []
def slotsSaf6 : List (Nat × Nat) := [(42, 0), (43, 1), (44, 2), (45, 3), (41, 4), (46, 5), (47, 6), (11, 7), (12, 9)]
theorem sbSaf6 : slotsB slotsSaf6 = true := by kernel_rfl
theorem chkSaf6 : flwO slotsSaf6 waitSaf6 8 (regOf Tryd.f5.body 6) = true := by kernel_rfl
def waitSaf7 (i : Nat) : List Nat := ([[], [], [], [0, 1, 2], [3], [4], [4], [], [0, 1, 2, 3, 4, 5, 6, 7], [0, 1, 2, 3, 4, 5, 6, 7, 8]] : List (List Nat)).getD i []
def slotsSaf7 : List (Nat × Nat) := [(49, 0), (50, 1), (51, 2), (52, 3), (48, 4), (53, 5), (54, 6), (13, 7), (14, 9)]
theorem sbSaf7 : slotsB slotsSaf7 = true := by kernel_rfl
theorem chkSaf7 : flwO slotsSaf7 waitSaf7 8 (regOf Tryd.f5.body 7) = true := by kernel_rfl
def waitSaf8 (i : Nat) : List Nat := ([[], [0], [1], [2], [2], [2, 4]] : List (List Nat)).getD i []
def slotsSaf8 : List (Nat × Nat) := [(55, 0), (56, 1), (57, 2), (58, 3), (59, 4), (60, 5)]
theorem sbSaf8 : slotsB slotsSaf8 = true := by kernel_rfl
theorem chkSaf8 : flwO slotsSaf8 waitSaf8 6 (regOf Tryd.f5.body 8) = true := by kernel_rfl
def waitSaf9 (i : Nat) : List Nat := ([[], [], [0, 1], [2]] : List (List Nat)).getD i []
def slotsSaf9 : List (Nat × Nat) := [(61, 0), (62, 1), (63, 2), (8, 3)]
theorem sbSaf9 : slotsB slotsSaf9 = true := by kernel_rfl
theorem chkSaf9 : flwO slotsSaf9 waitSaf9 4 (regOf Tryd.f5.body 9) = true := by kernel_rfl
def waitSat5 (i : Nat) : List Nat := ([[], [0], [], [2], [1], [3]] : List (List Nat)).getD i []
def slotsSat5 : List (Nat × Nat) := [(37, 0), (38, 1), (39, 2), (40, 3), (9, 4), (10, 5)]
theorem sbSat5 : slotsB slotsSat5 = true := by kernel_rfl
theorem chkSat5 : flwO slotsSat5 waitSat5 6 (regOf Tryd.f5.body 5) = true := by kernel_rfl
def waitSat6 (i : Nat) : List Nat := ([[], [], [], [0, 1, 2], [3], [4], [4], [], [0, 1, 2, 3, 4, 5, 6, 7], [0, 1, 2, 3, 4, 5, 6, 7, 8]] : List (List Nat)).getD i []
def slotsSat6 : List (Nat × Nat) := [(42, 0), (43, 1), (44, 2), (45, 3), (41, 4), (46, 5), (47, 6), (11, 7), (12, 9)]
theorem sbSat6 : slotsB slotsSat6 = true := by kernel_rfl
theorem chkSat6 : flwO slotsSat6 waitSat6 8 (regOf Tryd.f5.body 6) = true := by kernel_rfl
def waitSat7 (i : Nat) : List Nat := ([[], [], [], [0, 1, 2], [3], [4], [4], [], [0, 1, 2, 3, 4, 5, 6, 7], [0, 1, 2, 3, 4, 5, 6, 7, 8]] : List (List Nat)).getD i []
def slotsSat7 : List (Nat × Nat) := [(49, 0), (50, 1), (51, 2), (52, 3), (48, 4), (53, 5), (54, 6), (13, 7), (14, 9)]
theorem sbSat7 : slotsB slotsSat7 = true := by kernel_rfl
theorem chkSat7 : flwO slotsSat7 waitSat7 8 (regOf Tryd.f5.body 7) = true := by kernel_rfl
def waitSat8 (i : Nat) : List Nat := ([[], [0], [1], [2], [2, 3], [2, 4]] : List (List Nat)).getD i []
def slotsSat8 : List (Nat × Nat) := [(55, 0), (56, 1), (57, 2), (58, 3), (59, 4), (60, 5)]
theorem sbSat8 : slotsB slotsSat8 = true := by kernel_rfl
theorem chkSat8 : flwO slotsSat8 waitSat8 6 (regOf Tryd.f5.body 8) = true := by kernel_rfl
def waitSat10 (i : Nat) : List Nat := ([[], [], [], [], [2, 3], [0, 1, 4], [5], [6], [6], [], [0, 1, 2, 3, 4, 5, 6, 7, 8, 9], [0, 1, 2, 3, 4, 5, 6, 7, 8, 9, 10]] : List (List Nat)).getD i []
def slotsSat10 : List (Nat × Nat) := [(65, 0), (66, 1), (67, 2), (68, 3), (69, 4), (70, 5), (64, 6), (71, 7), (72, 8), (15, 9), (16, 11)]
theorem sbSat10 : slotsB slotsSat10 = true := by kernel_rfl
theorem chkSat10 : flwO slotsSat10 waitSat10 10 (regOf Tryd.f5.body 10) = true := by kernel_rfl
def waitSat11 (i : Nat) : List Nat := ([[], [], [], [], [2, 3], [0, 1, 4], [5], [6], [6], [], [0, 1, 2, 3, 4, 5, 6, 7, 8, 9], [0, 1, 2, 3, 4, 5, 6, 7, 8, 9, 10]] : List (List Nat)).getD i []
def slotsSat11 : List (Nat × Nat) := [(74, 0), (75, 1), (76, 2), (77, 3), (78, 4), (79, 5), (73, 6), (80, 7), (81, 8), (17, 9), (18, 11)]
theorem sbSat11 : slotsB slotsSat11 = true := by kernel_rfl
theorem chkSat11 : flwO slotsSat11 waitSat11 10 (regOf Tryd.f5.body 11) = true := by kernel_rfl
def waitSat12 (i : Nat) : List Nat := ([[], [], [0, 1], [2], [3], [3], [], [0, 1, 2, 3, 4, 5, 6], [0, 1, 2, 3, 4, 5, 6, 7]] : List (List Nat)).getD i []
def slotsSat12 : List (Nat × Nat) := [(83, 0), (84, 1), (85, 2), (82, 3), (86, 4), (87, 5), (19, 6), (20, 8)]
theorem sbSat12 : slotsB slotsSat12 = true := by kernel_rfl
theorem chkSat12 : flwO slotsSat12 waitSat12 7 (regOf Tryd.f5.body 12) = true := by kernel_rfl
def waitSat13 (i : Nat) : List Nat := ([[], [], [0, 1], [2], [3], [3], [], [0, 1, 2, 3, 4, 5, 6], [0, 1, 2, 3, 4, 5, 6, 7]] : List (List Nat)).getD i []
def slotsSat13 : List (Nat × Nat) := [(89, 0), (90, 1), (91, 2), (88, 3), (92, 4), (93, 5), (21, 6), (22, 8)]
theorem sbSat13 : slotsB slotsSat13 = true := by kernel_rfl
theorem chkSat13 : flwO slotsSat13 waitSat13 7 (regOf Tryd.f5.body 13) = true := by kernel_rfl
def waitSat14 (i : Nat) : List Nat := ([[], [0], [1], [2], [2, 3], [2, 4], [5], [6], [6, 7], [6], [6, 9], [6, 8, 10], [6, 11], [12], [13], [13, 14], [13], [13, 16], [13], [13, 18], [13, 17, 19], [13, 15, 20], [13, 21], [22], [23], [23, 24], [23], [23, 26], [23, 25, 27], [23, 28], [29]] : List (List Nat)).getD i []
def slotsSat14 : List (Nat × Nat) := [(94, 0), (95, 1), (96, 2), (97, 3), (98, 4), (99, 5), (100, 6), (101, 7), (102, 8), (103, 9), (104, 10), (105, 11), (106, 12), (107, 13), (108, 14), (109, 15), (110, 16), (111, 17), (112, 18), (113, 19), (114, 20), (115, 21), (116, 22), (117, 23), (118, 24), (119, 25), (120, 26), (121, 27), (122, 28), (123, 29), (8, 30)]
theorem sbSat14 : slotsB slotsSat14 = true := by kernel_rfl
theorem chkSat14 : flwB slotsSat14 waitSat14 31 (regOf Tryd.f5.body 14) = true := by kernel_rfl
set_option maxHeartbeats 16000000 in
set_option maxRecDepth 100000 in
theorem tableApart_b (s : Nat) (n : Int) (la lb : List Int) (qa qb : Option Addr) (ca cb : Nat) (w w0 : World) (hB : Below w.heap.size w w0) (hs : s < 18446744073709551616) (hL : Laid w) (ha : Sees w w.heap.size qa (la.map fun n => Value.int .i64 n)) (hb : Sees w w.heap.size qb (lb.map fun n => Value.int .i64 n)) : Calls Tryd.prog 5 #[.int .u64 (s : Int), .int .i64 n, .slice qa la.length ca, .slice qb lb.length cb] w0 fun e w' => e = .returned (.bool true) ∧ Below w.heap.size w w' := by
  have HB := Lib.hid hB
  clear hB
  have HL := Lib.hid hL
  have HSZ := Lib.hid hL.size
  have HSD := Lib.hid hs
  have HSA : Hid (Ins w (.slice qa la.length ca) la) := Lib.hid ⟨qa, ca, rfl, ha⟩
  have HSB : Hid (Ins w (.slice qb lb.length cb) lb) := Lib.hid ⟨qb, cb, rfl, hb⟩
  clear hL hs ha hb
  go_enter Tryd.func5, Tryd.ntmps5
  go_upto_region 0 with fail
  refine wp_act (fun a0 ha0 => ?_)
  have zsz : a0.tmps.size = 124 := by rw [ha0]; rfl
  refine wp_region_flwo (E := Flz) [] slotsSa0 waitSa0 [Fct.val Flz 0 (.bool false)] (fun w' => Below w0.heap.size w0 w') _ 1 0 chkSa0 (by kernel_rfl) (by kernel_rfl) (by kernel_rfl) (by decide) (Below.refl _ _) ?_ ?_
  · refine lt_s (lt_0) ?_
    · intro f w1 hS hf
      generalize hA : putAll _ _ f = aA
      exact flw_val rfl rfl (.bool false) (ex_assign _ rfl rfl) hS (Flz.refl _) (updF_self _ _ _)
  intro f u0 hS hf hap
  have h0 : f 0 = .bool false := hf 0 (by decide)
  clear hf hap
  clear zsz
  subst ha0
  simp only [slotsSa0, putAll, h0, Act.put, List.setIfInBounds_toArray, List.set_cons_zero, List.set_cons_succ]
  clear h0
  refine tl_nil ?_
  replace HB := Lib.hid (HB.out.trans (hS.mono HB.out.size))
  clear hS
  go_upto_region 1 with fail
  refine wp_act (fun a0 ha0 => ?_)
  have zsz : a0.tmps.size = 124 := by rw [ha0]; rfl
  refine wp_region_flwo (E := Flz) [] slotsSa1 waitSa1 [Fct.val Flz 0 (.bool true), Fct.val Flz 1 (.bool false)] (fun w' => Below u0.heap.size u0 w') _ 2 0 chkSa1 (by kernel_rfl) (by kernel_rfl) (by kernel_rfl) (by decide) (Below.refl _ _) ?_ ?_
  · refine lt_s (lt_s (lt_0) ?_) ?_
    · intro f w1 hS hf
      generalize hA : putAll _ _ f = aA
      exact flw_call rfl rfl 7 #[] _ rfl #[] (by kernel_rfl) (fun w => by kernel_rfl) (fun v _ => v = .bool true) (awake15_any w1 (HL.out.keep (HB.out.trans (hS.mono HB.out.size)) HSZ.out)) (fun v w' hr hb => ⟨hS.trans (hb.mono hS.size), Flz.of hb, (updF_self _ _ _).trans hr⟩)
    · intro f w1 hS hf
      generalize hA : putAll _ _ f = aA
      have h23 : f 0 = .bool true := hf 0 (by decide)
      have r23 : aA.eval (.tmp 23) = .bool true := by rw [← hA]; exact putAll_at f 23 0 slotsSa1 a0 sbSa1 (by kernel_rfl) zsz rfl h23
      exact flw_val rfl rfl (.bool false) (ex_not _ (.tmp 23) rfl r23) hS (Flz.refl _) (updF_self _ _ _)
  intro f u1 hS hf hap
  have h0 : f 0 = .bool true := hf 0 (by decide)
  have h1 : f 1 = .bool false := hf 1 (by decide)
  clear hf hap
  clear zsz
  subst ha0
  simp only [slotsSa1, putAll, h0, h1, Act.put, List.setIfInBounds_toArray, List.set_cons_zero, List.set_cons_succ]
  clear h0 h1
  refine tl_nil ?_
  replace HB := Lib.hid (HB.out.trans (hS.mono HB.out.size))
  clear hS
  by_cases h1 : 40 < la.length
  · have k1 : (40 : Int) < (la.length : Int) := by omega
    go_wp2_with fail
    go_ret
    exact ⟨rfl, HB.out⟩
  have k1 : ¬ (40 : Int) < (la.length : Int) := by omega
  by_cases h2 : 40 < lb.length
  · have k2 : (40 : Int) < (lb.length : Int) := by omega
    go_wp2_with fail
    go_ret
    exact ⟨rfl, HB.out⟩
  have k2 : ¬ (40 : Int) < (lb.length : Int) := by omega
  by_cases h3 : 300 < n
  · go_wp2_with fail
    go_ret
    exact ⟨rfl, HB.out⟩
  have HLA : Hid (la.length ≤ 40) := Lib.hid (by omega)
  have HLB : Hid (lb.length ≤ 40) := Lib.hid (by omega)
  clear h1 h2
  have HLX : Hid ((srt ((la).map fewS)).length ≤ 10000) := Lib.hid (len_few _ (Nat.le_trans HLA.out (by decide)))
  have HLY : Hid ((srt ((lb).map fewS)).length ≤ 10000) := Lib.hid (len_few _ (Nat.le_trans HLB.out (by decide)))
  have HLMX : Hid ((minU (srt ((la).map fewS)) (srt ((lb).map fewS))).length ≤ 10000) := Lib.hid (Nat.le_trans (len_minU _ _) HLX.out)
  have HLMY : Hid ((minU (srt ((lb).map fewS)) (srt ((la).map fewS))).length ≤ 10000) := Lib.hid (Nat.le_trans (len_minU _ _) HLY.out)
  obtain ⟨gd, hgd⟩ : ∃ gd, goodN n = gd := ⟨_, rfl⟩
  have HGD := Lib.hid hgd
  clear hgd
  cases gd
  · go_upto_region 5 with fail
    refine wp_act (fun a0 ha0 => ?_)
    have zsz : a0.tmps.size = 124 := by rw [ha0]; rfl
    have z2 : a0.eval (.tmp 2) = .slice qa la.length ca := by rw [ha0]; rfl
    have z3 : a0.eval (.tmp 3) = .slice qb lb.length cb := by rw [ha0]; rfl
    refine wp_region_flwo (E := Flz) [] slotsSaf5 waitSaf5 [Fct.val Flz 0 (.slice qa la.length ca), Fct.obj 1 (fun v w => Us w v (srt ((la).map fewS))) (fun _ _ _ h he => h.flz he), Fct.val Flz 2 (.slice qb lb.length cb), Fct.obj 3 (fun v w => Us w v (srt ((lb).map fewS))) (fun _ _ _ h he => h.flz he), (⟨([4, 1], fun f _ => f 4 = f 1), fun f f' _ _ h _ hd => (show f' 4 = f' 1 by rw [hd 4 (by simp), hd 1 (by simp)]; exact h)⟩ : Fct Flz), (⟨([5, 3], fun f _ => f 5 = f 3), fun f f' _ _ h _ hd => (show f' 5 = f' 3 by rw [hd 5 (by simp), hd 3 (by simp)]; exact h)⟩ : Fct Flz)] (fun w' => Below u1.heap.size u1 w') _ 6 0 chkSaf5 (by kernel_rfl) (by kernel_rfl) (by kernel_rfl) (by decide) (Below.refl _ _) ?_ ?_
    · refine lt_s (lt_s (lt_s (lt_s (lt_s (lt_s (lt_0) ?_) ?_) ?_) ?_) ?_) ?_
      · intro f w1 hS hf
        generalize hA : putAll _ _ f = aA
        have r2 : aA.eval (.tmp 2) = .slice qa la.length ca := by rw [← hA]; exact putAll_off f 2 slotsSaf5 a0 (by kernel_rfl) z2
        exact flw_val rfl rfl (.slice qa la.length ca) (ex_move (.tmp 2) rfl r2) hS (Flz.refl _) (updF_self _ _ _)
      · intro f w1 hS hf
        generalize hA : putAll _ _ f = aA
        have h37 : f 0 = .slice qa la.length ca := hf 0 (by decide)
        have r37 : aA.eval (.tmp 37) = .slice qa la.length ca := by rw [← hA]; exact putAll_at f 37 0 slotsSaf5 a0 sbSaf5 (by kernel_rfl) zsz rfl h37
        exact flw_call rfl rfl 25 #[(.tmp 37)] _ rfl #[.slice qa la.length ca] (by simp only [List.map_toArray, List.map_cons, List.map_nil, r37]) (fun w => by kernel_rfl) (fun v w' => Us w' v (srt ((la).map fewS))) (few15_us _ (la) w1 (HL.out.keep (HB.out.trans (hS.mono HB.out.size)) HSZ.out) (Nat.le_trans HLA.out (by decide)) (HSA.out.keep (HB.out.trans (hS.mono HB.out.size)))) (fun v w' hr hb => ⟨hS.trans (hb.mono hS.size), Flz.of hb, (show Us w' (updF f 1 v 1) (srt ((la).map fewS)) by rw [updF_self]; exact hr)⟩)
      · intro f w1 hS hf
        generalize hA : putAll _ _ f = aA
        have r3 : aA.eval (.tmp 3) = .slice qb lb.length cb := by rw [← hA]; exact putAll_off f 3 slotsSaf5 a0 (by kernel_rfl) z3
        exact flw_val rfl rfl (.slice qb lb.length cb) (ex_move (.tmp 3) rfl r3) hS (Flz.refl _) (updF_self _ _ _)
      · intro f w1 hS hf
        generalize hA : putAll _ _ f = aA
        have h39 : f 2 = .slice qb lb.length cb := hf 2 (by decide)
        have r39 : aA.eval (.tmp 39) = .slice qb lb.length cb := by rw [← hA]; exact putAll_at f 39 2 slotsSaf5 a0 sbSaf5 (by kernel_rfl) zsz rfl h39
        exact flw_call rfl rfl 25 #[(.tmp 39)] _ rfl #[.slice qb lb.length cb] (by simp only [List.map_toArray, List.map_cons, List.map_nil, r39]) (fun w => by kernel_rfl) (fun v w' => Us w' v (srt ((lb).map fewS))) (few15_us _ (lb) w1 (HL.out.keep (HB.out.trans (hS.mono HB.out.size)) HSZ.out) (Nat.le_trans HLB.out (by decide)) (HSB.out.keep (HB.out.trans (hS.mono HB.out.size)))) (fun v w' hr hb => ⟨hS.trans (hb.mono hS.size), Flz.of hb, (show Us w' (updF f 3 v 3) (srt ((lb).map fewS)) by rw [updF_self]; exact hr)⟩)
      · intro f w1 hS hf
        generalize hA : putAll _ _ f = aA
        have hu1 : Us w1 (f 1) (srt ((la).map fewS)) := (hf 1 (by decide))
        have e38 : aA.eval (.tmp 38) = f 1 := by rw [← hA]; exact putAll_at f 38 1 slotsSaf5 a0 sbSaf5 (by kernel_rfl) zsz rfl rfl
        exact flw_val rfl rfl (f 1) (ex_assign (.tmp 38) rfl e38) hS (Flz.refl _) (show updF f 4 (f 1) 4 = updF f 4 (f 1) 1 by rw [updF_self, updF_ne f _ (by decide)])
      · intro f w1 hS hf
        generalize hA : putAll _ _ f = aA
        have hu3 : Us w1 (f 3) (srt ((lb).map fewS)) := (hf 3 (by decide))
        have e40 : aA.eval (.tmp 40) = f 3 := by rw [← hA]; exact putAll_at f 40 3 slotsSaf5 a0 sbSaf5 (by kernel_rfl) zsz rfl rfl
        exact flw_val rfl rfl (f 3) (ex_assign (.tmp 40) rfl e40) hS (Flz.refl _) (show updF f 5 (f 3) 5 = updF f 5 (f 3) 3 by rw [updF_self, updF_ne f _ (by decide)])
    intro f u5 hS hf hap
    have h0 : f 0 = .slice qa la.length ca := hf 0 (by decide)
    obtain ⟨v5_1, h1, hu1⟩ : ∃ v, f 1 = v ∧ Us u5 v (srt ((la).map fewS)) := ⟨_, rfl, (hf 1 (by decide))⟩
    have HU5_1 := Lib.hid hu1
    clear hu1
    have h2 : f 2 = .slice qb lb.length cb := hf 2 (by decide)
    obtain ⟨v5_3, h3, hu3⟩ : ∃ v, f 3 = v ∧ Us u5 v (srt ((lb).map fewS)) := ⟨_, rfl, (hf 3 (by decide))⟩
    have HU5_3 := Lib.hid hu3
    clear hu3
    have h4 : f 4 = v5_1 := Eq.trans (hf 4 (by decide)) h1
    have h5 : f 5 = v5_3 := Eq.trans (hf 5 (by decide)) h3
    clear hf hap
    clear zsz z2 z3
    subst ha0
    simp only [slotsSaf5, putAll, h0, h1, h2, h3, h4, h5, Act.put, List.setIfInBounds_toArray, List.set_cons_zero, List.set_cons_succ]
    clear h0 h1 h2 h3 h4 h5
    refine tl_nil ?_
    replace HB := Lib.hid (HB.out.trans (hS.mono HB.out.size))
    clear hS
    go_upto_region 6 with fail
    refine wp_act (fun a0 ha0 => ?_)
    have zsz : a0.tmps.size = 124 := by rw [ha0]; rfl
    have z0 : a0.eval (.tmp 0) = .int .u64 (s : Int) := by rw [ha0]; rfl
    have z1 : a0.eval (.tmp 1) = .int .i64 n := by rw [ha0]; rfl
    have z9 : a0.eval (.tmp 9) = v5_1 := by rw [ha0]; rfl
    refine wp_region_flwo (E := Flz) [] slotsSaf6 waitSaf6 [Fct.val Flz 0 (.int .u64 (s : Int)), Fct.val Flz 1 (.int .i64 n), Fct.val Flz 2 (v5_1), Fct.obj 3 (fun v w => ∃ zz, v = .tuple #[.agg #[.int .u64 0, zz], .int .i64 1] ∧ Cs w zz (([] : List Ce))) (fun _ _ _ ⟨zz, a, b⟩ he => ⟨zz, a, b.flz he⟩), Fct.obj 4 (fun v w => ∃ zz, v = .tuple #[.agg #[.int .u64 0, zz], .int .i64 1] ∧ Cs w zz (([] : List Ce))) (fun _ _ _ ⟨zz, a, b⟩ he => ⟨zz, a, b.flz he⟩), Fct.obj 5 (fun v w => ∃ zz, v = .agg #[.int .u64 0, zz] ∧ Cs w zz (([] : List Ce))) (fun _ _ _ ⟨zz, a, b⟩ he => ⟨zz, a, b.flz he⟩), Fct.val Flz 6 (.int .i64 1), Fct.obj 7 (fun v w => ∃ g, v = .pointer (some ⟨g, 0, none⟩) ∧ u5.heap.size ≤ g ∧ Has w g 26 ([.int .u64 0, .slice none 0 0])) (fun _ _ _ ⟨g, a, b, c⟩ he => ⟨g, a, b, c.flz he (by decide)⟩)] (fun w' => Below u5.heap.size u5 w') _ 8 2 chkSaf6 (by kernel_rfl) (by kernel_rfl) (by kernel_rfl) (by decide) (Below.refl _ _) ?_ ?_
    · refine lt_s (lt_s (lt_s (lt_s (lt_s (lt_s (lt_s (lt_s (lt_0) ?_) ?_) ?_) ?_) ?_) ?_) ?_) ?_
      · intro f w1 hS hf
        generalize hA : putAll _ _ f = aA
        have r0 : aA.eval (.tmp 0) = .int .u64 (s : Int) := by rw [← hA]; exact putAll_off f 0 slotsSaf6 a0 (by kernel_rfl) z0
        exact flw_val rfl rfl (.int .u64 (s : Int)) (ex_move (.tmp 0) rfl r0) hS (Flz.refl _) (updF_self _ _ _)
      · intro f w1 hS hf
        generalize hA : putAll _ _ f = aA
        have r1 : aA.eval (.tmp 1) = .int .i64 n := by rw [← hA]; exact putAll_off f 1 slotsSaf6 a0 (by kernel_rfl) z1
        exact flw_val rfl rfl (.int .i64 n) (ex_move (.tmp 1) rfl r1) hS (Flz.refl _) (updF_self _ _ _)
      · intro f w1 hS hf
        generalize hA : putAll _ _ f = aA
        have r9 : aA.eval (.tmp 9) = v5_1 := by rw [← hA]; exact putAll_off f 9 slotsSaf6 a0 (by kernel_rfl) z9
        exact flw_val rfl rfl (v5_1) (ex_move (.tmp 9) rfl r9) hS (Flz.refl _) (updF_self _ _ _)
      · intro f w1 hS hf
        generalize hA : putAll _ _ f = aA
        have h42 : f 0 = .int .u64 (s : Int) := hf 0 (by decide)
        have r42 : aA.eval (.tmp 42) = .int .u64 (s : Int) := by rw [← hA]; exact putAll_at f 42 0 slotsSaf6 a0 sbSaf6 (by kernel_rfl) zsz rfl h42
        have h43 : f 1 = .int .i64 n := hf 1 (by decide)
        have r43 : aA.eval (.tmp 43) = .int .i64 n := by rw [← hA]; exact putAll_at f 43 1 slotsSaf6 a0 sbSaf6 (by kernel_rfl) zsz rfl h43
        have h44 : f 2 = v5_1 := hf 2 (by decide)
        have r44 : aA.eval (.tmp 44) = v5_1 := by rw [← hA]; exact putAll_at f 44 2 slotsSaf6 a0 sbSaf6 (by kernel_rfl) zsz rfl h44
        exact flw_call rfl rfl 9 #[(.tmp 42), (.tmp 43), (.tmp 44)] _ rfl #[.int .u64 (s : Int), .int .i64 n, v5_1] (by simp only [List.map_toArray, List.map_cons, List.map_nil, r42, r43, r44]) (fun w => by kernel_rfl) (fun v w' => ∃ zz, v = .tuple #[.agg #[.int .u64 0, zz], .int .i64 1] ∧ Cs w' zz (([] : List Ce))) (of_f s n _ _ HGD.out w1 HSD.out (HL.out.keep (HB.out.trans (hS.mono HB.out.size)) HSZ.out) HLX.out (HU5_1.out.keep hS)) (fun v w' hr hb => ⟨hS.trans (hb.mono hS.size), Flz.of hb, by obtain ⟨zz, a, b⟩ := hr; exact ⟨zz, (updF_self _ _ _).trans a, b⟩⟩)
      · intro f w1 hS hf
        generalize hA : putAll _ _ f = aA
        obtain ⟨x45, hx45, hr45⟩ := hf 3 (by decide)
        have e45 : aA.eval (.tmp 45) = .tuple #[.agg #[.int .u64 0, x45], .int .i64 1] := by rw [← hA]; exact putAll_at f 45 3 slotsSaf6 a0 sbSaf6 (by kernel_rfl) zsz rfl hx45
        exact flw_val rfl rfl (.tuple #[.agg #[.int .u64 0, x45], .int .i64 1]) (ex_move (.tmp 45) rfl e45) hS (Flz.refl _) ⟨x45, updF_self _ _ _, hr45⟩
      · intro f w1 hS hf
        generalize hA : putAll _ _ f = aA
        obtain ⟨x41, hx41, hr41⟩ := hf 4 (by decide)
        have e41 : aA.eval (.tmp 41) = .tuple #[.agg #[.int .u64 0, x41], .int .i64 1] := by rw [← hA]; exact putAll_at f 41 4 slotsSaf6 a0 sbSaf6 (by kernel_rfl) zsz rfl hx41
        exact flw_val rfl rfl (.agg #[.int .u64 0, x41]) (ex_extract (.tmp 41) 0 rfl e41 rfl) hS (Flz.refl _) ⟨x41, updF_self _ _ _, hr41⟩
      · intro f w1 hS hf
        generalize hA : putAll _ _ f = aA
        obtain ⟨x41, hx41, hr41⟩ := hf 4 (by decide)
        have e41 : aA.eval (.tmp 41) = .tuple #[.agg #[.int .u64 0, x41], .int .i64 1] := by rw [← hA]; exact putAll_at f 41 4 slotsSaf6 a0 sbSaf6 (by kernel_rfl) zsz rfl hx41
        exact flw_val rfl rfl (.int .i64 1) (ex_extract (.tmp 41) 1 rfl e41 rfl) hS (Flz.refl _) (updF_self _ _ _)
      · intro f w1 hS hf
        generalize hA : putAll _ _ f = aA
        exact flw_wp rfl rfl (fun K hK => wp_alloc_row 26 rfl (.agg #[.int .u64 0, .slice none 0 0]) (fun w => by kernel_rfl) (hK _ _ (hS.alloc hS.size _) (Flz.al _ _) ⟨_, updF_self _ _ _, hS.size, Has.made' _ _ _ _ rfl⟩))
    intro f x6 hS hf hap
    have h0 : f 0 = .int .u64 (s : Int) := hf 0 (by decide)
    have h1 : f 1 = .int .i64 n := hf 1 (by decide)
    have h2 : f 2 = v5_1 := hf 2 (by decide)
    obtain ⟨v6_3, h3, -⟩ := hf 3 (by decide)
    obtain ⟨v6_4, h4, -⟩ := hf 4 (by decide)
    obtain ⟨v6_5, h5, hu5⟩ := hf 5 (by decide)
    have HU6_5 := Lib.hid hu5
    clear hu5
    have h6 : f 6 = .int .i64 1 := hf 6 (by decide)
    obtain ⟨b6_7, h7, hgb7, hhb7⟩ := hf 7 (by decide)
    clear hf hap
    clear zsz z0 z1 z9
    subst ha0
    simp only [slotsSaf6, putAll, h0, h1, h2, h3, h4, h5, h6, h7, Act.put, List.setIfInBounds_toArray, List.set_cons_zero, List.set_cons_succ]
    clear h0 h1 h2 h3 h4 h5 h6 h7
    refine tl_store rfl (by kernel_rfl) 26 (.tmp 11) (.tmp 46) rfl b6_7 ([.int .u64 0, v6_5]) _ rfl rfl _ hhb7 (by kernel_rfl) rfl (tb_ones _ HU6_5.out.one) ?_
    intro u6 hp7 hbl hot
    replace hS := hS.trans (hbl _ hgb7)
    replace HU6_5 := Lib.hid (HU6_5.out.hotb hhb7 ⟨_, _, _, rfl⟩ (by decide) (hbl 0 (Nat.zero_le _)).size hot)
    clear hbl hot hhb7
    try simp only [Act.put]
    refine tl_pure rfl (by kernel_rfl) (.int .i64 1) (ex_assign (.tmp 47) rfl rfl) ?_
    try simp only [Act.put, List.setIfInBounds_toArray, List.set_cons_zero, List.set_cons_succ]
    refine tl_nil ?_
    replace HU5_1 := Lib.hid (HU5_1.out.keep hS)
    replace HU5_3 := Lib.hid (HU5_3.out.keep hS)
    have HBW := Lib.hid HB.out.size
    replace HB := Lib.hid (HB.out.trans (hS.mono HB.out.size))
    clear hS
    have HGb6_7 : Hid (w.heap.size ≤ b6_7) := Lib.hid (Nat.le_trans HBW.out hgb7)
    have HX_b6_7 : Hid (Has u6 b6_7 26 ([.int .u64 0, v6_5])) := Lib.hid hp7
    clear hp7 hgb7
    clear HBW
    go_upto_region 7 with fail
    refine wp_act (fun a0 ha0 => ?_)
    have zsz : a0.tmps.size = 124 := by rw [ha0]; rfl
    have z0 : a0.eval (.tmp 0) = .int .u64 (s : Int) := by rw [ha0]; rfl
    have z1 : a0.eval (.tmp 1) = .int .i64 n := by rw [ha0]; rfl
    have z10 : a0.eval (.tmp 10) = v5_3 := by rw [ha0]; rfl
    refine wp_region_flwo (E := Flz) [] slotsSaf7 waitSaf7 [Fct.val Flz 0 (.int .u64 (s : Int)), Fct.val Flz 1 (.int .i64 n), Fct.val Flz 2 (v5_3), Fct.obj 3 (fun v w => ∃ zz, v = .tuple #[.agg #[.int .u64 0, zz], .int .i64 1] ∧ Cs w zz (([] : List Ce))) (fun _ _ _ ⟨zz, a, b⟩ he => ⟨zz, a, b.flz he⟩), Fct.obj 4 (fun v w => ∃ zz, v = .tuple #[.agg #[.int .u64 0, zz], .int .i64 1] ∧ Cs w zz (([] : List Ce))) (fun _ _ _ ⟨zz, a, b⟩ he => ⟨zz, a, b.flz he⟩), Fct.obj 5 (fun v w => ∃ zz, v = .agg #[.int .u64 0, zz] ∧ Cs w zz (([] : List Ce))) (fun _ _ _ ⟨zz, a, b⟩ he => ⟨zz, a, b.flz he⟩), Fct.val Flz 6 (.int .i64 1), Fct.obj 7 (fun v w => ∃ g, v = .pointer (some ⟨g, 0, none⟩) ∧ u6.heap.size ≤ g ∧ Has w g 26 ([.int .u64 0, .slice none 0 0])) (fun _ _ _ ⟨g, a, b, c⟩ he => ⟨g, a, b, c.flz he (by decide)⟩)] (fun w' => Below u6.heap.size u6 w') _ 8 2 chkSaf7 (by kernel_rfl) (by kernel_rfl) (by kernel_rfl) (by decide) (Below.refl _ _) ?_ ?_
    · refine lt_s (lt_s (lt_s (lt_s (lt_s (lt_s (lt_s (lt_s (lt_0) ?_) ?_) ?_) ?_) ?_) ?_) ?_) ?_
      · intro f w1 hS hf
        generalize hA : putAll _ _ f = aA
        have r0 : aA.eval (.tmp 0) = .int .u64 (s : Int) := by rw [← hA]; exact putAll_off f 0 slotsSaf7 a0 (by kernel_rfl) z0
        exact flw_val rfl rfl (.int .u64 (s : Int)) (ex_move (.tmp 0) rfl r0) hS (Flz.refl _) (updF_self _ _ _)
      · intro f w1 hS hf
        generalize hA : putAll _ _ f = aA
        have r1 : aA.eval (.tmp 1) = .int .i64 n := by rw [← hA]; exact putAll_off f 1 slotsSaf7 a0 (by kernel_rfl) z1
        exact flw_val rfl rfl (.int .i64 n) (ex_move (.tmp 1) rfl r1) hS (Flz.refl _) (updF_self _ _ _)
      · intro f w1 hS hf
        generalize hA : putAll _ _ f = aA
        have r10 : aA.eval (.tmp 10) = v5_3 := by rw [← hA]; exact putAll_off f 10 slotsSaf7 a0 (by kernel_rfl) z10
        exact flw_val rfl rfl (v5_3) (ex_move (.tmp 10) rfl r10) hS (Flz.refl _) (updF_self _ _ _)
      · intro f w1 hS hf
        generalize hA : putAll _ _ f = aA
        have h49 : f 0 = .int .u64 (s : Int) := hf 0 (by decide)
        have r49 : aA.eval (.tmp 49) = .int .u64 (s : Int) := by rw [← hA]; exact putAll_at f 49 0 slotsSaf7 a0 sbSaf7 (by kernel_rfl) zsz rfl h49
        have h50 : f 1 = .int .i64 n := hf 1 (by decide)
        have r50 : aA.eval (.tmp 50) = .int .i64 n := by rw [← hA]; exact putAll_at f 50 1 slotsSaf7 a0 sbSaf7 (by kernel_rfl) zsz rfl h50
        have h51 : f 2 = v5_3 := hf 2 (by decide)
        have r51 : aA.eval (.tmp 51) = v5_3 := by rw [← hA]; exact putAll_at f 51 2 slotsSaf7 a0 sbSaf7 (by kernel_rfl) zsz rfl h51
        exact flw_call rfl rfl 9 #[(.tmp 49), (.tmp 50), (.tmp 51)] _ rfl #[.int .u64 (s : Int), .int .i64 n, v5_3] (by simp only [List.map_toArray, List.map_cons, List.map_nil, r49, r50, r51]) (fun w => by kernel_rfl) (fun v w' => ∃ zz, v = .tuple #[.agg #[.int .u64 0, zz], .int .i64 1] ∧ Cs w' zz (([] : List Ce))) (of_f s n _ _ HGD.out w1 HSD.out (HL.out.keep (HB.out.trans (hS.mono HB.out.size)) HSZ.out) HLY.out (HU5_3.out.keep hS)) (fun v w' hr hb => ⟨hS.trans (hb.mono hS.size), Flz.of hb, by obtain ⟨zz, a, b⟩ := hr; exact ⟨zz, (updF_self _ _ _).trans a, b⟩⟩)
      · intro f w1 hS hf
        generalize hA : putAll _ _ f = aA
        obtain ⟨x52, hx52, hr52⟩ := hf 3 (by decide)
        have e52 : aA.eval (.tmp 52) = .tuple #[.agg #[.int .u64 0, x52], .int .i64 1] := by rw [← hA]; exact putAll_at f 52 3 slotsSaf7 a0 sbSaf7 (by kernel_rfl) zsz rfl hx52
        exact flw_val rfl rfl (.tuple #[.agg #[.int .u64 0, x52], .int .i64 1]) (ex_move (.tmp 52) rfl e52) hS (Flz.refl _) ⟨x52, updF_self _ _ _, hr52⟩
      · intro f w1 hS hf
        generalize hA : putAll _ _ f = aA
        obtain ⟨x48, hx48, hr48⟩ := hf 4 (by decide)
        have e48 : aA.eval (.tmp 48) = .tuple #[.agg #[.int .u64 0, x48], .int .i64 1] := by rw [← hA]; exact putAll_at f 48 4 slotsSaf7 a0 sbSaf7 (by kernel_rfl) zsz rfl hx48
        exact flw_val rfl rfl (.agg #[.int .u64 0, x48]) (ex_extract (.tmp 48) 0 rfl e48 rfl) hS (Flz.refl _) ⟨x48, updF_self _ _ _, hr48⟩
      · intro f w1 hS hf
        generalize hA : putAll _ _ f = aA
        obtain ⟨x48, hx48, hr48⟩ := hf 4 (by decide)
        have e48 : aA.eval (.tmp 48) = .tuple #[.agg #[.int .u64 0, x48], .int .i64 1] := by rw [← hA]; exact putAll_at f 48 4 slotsSaf7 a0 sbSaf7 (by kernel_rfl) zsz rfl hx48
        exact flw_val rfl rfl (.int .i64 1) (ex_extract (.tmp 48) 1 rfl e48 rfl) hS (Flz.refl _) (updF_self _ _ _)
      · intro f w1 hS hf
        generalize hA : putAll _ _ f = aA
        exact flw_wp rfl rfl (fun K hK => wp_alloc_row 26 rfl (.agg #[.int .u64 0, .slice none 0 0]) (fun w => by kernel_rfl) (hK _ _ (hS.alloc hS.size _) (Flz.al _ _) ⟨_, updF_self _ _ _, hS.size, Has.made' _ _ _ _ rfl⟩))
    intro f x7 hS hf hap
    have h0 : f 0 = .int .u64 (s : Int) := hf 0 (by decide)
    have h1 : f 1 = .int .i64 n := hf 1 (by decide)
    have h2 : f 2 = v5_3 := hf 2 (by decide)
    obtain ⟨v7_3, h3, -⟩ := hf 3 (by decide)
    obtain ⟨v7_4, h4, -⟩ := hf 4 (by decide)
    obtain ⟨v7_5, h5, hu5⟩ := hf 5 (by decide)
    have HU7_5 := Lib.hid hu5
    clear hu5
    have h6 : f 6 = .int .i64 1 := hf 6 (by decide)
    obtain ⟨b7_7, h7, hgb7, hhb7⟩ := hf 7 (by decide)
    clear hf hap
    clear zsz z0 z1 z10
    subst ha0
    simp only [slotsSaf7, putAll, h0, h1, h2, h3, h4, h5, h6, h7, Act.put, List.setIfInBounds_toArray, List.set_cons_zero, List.set_cons_succ]
    clear h0 h1 h2 h3 h4 h5 h6 h7
    refine tl_store rfl (by kernel_rfl) 26 (.tmp 13) (.tmp 53) rfl b7_7 ([.int .u64 0, v7_5]) _ rfl rfl _ hhb7 (by kernel_rfl) rfl (tb_ones _ HU7_5.out.one) ?_
    intro u7 hp7 hbl hot
    replace hS := hS.trans (hbl _ hgb7)
    replace HU7_5 := Lib.hid (HU7_5.out.hotb hhb7 ⟨_, _, _, rfl⟩ (by decide) (hbl 0 (Nat.zero_le _)).size hot)
    clear hbl hot hhb7
    try simp only [Act.put]
    refine tl_pure rfl (by kernel_rfl) (.int .i64 1) (ex_assign (.tmp 54) rfl rfl) ?_
    try simp only [Act.put, List.setIfInBounds_toArray, List.set_cons_zero, List.set_cons_succ]
    refine tl_nil ?_
    replace HU5_1 := Lib.hid (HU5_1.out.keep hS)
    replace HU5_3 := Lib.hid (HU5_3.out.keep hS)
    replace HX_b6_7 := Lib.hid (HX_b6_7.out.keepB hS)
    replace HU6_5 := Lib.hid (HU6_5.out.keep hS)
    have HBW := Lib.hid HB.out.size
    replace HB := Lib.hid (HB.out.trans (hS.mono HB.out.size))
    clear hS
    have HGb7_7 : Hid (w.heap.size ≤ b7_7) := Lib.hid (Nat.le_trans HBW.out hgb7)
    have HX_b7_7 : Hid (Has u7 b7_7 26 ([.int .u64 0, v7_5])) := Lib.hid hp7
    clear hp7 hgb7
    clear HBW
    go_upto_region 8 with fail
    refine wp_act (fun a0 ha0 => ?_)
    have zsz : a0.tmps.size = 124 := by rw [ha0]; rfl
    have z12 : a0.eval (.tmp 12) = .int .i64 1 := by rw [ha0]; rfl
    refine wp_region_flwo (E := Flz) [] slotsSaf8 waitSaf8 [Fct.val Flz 0 (.int .i64 1), Fct.val Flz 1 (.bool true), Fct.val Flz 2 (.bool true), Fct.val Flz 3 (undef), Fct.val Flz 4 (undef), Fct.val Flz 5 (.bool true)] (fun w' => Below u7.heap.size u7 w') _ 6 0 chkSaf8 (by kernel_rfl) (by kernel_rfl) (by kernel_rfl) (by decide) (Below.refl _ _) ?_ ?_
    · refine lt_s (lt_s (lt_s (lt_s (lt_s (lt_s (lt_0) ?_) ?_) ?_) ?_) ?_) ?_
      · intro f w1 hS hf
        generalize hA : putAll _ _ f = aA
        have r12 : aA.eval (.tmp 12) = .int .i64 1 := by rw [← hA]; exact putAll_off f 12 slotsSaf8 a0 (by kernel_rfl) z12
        exact flw_val rfl rfl (.int .i64 1) (ex_move (.tmp 12) rfl r12) hS (Flz.refl _) (updF_self _ _ _)
      · intro f w1 hS hf
        generalize hA : putAll _ _ f = aA
        have h55 : f 0 = .int .i64 1 := hf 0 (by decide)
        have r55 : aA.eval (.tmp 55) = .int .i64 1 := by rw [← hA]; exact putAll_at f 55 0 slotsSaf8 a0 sbSaf8 (by kernel_rfl) zsz rfl h55
        exact flw_val rfl rfl (.bool true) (Eq.trans (ex_int .neq _ _ (.tmp 55) _ rfl .i64 1 0 r55 rfl (.bool ((1 : Int) != (0 : Int))) (fun _ => rfl)) (by rw [(by decide : ((1 : Int) != (0 : Int)) = true)])) hS (Flz.refl _) (updF_self _ _ _)
      · intro f w1 hS hf
        generalize hA : putAll _ _ f = aA
        have h56 : f 1 = .bool true := hf 1 (by decide)
        have r56 : aA.eval (.tmp 56) = .bool true := by rw [← hA]; exact putAll_at f 56 1 slotsSaf8 a0 sbSaf8 (by kernel_rfl) zsz rfl h56
        exact flw_val rfl rfl (.bool true) (ex_move (.tmp 56) rfl r56) hS (Flz.refl _) (updF_self _ _ _)
      · intro f w1 hS hf
        generalize hA : putAll _ _ f = aA
        have g57 : f 2 = .bool true := hf 2 (by decide)
        have t57 : aA.tmps[57]? = some (.bool true) := by rw [← hA]; exact putAll_g f 57 2 slotsSaf8 a0 sbSaf8 (by kernel_rfl) zsz rfl g57
        exact flw_skip rfl ((wanted_of rfl 57 rfl t57).trans rfl) hS (Flz.refl _) (updF_self _ _ _)
      · intro f w1 hS hf
        generalize hA : putAll _ _ f = aA
        have g57 : f 2 = .bool true := hf 2 (by decide)
        have t57 : aA.tmps[57]? = some (.bool true) := by rw [← hA]; exact putAll_g f 57 2 slotsSaf8 a0 sbSaf8 (by kernel_rfl) zsz rfl g57
        exact flw_skip rfl ((wanted_of rfl 57 rfl t57).trans rfl) hS (Flz.refl _) (updF_self _ _ _)
      · intro f w1 hS hf
        generalize hA : putAll _ _ f = aA
        have h57 : f 2 = .bool true := hf 2 (by decide)
        have r57 : aA.eval (.tmp 57) = .bool true := by rw [← hA]; exact putAll_at f 57 2 slotsSaf8 a0 sbSaf8 (by kernel_rfl) zsz rfl h57
        exact flw_val rfl rfl (.bool true) (ex_pick (.tmp 57) _ (.tmp 59) rfl true r57 ((if_pos rfl).trans rfl)) hS (Flz.refl _) (updF_self _ _ _)
    intro f u8 hS hf hap
    have h0 : f 0 = .int .i64 1 := hf 0 (by decide)
    have h1 : f 1 = .bool true := hf 1 (by decide)
    have h2 : f 2 = .bool true := hf 2 (by decide)
    have h3 : f 3 = undef := hf 3 (by decide)
    have h4 : f 4 = undef := hf 4 (by decide)
    have h5 : f 5 = .bool true := hf 5 (by decide)
    clear hf hap
    clear zsz z12
    subst ha0
    simp only [slotsSaf8, putAll, h0, h1, h2, h3, h4, h5, Act.put, List.setIfInBounds_toArray, List.set_cons_zero, List.set_cons_succ]
    clear h0 h1 h2 h3 h4 h5
    refine tl_nil ?_
    replace HU5_1 := Lib.hid (HU5_1.out.keep hS)
    replace HU5_3 := Lib.hid (HU5_3.out.keep hS)
    replace HX_b6_7 := Lib.hid (HX_b6_7.out.keepB hS)
    replace HU6_5 := Lib.hid (HU6_5.out.keep hS)
    replace HX_b7_7 := Lib.hid (HX_b7_7.out.keepB hS)
    replace HU7_5 := Lib.hid (HU7_5.out.keep hS)
    replace HB := Lib.hid (HB.out.trans (hS.mono HB.out.size))
    clear hS
    go_upto_region 9 with fail
    refine wp_act (fun a0 ha0 => ?_)
    have zsz : a0.tmps.size = 124 := by rw [ha0]; rfl
    have z12 : a0.eval (.tmp 12) = .int .i64 1 := by rw [ha0]; rfl
    have z14 : a0.eval (.tmp 14) = .int .i64 1 := by rw [ha0]; rfl
    refine wp_region_flwo (E := Flz) [] slotsSaf9 waitSaf9 [Fct.val Flz 0 (.int .i64 1), Fct.val Flz 1 (.int .i64 1), Fct.val Flz 2 (.bool true), Fct.val Flz 3 (.bool true)] (fun w' => Below u8.heap.size u8 w') _ 4 0 chkSaf9 (by kernel_rfl) (by kernel_rfl) (by kernel_rfl) (by decide) (Below.refl _ _) ?_ ?_
    · refine lt_s (lt_s (lt_s (lt_s (lt_0) ?_) ?_) ?_) ?_
      · intro f w1 hS hf
        generalize hA : putAll _ _ f = aA
        have r12 : aA.eval (.tmp 12) = .int .i64 1 := by rw [← hA]; exact putAll_off f 12 slotsSaf9 a0 (by kernel_rfl) z12
        exact flw_val rfl rfl (.int .i64 1) (ex_move (.tmp 12) rfl r12) hS (Flz.refl _) (updF_self _ _ _)
      · intro f w1 hS hf
        generalize hA : putAll _ _ f = aA
        have r14 : aA.eval (.tmp 14) = .int .i64 1 := by rw [← hA]; exact putAll_off f 14 slotsSaf9 a0 (by kernel_rfl) z14
        exact flw_val rfl rfl (.int .i64 1) (ex_move (.tmp 14) rfl r14) hS (Flz.refl _) (updF_self _ _ _)
      · intro f w1 hS hf
        generalize hA : putAll _ _ f = aA
        have h61 : f 0 = .int .i64 1 := hf 0 (by decide)
        have r61 : aA.eval (.tmp 61) = .int .i64 1 := by rw [← hA]; exact putAll_at f 61 0 slotsSaf9 a0 sbSaf9 (by kernel_rfl) zsz rfl h61
        have h62 : f 1 = .int .i64 1 := hf 1 (by decide)
        have r62 : aA.eval (.tmp 62) = .int .i64 1 := by rw [← hA]; exact putAll_at f 62 1 slotsSaf9 a0 sbSaf9 (by kernel_rfl) zsz rfl h62
        exact flw_val rfl rfl (.bool true) (Eq.trans (ex_int .eql _ _ (.tmp 61) (.tmp 62) rfl .i64 1 1 r61 r62 (.bool ((1 : Int) == (1 : Int))) (fun _ => rfl)) (by rw [(by decide : ((1 : Int) == (1 : Int)) = true)])) hS (Flz.refl _) (updF_self _ _ _)
      · intro f w1 hS hf
        generalize hA : putAll _ _ f = aA
        have h63 : f 2 = .bool true := hf 2 (by decide)
        have r63 : aA.eval (.tmp 63) = .bool true := by rw [← hA]; exact putAll_at f 63 2 slotsSaf9 a0 sbSaf9 (by kernel_rfl) zsz rfl h63
        exact flw_val rfl rfl (.bool true) (ex_assign (.tmp 63) rfl r63) hS (Flz.refl _) (updF_self _ _ _)
    intro f u9 hS hf hap
    have h0 : f 0 = .int .i64 1 := hf 0 (by decide)
    have h1 : f 1 = .int .i64 1 := hf 1 (by decide)
    have h2 : f 2 = .bool true := hf 2 (by decide)
    have h3 : f 3 = .bool true := hf 3 (by decide)
    clear hf hap
    clear zsz z12 z14
    subst ha0
    simp only [slotsSaf9, putAll, h0, h1, h2, h3, Act.put, List.setIfInBounds_toArray, List.set_cons_zero, List.set_cons_succ]
    clear h0 h1 h2 h3
    refine tl_nil ?_
    replace HU5_1 := Lib.hid (HU5_1.out.keep hS)
    replace HU5_3 := Lib.hid (HU5_3.out.keep hS)
    replace HX_b6_7 := Lib.hid (HX_b6_7.out.keepB hS)
    replace HU6_5 := Lib.hid (HU6_5.out.keep hS)
    replace HX_b7_7 := Lib.hid (HX_b7_7.out.keepB hS)
    replace HU7_5 := Lib.hid (HU7_5.out.keep hS)
    replace HB := Lib.hid (HB.out.trans (hS.mono HB.out.size))
    clear hS
    go_wp2_with fail
    go_ret
    exact ⟨rfl, HB.out⟩
  · obtain ⟨m, hm, hm3, hm4⟩ := good_int HGD.out
    have HM := Lib.hid hm
    have HM4 := Lib.hid hm4
    have HGM : Hid (goodN (m : Int) = true) := Lib.hid (by rw [← hm]; exact HGD.out)
    clear hm hm3 hm4
    go_upto_region 5 with fail
    refine wp_act (fun a0 ha0 => ?_)
    have zsz : a0.tmps.size = 124 := by rw [ha0]; rfl
    have z2 : a0.eval (.tmp 2) = .slice qa la.length ca := by rw [ha0]; rfl
    have z3 : a0.eval (.tmp 3) = .slice qb lb.length cb := by rw [ha0]; rfl
    refine wp_region_flwo (E := Flz) [] slotsSat5 waitSat5 [Fct.val Flz 0 (.slice qa la.length ca), Fct.obj 1 (fun v w => Us w v (srt ((la).map fewS))) (fun _ _ _ h he => h.flz he), Fct.val Flz 2 (.slice qb lb.length cb), Fct.obj 3 (fun v w => Us w v (srt ((lb).map fewS))) (fun _ _ _ h he => h.flz he), (⟨([4, 1], fun f _ => f 4 = f 1), fun f f' _ _ h _ hd => (show f' 4 = f' 1 by rw [hd 4 (by simp), hd 1 (by simp)]; exact h)⟩ : Fct Flz), (⟨([5, 3], fun f _ => f 5 = f 3), fun f f' _ _ h _ hd => (show f' 5 = f' 3 by rw [hd 5 (by simp), hd 3 (by simp)]; exact h)⟩ : Fct Flz)] (fun w' => Below u1.heap.size u1 w') _ 6 0 chkSat5 (by kernel_rfl) (by kernel_rfl) (by kernel_rfl) (by decide) (Below.refl _ _) ?_ ?_
    · refine lt_s (lt_s (lt_s (lt_s (lt_s (lt_s (lt_0) ?_) ?_) ?_) ?_) ?_) ?_
      · intro f w1 hS hf
        generalize hA : putAll _ _ f = aA
        have r2 : aA.eval (.tmp 2) = .slice qa la.length ca := by rw [← hA]; exact putAll_off f 2 slotsSat5 a0 (by kernel_rfl) z2
        exact flw_val rfl rfl (.slice qa la.length ca) (ex_move (.tmp 2) rfl r2) hS (Flz.refl _) (updF_self _ _ _)
      · intro f w1 hS hf
        generalize hA : putAll _ _ f = aA
        have h37 : f 0 = .slice qa la.length ca := hf 0 (by decide)
        have r37 : aA.eval (.tmp 37) = .slice qa la.length ca := by rw [← hA]; exact putAll_at f 37 0 slotsSat5 a0 sbSat5 (by kernel_rfl) zsz rfl h37
        exact flw_call rfl rfl 25 #[(.tmp 37)] _ rfl #[.slice qa la.length ca] (by simp only [List.map_toArray, List.map_cons, List.map_nil, r37]) (fun w => by kernel_rfl) (fun v w' => Us w' v (srt ((la).map fewS))) (few15_us _ (la) w1 (HL.out.keep (HB.out.trans (hS.mono HB.out.size)) HSZ.out) (Nat.le_trans HLA.out (by decide)) (HSA.out.keep (HB.out.trans (hS.mono HB.out.size)))) (fun v w' hr hb => ⟨hS.trans (hb.mono hS.size), Flz.of hb, (show Us w' (updF f 1 v 1) (srt ((la).map fewS)) by rw [updF_self]; exact hr)⟩)
      · intro f w1 hS hf
        generalize hA : putAll _ _ f = aA
        have r3 : aA.eval (.tmp 3) = .slice qb lb.length cb := by rw [← hA]; exact putAll_off f 3 slotsSat5 a0 (by kernel_rfl) z3
        exact flw_val rfl rfl (.slice qb lb.length cb) (ex_move (.tmp 3) rfl r3) hS (Flz.refl _) (updF_self _ _ _)
      · intro f w1 hS hf
        generalize hA : putAll _ _ f = aA
        have h39 : f 2 = .slice qb lb.length cb := hf 2 (by decide)
        have r39 : aA.eval (.tmp 39) = .slice qb lb.length cb := by rw [← hA]; exact putAll_at f 39 2 slotsSat5 a0 sbSat5 (by kernel_rfl) zsz rfl h39
        exact flw_call rfl rfl 25 #[(.tmp 39)] _ rfl #[.slice qb lb.length cb] (by simp only [List.map_toArray, List.map_cons, List.map_nil, r39]) (fun w => by kernel_rfl) (fun v w' => Us w' v (srt ((lb).map fewS))) (few15_us _ (lb) w1 (HL.out.keep (HB.out.trans (hS.mono HB.out.size)) HSZ.out) (Nat.le_trans HLB.out (by decide)) (HSB.out.keep (HB.out.trans (hS.mono HB.out.size)))) (fun v w' hr hb => ⟨hS.trans (hb.mono hS.size), Flz.of hb, (show Us w' (updF f 3 v 3) (srt ((lb).map fewS)) by rw [updF_self]; exact hr)⟩)
      · intro f w1 hS hf
        generalize hA : putAll _ _ f = aA
        have hu1 : Us w1 (f 1) (srt ((la).map fewS)) := (hf 1 (by decide))
        have e38 : aA.eval (.tmp 38) = f 1 := by rw [← hA]; exact putAll_at f 38 1 slotsSat5 a0 sbSat5 (by kernel_rfl) zsz rfl rfl
        exact flw_val rfl rfl (f 1) (ex_assign (.tmp 38) rfl e38) hS (Flz.refl _) (show updF f 4 (f 1) 4 = updF f 4 (f 1) 1 by rw [updF_self, updF_ne f _ (by decide)])
      · intro f w1 hS hf
        generalize hA : putAll _ _ f = aA
        have hu3 : Us w1 (f 3) (srt ((lb).map fewS)) := (hf 3 (by decide))
        have e40 : aA.eval (.tmp 40) = f 3 := by rw [← hA]; exact putAll_at f 40 3 slotsSat5 a0 sbSat5 (by kernel_rfl) zsz rfl rfl
        exact flw_val rfl rfl (f 3) (ex_assign (.tmp 40) rfl e40) hS (Flz.refl _) (show updF f 5 (f 3) 5 = updF f 5 (f 3) 3 by rw [updF_self, updF_ne f _ (by decide)])
    intro f u5 hS hf hap
    have h0 : f 0 = .slice qa la.length ca := hf 0 (by decide)
    obtain ⟨v5_1, h1, hu1⟩ : ∃ v, f 1 = v ∧ Us u5 v (srt ((la).map fewS)) := ⟨_, rfl, (hf 1 (by decide))⟩
    have HU5_1 := Lib.hid hu1
    clear hu1
    have h2 : f 2 = .slice qb lb.length cb := hf 2 (by decide)
    obtain ⟨v5_3, h3, hu3⟩ : ∃ v, f 3 = v ∧ Us u5 v (srt ((lb).map fewS)) := ⟨_, rfl, (hf 3 (by decide))⟩
    have HU5_3 := Lib.hid hu3
    clear hu3
    have h4 : f 4 = v5_1 := Eq.trans (hf 4 (by decide)) h1
    have h5 : f 5 = v5_3 := Eq.trans (hf 5 (by decide)) h3
    clear hf hap
    clear zsz z2 z3
    subst ha0
    simp only [slotsSat5, putAll, h0, h1, h2, h3, h4, h5, Act.put, List.setIfInBounds_toArray, List.set_cons_zero, List.set_cons_succ]
    clear h0 h1 h2 h3 h4 h5
    refine tl_nil ?_
    replace HB := Lib.hid (HB.out.trans (hS.mono HB.out.size))
    clear hS
    go_upto_region 6 with fail
    refine wp_act (fun a0 ha0 => ?_)
    have zsz : a0.tmps.size = 124 := by rw [ha0]; rfl
    have z0 : a0.eval (.tmp 0) = .int .u64 (s : Int) := by rw [ha0]; rfl
    have z1 : a0.eval (.tmp 1) = .int .i64 n := by rw [ha0]; rfl
    have z9 : a0.eval (.tmp 9) = v5_1 := by rw [ha0]; rfl
    refine wp_region_flwo (E := Flz) [] slotsSat6 waitSat6 [Fct.val Flz 0 (.int .u64 (s : Int)), Fct.val Flz 1 (.int .i64 n), Fct.val Flz 2 (v5_1), Fct.obj 3 (fun v w => ∃ zz, v = .tuple #[.agg #[.int .u64 (s : Int), zz], .int .i64 0] ∧ Cs w zz (tab s m (srt ((la).map fewS)))) (fun _ _ _ ⟨zz, a, b⟩ he => ⟨zz, a, b.flz he⟩), Fct.obj 4 (fun v w => ∃ zz, v = .tuple #[.agg #[.int .u64 (s : Int), zz], .int .i64 0] ∧ Cs w zz (tab s m (srt ((la).map fewS)))) (fun _ _ _ ⟨zz, a, b⟩ he => ⟨zz, a, b.flz he⟩), Fct.obj 5 (fun v w => ∃ zz, v = .agg #[.int .u64 (s : Int), zz] ∧ Cs w zz (tab s m (srt ((la).map fewS)))) (fun _ _ _ ⟨zz, a, b⟩ he => ⟨zz, a, b.flz he⟩), Fct.val Flz 6 (.int .i64 0), Fct.obj 7 (fun v w => ∃ g, v = .pointer (some ⟨g, 0, none⟩) ∧ u5.heap.size ≤ g ∧ Has w g 26 ([.int .u64 0, .slice none 0 0])) (fun _ _ _ ⟨g, a, b, c⟩ he => ⟨g, a, b, c.flz he (by decide)⟩)] (fun w' => Below u5.heap.size u5 w') _ 8 2 chkSat6 (by kernel_rfl) (by kernel_rfl) (by kernel_rfl) (by decide) (Below.refl _ _) ?_ ?_
    · refine lt_s (lt_s (lt_s (lt_s (lt_s (lt_s (lt_s (lt_s (lt_0) ?_) ?_) ?_) ?_) ?_) ?_) ?_) ?_
      · intro f w1 hS hf
        generalize hA : putAll _ _ f = aA
        have r0 : aA.eval (.tmp 0) = .int .u64 (s : Int) := by rw [← hA]; exact putAll_off f 0 slotsSat6 a0 (by kernel_rfl) z0
        exact flw_val rfl rfl (.int .u64 (s : Int)) (ex_move (.tmp 0) rfl r0) hS (Flz.refl _) (updF_self _ _ _)
      · intro f w1 hS hf
        generalize hA : putAll _ _ f = aA
        have r1 : aA.eval (.tmp 1) = .int .i64 n := by rw [← hA]; exact putAll_off f 1 slotsSat6 a0 (by kernel_rfl) z1
        exact flw_val rfl rfl (.int .i64 n) (ex_move (.tmp 1) rfl r1) hS (Flz.refl _) (updF_self _ _ _)
      · intro f w1 hS hf
        generalize hA : putAll _ _ f = aA
        have r9 : aA.eval (.tmp 9) = v5_1 := by rw [← hA]; exact putAll_off f 9 slotsSat6 a0 (by kernel_rfl) z9
        exact flw_val rfl rfl (v5_1) (ex_move (.tmp 9) rfl r9) hS (Flz.refl _) (updF_self _ _ _)
      · intro f w1 hS hf
        generalize hA : putAll _ _ f = aA
        have h42 : f 0 = .int .u64 (s : Int) := hf 0 (by decide)
        have r42 : aA.eval (.tmp 42) = .int .u64 (s : Int) := by rw [← hA]; exact putAll_at f 42 0 slotsSat6 a0 sbSat6 (by kernel_rfl) zsz rfl h42
        have h43 : f 1 = .int .i64 n := hf 1 (by decide)
        have r43 : aA.eval (.tmp 43) = .int .i64 n := by rw [← hA]; exact putAll_at f 43 1 slotsSat6 a0 sbSat6 (by kernel_rfl) zsz rfl h43
        have h44 : f 2 = v5_1 := hf 2 (by decide)
        have r44 : aA.eval (.tmp 44) = v5_1 := by rw [← hA]; exact putAll_at f 44 2 slotsSat6 a0 sbSat6 (by kernel_rfl) zsz rfl h44
        exact flw_call rfl rfl 9 #[(.tmp 42), (.tmp 43), (.tmp 44)] _ rfl #[.int .u64 (s : Int), .int .i64 n, v5_1] (by simp only [List.map_toArray, List.map_cons, List.map_nil, r42, r43, r44]) (fun w => by kernel_rfl) (fun v w' => ∃ zz, v = .tuple #[.agg #[.int .u64 (s : Int), zz], .int .i64 0] ∧ Cs w' zz (tab s m (srt ((la).map fewS)))) (ofA_t s n  m _ _ HGD.out HM.out (asc_few _) w1 HSD.out (HL.out.keep (HB.out.trans (hS.mono HB.out.size)) HSZ.out) HLX.out (HU5_1.out.keep hS)) (fun v w' hr hb => ⟨hS.trans (hb.mono hS.size), Flz.of hb, by obtain ⟨zz, a, b⟩ := hr; exact ⟨zz, (updF_self _ _ _).trans a, b⟩⟩)
      · intro f w1 hS hf
        generalize hA : putAll _ _ f = aA
        obtain ⟨x45, hx45, hr45⟩ := hf 3 (by decide)
        have e45 : aA.eval (.tmp 45) = .tuple #[.agg #[.int .u64 (s : Int), x45], .int .i64 0] := by rw [← hA]; exact putAll_at f 45 3 slotsSat6 a0 sbSat6 (by kernel_rfl) zsz rfl hx45
        exact flw_val rfl rfl (.tuple #[.agg #[.int .u64 (s : Int), x45], .int .i64 0]) (ex_move (.tmp 45) rfl e45) hS (Flz.refl _) ⟨x45, updF_self _ _ _, hr45⟩
      · intro f w1 hS hf
        generalize hA : putAll _ _ f = aA
        obtain ⟨x41, hx41, hr41⟩ := hf 4 (by decide)
        have e41 : aA.eval (.tmp 41) = .tuple #[.agg #[.int .u64 (s : Int), x41], .int .i64 0] := by rw [← hA]; exact putAll_at f 41 4 slotsSat6 a0 sbSat6 (by kernel_rfl) zsz rfl hx41
        exact flw_val rfl rfl (.agg #[.int .u64 (s : Int), x41]) (ex_extract (.tmp 41) 0 rfl e41 rfl) hS (Flz.refl _) ⟨x41, updF_self _ _ _, hr41⟩
      · intro f w1 hS hf
        generalize hA : putAll _ _ f = aA
        obtain ⟨x41, hx41, hr41⟩ := hf 4 (by decide)
        have e41 : aA.eval (.tmp 41) = .tuple #[.agg #[.int .u64 (s : Int), x41], .int .i64 0] := by rw [← hA]; exact putAll_at f 41 4 slotsSat6 a0 sbSat6 (by kernel_rfl) zsz rfl hx41
        exact flw_val rfl rfl (.int .i64 0) (ex_extract (.tmp 41) 1 rfl e41 rfl) hS (Flz.refl _) (updF_self _ _ _)
      · intro f w1 hS hf
        generalize hA : putAll _ _ f = aA
        exact flw_wp rfl rfl (fun K hK => wp_alloc_row 26 rfl (.agg #[.int .u64 0, .slice none 0 0]) (fun w => by kernel_rfl) (hK _ _ (hS.alloc hS.size _) (Flz.al _ _) ⟨_, updF_self _ _ _, hS.size, Has.made' _ _ _ _ rfl⟩))
    intro f x6 hS hf hap
    have h0 : f 0 = .int .u64 (s : Int) := hf 0 (by decide)
    have h1 : f 1 = .int .i64 n := hf 1 (by decide)
    have h2 : f 2 = v5_1 := hf 2 (by decide)
    obtain ⟨v6_3, h3, -⟩ := hf 3 (by decide)
    obtain ⟨v6_4, h4, -⟩ := hf 4 (by decide)
    obtain ⟨v6_5, h5, hu5⟩ := hf 5 (by decide)
    have HU6_5 := Lib.hid hu5
    clear hu5
    have h6 : f 6 = .int .i64 0 := hf 6 (by decide)
    obtain ⟨b6_7, h7, hgb7, hhb7⟩ := hf 7 (by decide)
    clear hf hap
    clear zsz z0 z1 z9
    subst ha0
    simp only [slotsSat6, putAll, h0, h1, h2, h3, h4, h5, h6, h7, Act.put, List.setIfInBounds_toArray, List.set_cons_zero, List.set_cons_succ]
    clear h0 h1 h2 h3 h4 h5 h6 h7
    refine tl_store rfl (by kernel_rfl) 26 (.tmp 11) (.tmp 46) rfl b6_7 ([.int .u64 (s : Int), v6_5]) _ rfl rfl _ hhb7 (by kernel_rfl) rfl (tb_ones _ HU6_5.out.one) ?_
    intro u6 hp7 hbl hot
    replace hS := hS.trans (hbl _ hgb7)
    replace HU6_5 := Lib.hid (HU6_5.out.hotb hhb7 ⟨_, _, _, rfl⟩ (by decide) (hbl 0 (Nat.zero_le _)).size hot)
    clear hbl hot hhb7
    try simp only [Act.put]
    refine tl_pure rfl (by kernel_rfl) (.int .i64 0) (ex_assign (.tmp 47) rfl rfl) ?_
    try simp only [Act.put, List.setIfInBounds_toArray, List.set_cons_zero, List.set_cons_succ]
    refine tl_nil ?_
    replace HU5_1 := Lib.hid (HU5_1.out.keep hS)
    replace HU5_3 := Lib.hid (HU5_3.out.keep hS)
    have HBW := Lib.hid HB.out.size
    replace HB := Lib.hid (HB.out.trans (hS.mono HB.out.size))
    clear hS
    have HGb6_7 : Hid (w.heap.size ≤ b6_7) := Lib.hid (Nat.le_trans HBW.out hgb7)
    have HX_b6_7 : Hid (Has u6 b6_7 26 ([.int .u64 (s : Int), v6_5])) := Lib.hid hp7
    clear hp7 hgb7
    clear HBW
    go_upto_region 7 with fail
    refine wp_act (fun a0 ha0 => ?_)
    have zsz : a0.tmps.size = 124 := by rw [ha0]; rfl
    have z0 : a0.eval (.tmp 0) = .int .u64 (s : Int) := by rw [ha0]; rfl
    have z1 : a0.eval (.tmp 1) = .int .i64 n := by rw [ha0]; rfl
    have z10 : a0.eval (.tmp 10) = v5_3 := by rw [ha0]; rfl
    refine wp_region_flwo (E := Flz) [] slotsSat7 waitSat7 [Fct.val Flz 0 (.int .u64 (s : Int)), Fct.val Flz 1 (.int .i64 n), Fct.val Flz 2 (v5_3), Fct.obj 3 (fun v w => ∃ zz, v = .tuple #[.agg #[.int .u64 (s : Int), zz], .int .i64 0] ∧ Cs w zz (tab s m (srt ((lb).map fewS)))) (fun _ _ _ ⟨zz, a, b⟩ he => ⟨zz, a, b.flz he⟩), Fct.obj 4 (fun v w => ∃ zz, v = .tuple #[.agg #[.int .u64 (s : Int), zz], .int .i64 0] ∧ Cs w zz (tab s m (srt ((lb).map fewS)))) (fun _ _ _ ⟨zz, a, b⟩ he => ⟨zz, a, b.flz he⟩), Fct.obj 5 (fun v w => ∃ zz, v = .agg #[.int .u64 (s : Int), zz] ∧ Cs w zz (tab s m (srt ((lb).map fewS)))) (fun _ _ _ ⟨zz, a, b⟩ he => ⟨zz, a, b.flz he⟩), Fct.val Flz 6 (.int .i64 0), Fct.obj 7 (fun v w => ∃ g, v = .pointer (some ⟨g, 0, none⟩) ∧ u6.heap.size ≤ g ∧ Has w g 26 ([.int .u64 0, .slice none 0 0])) (fun _ _ _ ⟨g, a, b, c⟩ he => ⟨g, a, b, c.flz he (by decide)⟩)] (fun w' => Below u6.heap.size u6 w') _ 8 2 chkSat7 (by kernel_rfl) (by kernel_rfl) (by kernel_rfl) (by decide) (Below.refl _ _) ?_ ?_
    · refine lt_s (lt_s (lt_s (lt_s (lt_s (lt_s (lt_s (lt_s (lt_0) ?_) ?_) ?_) ?_) ?_) ?_) ?_) ?_
      · intro f w1 hS hf
        generalize hA : putAll _ _ f = aA
        have r0 : aA.eval (.tmp 0) = .int .u64 (s : Int) := by rw [← hA]; exact putAll_off f 0 slotsSat7 a0 (by kernel_rfl) z0
        exact flw_val rfl rfl (.int .u64 (s : Int)) (ex_move (.tmp 0) rfl r0) hS (Flz.refl _) (updF_self _ _ _)
      · intro f w1 hS hf
        generalize hA : putAll _ _ f = aA
        have r1 : aA.eval (.tmp 1) = .int .i64 n := by rw [← hA]; exact putAll_off f 1 slotsSat7 a0 (by kernel_rfl) z1
        exact flw_val rfl rfl (.int .i64 n) (ex_move (.tmp 1) rfl r1) hS (Flz.refl _) (updF_self _ _ _)
      · intro f w1 hS hf
        generalize hA : putAll _ _ f = aA
        have r10 : aA.eval (.tmp 10) = v5_3 := by rw [← hA]; exact putAll_off f 10 slotsSat7 a0 (by kernel_rfl) z10
        exact flw_val rfl rfl (v5_3) (ex_move (.tmp 10) rfl r10) hS (Flz.refl _) (updF_self _ _ _)
      · intro f w1 hS hf
        generalize hA : putAll _ _ f = aA
        have h49 : f 0 = .int .u64 (s : Int) := hf 0 (by decide)
        have r49 : aA.eval (.tmp 49) = .int .u64 (s : Int) := by rw [← hA]; exact putAll_at f 49 0 slotsSat7 a0 sbSat7 (by kernel_rfl) zsz rfl h49
        have h50 : f 1 = .int .i64 n := hf 1 (by decide)
        have r50 : aA.eval (.tmp 50) = .int .i64 n := by rw [← hA]; exact putAll_at f 50 1 slotsSat7 a0 sbSat7 (by kernel_rfl) zsz rfl h50
        have h51 : f 2 = v5_3 := hf 2 (by decide)
        have r51 : aA.eval (.tmp 51) = v5_3 := by rw [← hA]; exact putAll_at f 51 2 slotsSat7 a0 sbSat7 (by kernel_rfl) zsz rfl h51
        exact flw_call rfl rfl 9 #[(.tmp 49), (.tmp 50), (.tmp 51)] _ rfl #[.int .u64 (s : Int), .int .i64 n, v5_3] (by simp only [List.map_toArray, List.map_cons, List.map_nil, r49, r50, r51]) (fun w => by kernel_rfl) (fun v w' => ∃ zz, v = .tuple #[.agg #[.int .u64 (s : Int), zz], .int .i64 0] ∧ Cs w' zz (tab s m (srt ((lb).map fewS)))) (ofA_t s n  m _ _ HGD.out HM.out (asc_few _) w1 HSD.out (HL.out.keep (HB.out.trans (hS.mono HB.out.size)) HSZ.out) HLY.out (HU5_3.out.keep hS)) (fun v w' hr hb => ⟨hS.trans (hb.mono hS.size), Flz.of hb, by obtain ⟨zz, a, b⟩ := hr; exact ⟨zz, (updF_self _ _ _).trans a, b⟩⟩)
      · intro f w1 hS hf
        generalize hA : putAll _ _ f = aA
        obtain ⟨x52, hx52, hr52⟩ := hf 3 (by decide)
        have e52 : aA.eval (.tmp 52) = .tuple #[.agg #[.int .u64 (s : Int), x52], .int .i64 0] := by rw [← hA]; exact putAll_at f 52 3 slotsSat7 a0 sbSat7 (by kernel_rfl) zsz rfl hx52
        exact flw_val rfl rfl (.tuple #[.agg #[.int .u64 (s : Int), x52], .int .i64 0]) (ex_move (.tmp 52) rfl e52) hS (Flz.refl _) ⟨x52, updF_self _ _ _, hr52⟩
      · intro f w1 hS hf
        generalize hA : putAll _ _ f = aA
        obtain ⟨x48, hx48, hr48⟩ := hf 4 (by decide)
        have e48 : aA.eval (.tmp 48) = .tuple #[.agg #[.int .u64 (s : Int), x48], .int .i64 0] := by rw [← hA]; exact putAll_at f 48 4 slotsSat7 a0 sbSat7 (by kernel_rfl) zsz rfl hx48
        exact flw_val rfl rfl (.agg #[.int .u64 (s : Int), x48]) (ex_extract (.tmp 48) 0 rfl e48 rfl) hS (Flz.refl _) ⟨x48, updF_self _ _ _, hr48⟩
      · intro f w1 hS hf
        generalize hA : putAll _ _ f = aA
        obtain ⟨x48, hx48, hr48⟩ := hf 4 (by decide)
        have e48 : aA.eval (.tmp 48) = .tuple #[.agg #[.int .u64 (s : Int), x48], .int .i64 0] := by rw [← hA]; exact putAll_at f 48 4 slotsSat7 a0 sbSat7 (by kernel_rfl) zsz rfl hx48
        exact flw_val rfl rfl (.int .i64 0) (ex_extract (.tmp 48) 1 rfl e48 rfl) hS (Flz.refl _) (updF_self _ _ _)
      · intro f w1 hS hf
        generalize hA : putAll _ _ f = aA
        exact flw_wp rfl rfl (fun K hK => wp_alloc_row 26 rfl (.agg #[.int .u64 0, .slice none 0 0]) (fun w => by kernel_rfl) (hK _ _ (hS.alloc hS.size _) (Flz.al _ _) ⟨_, updF_self _ _ _, hS.size, Has.made' _ _ _ _ rfl⟩))
    intro f x7 hS hf hap
    have h0 : f 0 = .int .u64 (s : Int) := hf 0 (by decide)
    have h1 : f 1 = .int .i64 n := hf 1 (by decide)
    have h2 : f 2 = v5_3 := hf 2 (by decide)
    obtain ⟨v7_3, h3, -⟩ := hf 3 (by decide)
    obtain ⟨v7_4, h4, -⟩ := hf 4 (by decide)
    obtain ⟨v7_5, h5, hu5⟩ := hf 5 (by decide)
    have HU7_5 := Lib.hid hu5
    clear hu5
    have h6 : f 6 = .int .i64 0 := hf 6 (by decide)
    obtain ⟨b7_7, h7, hgb7, hhb7⟩ := hf 7 (by decide)
    clear hf hap
    clear zsz z0 z1 z10
    subst ha0
    simp only [slotsSat7, putAll, h0, h1, h2, h3, h4, h5, h6, h7, Act.put, List.setIfInBounds_toArray, List.set_cons_zero, List.set_cons_succ]
    clear h0 h1 h2 h3 h4 h5 h6 h7
    refine tl_store rfl (by kernel_rfl) 26 (.tmp 13) (.tmp 53) rfl b7_7 ([.int .u64 (s : Int), v7_5]) _ rfl rfl _ hhb7 (by kernel_rfl) rfl (tb_ones _ HU7_5.out.one) ?_
    intro u7 hp7 hbl hot
    replace hS := hS.trans (hbl _ hgb7)
    replace HU7_5 := Lib.hid (HU7_5.out.hotb hhb7 ⟨_, _, _, rfl⟩ (by decide) (hbl 0 (Nat.zero_le _)).size hot)
    clear hbl hot hhb7
    try simp only [Act.put]
    refine tl_pure rfl (by kernel_rfl) (.int .i64 0) (ex_assign (.tmp 54) rfl rfl) ?_
    try simp only [Act.put, List.setIfInBounds_toArray, List.set_cons_zero, List.set_cons_succ]
    refine tl_nil ?_
    replace HU5_1 := Lib.hid (HU5_1.out.keep hS)
    replace HU5_3 := Lib.hid (HU5_3.out.keep hS)
    replace HX_b6_7 := Lib.hid (HX_b6_7.out.keepB hS)
    replace HU6_5 := Lib.hid (HU6_5.out.keep hS)
    have HBW := Lib.hid HB.out.size
    replace HB := Lib.hid (HB.out.trans (hS.mono HB.out.size))
    clear hS
    have HGb7_7 : Hid (w.heap.size ≤ b7_7) := Lib.hid (Nat.le_trans HBW.out hgb7)
    have HX_b7_7 : Hid (Has u7 b7_7 26 ([.int .u64 (s : Int), v7_5])) := Lib.hid hp7
    clear hp7 hgb7
    clear HBW
    go_upto_region 8 with fail
    refine wp_act (fun a0 ha0 => ?_)
    have zsz : a0.tmps.size = 124 := by rw [ha0]; rfl
    have z12 : a0.eval (.tmp 12) = .int .i64 0 := by rw [ha0]; rfl
    have z14 : a0.eval (.tmp 14) = .int .i64 0 := by rw [ha0]; rfl
    refine wp_region_flwo (E := Flz) [] slotsSat8 waitSat8 [Fct.val Flz 0 (.int .i64 0), Fct.val Flz 1 (.bool false), Fct.val Flz 2 (.bool false), Fct.val Flz 3 (.int .i64 0), Fct.val Flz 4 (.bool false), Fct.val Flz 5 (.bool false)] (fun w' => Below u7.heap.size u7 w') _ 6 0 chkSat8 (by kernel_rfl) (by kernel_rfl) (by kernel_rfl) (by decide) (Below.refl _ _) ?_ ?_
    · refine lt_s (lt_s (lt_s (lt_s (lt_s (lt_s (lt_0) ?_) ?_) ?_) ?_) ?_) ?_
      · intro f w1 hS hf
        generalize hA : putAll _ _ f = aA
        have r12 : aA.eval (.tmp 12) = .int .i64 0 := by rw [← hA]; exact putAll_off f 12 slotsSat8 a0 (by kernel_rfl) z12
        exact flw_val rfl rfl (.int .i64 0) (ex_move (.tmp 12) rfl r12) hS (Flz.refl _) (updF_self _ _ _)
      · intro f w1 hS hf
        generalize hA : putAll _ _ f = aA
        have h55 : f 0 = .int .i64 0 := hf 0 (by decide)
        have r55 : aA.eval (.tmp 55) = .int .i64 0 := by rw [← hA]; exact putAll_at f 55 0 slotsSat8 a0 sbSat8 (by kernel_rfl) zsz rfl h55
        exact flw_val rfl rfl (.bool false) (Eq.trans (ex_int .neq _ _ (.tmp 55) _ rfl .i64 0 0 r55 rfl (.bool ((0 : Int) != (0 : Int))) (fun _ => rfl)) (by rw [(by decide : ((0 : Int) != (0 : Int)) = false)])) hS (Flz.refl _) (updF_self _ _ _)
      · intro f w1 hS hf
        generalize hA : putAll _ _ f = aA
        have h56 : f 1 = .bool false := hf 1 (by decide)
        have r56 : aA.eval (.tmp 56) = .bool false := by rw [← hA]; exact putAll_at f 56 1 slotsSat8 a0 sbSat8 (by kernel_rfl) zsz rfl h56
        exact flw_val rfl rfl (.bool false) (ex_move (.tmp 56) rfl r56) hS (Flz.refl _) (updF_self _ _ _)
      · intro f w1 hS hf
        generalize hA : putAll _ _ f = aA
        have g57 : f 2 = .bool false := hf 2 (by decide)
        have t57 : aA.tmps[57]? = some (.bool false) := by rw [← hA]; exact putAll_g f 57 2 slotsSat8 a0 sbSat8 (by kernel_rfl) zsz rfl g57
        have r14 : aA.eval (.tmp 14) = .int .i64 0 := by rw [← hA]; exact putAll_off f 14 slotsSat8 a0 (by kernel_rfl) z14
        exact flw_val rfl ((wanted_of rfl 57 rfl t57).trans rfl) (.int .i64 0) (ex_move (.tmp 14) rfl r14) hS (Flz.refl _) (updF_self _ _ _)
      · intro f w1 hS hf
        generalize hA : putAll _ _ f = aA
        have g57 : f 2 = .bool false := hf 2 (by decide)
        have t57 : aA.tmps[57]? = some (.bool false) := by rw [← hA]; exact putAll_g f 57 2 slotsSat8 a0 sbSat8 (by kernel_rfl) zsz rfl g57
        have h58 : f 3 = .int .i64 0 := hf 3 (by decide)
        have r58 : aA.eval (.tmp 58) = .int .i64 0 := by rw [← hA]; exact putAll_at f 58 3 slotsSat8 a0 sbSat8 (by kernel_rfl) zsz rfl h58
        exact flw_val rfl ((wanted_of rfl 57 rfl t57).trans rfl) (.bool false) (Eq.trans (ex_int .neq _ _ (.tmp 58) _ rfl .i64 0 0 r58 rfl (.bool ((0 : Int) != (0 : Int))) (fun _ => rfl)) (by rw [(by decide : ((0 : Int) != (0 : Int)) = false)])) hS (Flz.refl _) (updF_self _ _ _)
      · intro f w1 hS hf
        generalize hA : putAll _ _ f = aA
        have h57 : f 2 = .bool false := hf 2 (by decide)
        have r57 : aA.eval (.tmp 57) = .bool false := by rw [← hA]; exact putAll_at f 57 2 slotsSat8 a0 sbSat8 (by kernel_rfl) zsz rfl h57
        have h59 : f 4 = .bool false := hf 4 (by decide)
        have r59 : aA.eval (.tmp 59) = .bool false := by rw [← hA]; exact putAll_at f 59 4 slotsSat8 a0 sbSat8 (by kernel_rfl) zsz rfl h59
        exact flw_val rfl rfl (.bool false) (ex_pick (.tmp 57) _ (.tmp 59) rfl false r57 ((if_neg (by decide)).trans r59)) hS (Flz.refl _) (updF_self _ _ _)
    intro f u8 hS hf hap
    have h0 : f 0 = .int .i64 0 := hf 0 (by decide)
    have h1 : f 1 = .bool false := hf 1 (by decide)
    have h2 : f 2 = .bool false := hf 2 (by decide)
    have h3 : f 3 = .int .i64 0 := hf 3 (by decide)
    have h4 : f 4 = .bool false := hf 4 (by decide)
    have h5 : f 5 = .bool false := hf 5 (by decide)
    clear hf hap
    clear zsz z12 z14
    subst ha0
    simp only [slotsSat8, putAll, h0, h1, h2, h3, h4, h5, Act.put, List.setIfInBounds_toArray, List.set_cons_zero, List.set_cons_succ]
    clear h0 h1 h2 h3 h4 h5
    refine tl_nil ?_
    replace HU5_1 := Lib.hid (HU5_1.out.keep hS)
    replace HU5_3 := Lib.hid (HU5_3.out.keep hS)
    replace HX_b6_7 := Lib.hid (HX_b6_7.out.keepB hS)
    replace HU6_5 := Lib.hid (HU6_5.out.keep hS)
    replace HX_b7_7 := Lib.hid (HX_b7_7.out.keepB hS)
    replace HU7_5 := Lib.hid (HU7_5.out.keep hS)
    replace HB := Lib.hid (HB.out.trans (hS.mono HB.out.size))
    clear hS
    go_upto_region 10 with fail
    refine wp_act (fun a0 ha0 => ?_)
    have zsz : a0.tmps.size = 124 := by rw [ha0]; rfl
    have z0 : a0.eval (.tmp 0) = .int .u64 (s : Int) := by rw [ha0]; rfl
    have z1 : a0.eval (.tmp 1) = .int .i64 n := by rw [ha0]; rfl
    have z9 : a0.eval (.tmp 9) = v5_1 := by rw [ha0]; rfl
    have z10 : a0.eval (.tmp 10) = v5_3 := by rw [ha0]; rfl
    refine wp_region_flwo (E := Flz) [] slotsSat10 waitSat10 [Fct.val Flz 0 (.int .u64 (s : Int)), Fct.val Flz 1 (.int .i64 n), Fct.val Flz 2 (v5_1), Fct.val Flz 3 (v5_3), Fct.obj 4 (fun v w => Us w v (minU (srt ((la).map fewS)) (srt ((lb).map fewS)))) (fun _ _ _ h he => h.flz he), Fct.obj 5 (fun v w => ∃ zz, v = .tuple #[.agg #[.int .u64 (s : Int), zz], .int .i64 0] ∧ Cs w zz (tab s m (minU (srt ((la).map fewS)) (srt ((lb).map fewS))))) (fun _ _ _ ⟨zz, a, b⟩ he => ⟨zz, a, b.flz he⟩), Fct.obj 6 (fun v w => ∃ zz, v = .tuple #[.agg #[.int .u64 (s : Int), zz], .int .i64 0] ∧ Cs w zz (tab s m (minU (srt ((la).map fewS)) (srt ((lb).map fewS))))) (fun _ _ _ ⟨zz, a, b⟩ he => ⟨zz, a, b.flz he⟩), Fct.obj 7 (fun v w => ∃ zz, v = .agg #[.int .u64 (s : Int), zz] ∧ Cs w zz (tab s m (minU (srt ((la).map fewS)) (srt ((lb).map fewS))))) (fun _ _ _ ⟨zz, a, b⟩ he => ⟨zz, a, b.flz he⟩), Fct.val Flz 8 (.int .i64 0), Fct.obj 9 (fun v w => ∃ g, v = .pointer (some ⟨g, 0, none⟩) ∧ u8.heap.size ≤ g ∧ Has w g 26 ([.int .u64 0, .slice none 0 0])) (fun _ _ _ ⟨g, a, b, c⟩ he => ⟨g, a, b, c.flz he (by decide)⟩)] (fun w' => Below u8.heap.size u8 w') _ 10 2 chkSat10 (by kernel_rfl) (by kernel_rfl) (by kernel_rfl) (by decide) (Below.refl _ _) ?_ ?_
    · refine lt_s (lt_s (lt_s (lt_s (lt_s (lt_s (lt_s (lt_s (lt_s (lt_s (lt_0) ?_) ?_) ?_) ?_) ?_) ?_) ?_) ?_) ?_) ?_
      · intro f w1 hS hf
        generalize hA : putAll _ _ f = aA
        have r0 : aA.eval (.tmp 0) = .int .u64 (s : Int) := by rw [← hA]; exact putAll_off f 0 slotsSat10 a0 (by kernel_rfl) z0
        exact flw_val rfl rfl (.int .u64 (s : Int)) (ex_move (.tmp 0) rfl r0) hS (Flz.refl _) (updF_self _ _ _)
      · intro f w1 hS hf
        generalize hA : putAll _ _ f = aA
        have r1 : aA.eval (.tmp 1) = .int .i64 n := by rw [← hA]; exact putAll_off f 1 slotsSat10 a0 (by kernel_rfl) z1
        exact flw_val rfl rfl (.int .i64 n) (ex_move (.tmp 1) rfl r1) hS (Flz.refl _) (updF_self _ _ _)
      · intro f w1 hS hf
        generalize hA : putAll _ _ f = aA
        have r9 : aA.eval (.tmp 9) = v5_1 := by rw [← hA]; exact putAll_off f 9 slotsSat10 a0 (by kernel_rfl) z9
        exact flw_val rfl rfl (v5_1) (ex_move (.tmp 9) rfl r9) hS (Flz.refl _) (updF_self _ _ _)
      · intro f w1 hS hf
        generalize hA : putAll _ _ f = aA
        have r10 : aA.eval (.tmp 10) = v5_3 := by rw [← hA]; exact putAll_off f 10 slotsSat10 a0 (by kernel_rfl) z10
        exact flw_val rfl rfl (v5_3) (ex_move (.tmp 10) rfl r10) hS (Flz.refl _) (updF_self _ _ _)
      · intro f w1 hS hf
        generalize hA : putAll _ _ f = aA
        have h67 : f 2 = v5_1 := hf 2 (by decide)
        have r67 : aA.eval (.tmp 67) = v5_1 := by rw [← hA]; exact putAll_at f 67 2 slotsSat10 a0 sbSat10 (by kernel_rfl) zsz rfl h67
        have h68 : f 3 = v5_3 := hf 3 (by decide)
        have r68 : aA.eval (.tmp 68) = v5_3 := by rw [← hA]; exact putAll_at f 68 3 slotsSat10 a0 sbSat10 (by kernel_rfl) zsz rfl h68
        exact flw_call rfl rfl 26 #[(.tmp 67), (.tmp 68)] _ rfl #[v5_1, v5_3] (by simp only [List.map_toArray, List.map_cons, List.map_nil, r67, r68]) (fun w => by kernel_rfl) (fun v w' => Us w' v (minU (srt ((la).map fewS)) (srt ((lb).map fewS)))) (us_minus (HU5_1.out.keep hS) (HU5_3.out.keep hS) HLX.out HLY.out) (fun v w' hr hb => ⟨hS.trans (hb.mono hS.size), Flz.of hb, (show Us w' (updF f 4 v 4) (minU (srt ((la).map fewS)) (srt ((lb).map fewS))) by rw [updF_self]; exact hr)⟩)
      · intro f w1 hS hf
        generalize hA : putAll _ _ f = aA
        have h65 : f 0 = .int .u64 (s : Int) := hf 0 (by decide)
        have r65 : aA.eval (.tmp 65) = .int .u64 (s : Int) := by rw [← hA]; exact putAll_at f 65 0 slotsSat10 a0 sbSat10 (by kernel_rfl) zsz rfl h65
        have h66 : f 1 = .int .i64 n := hf 1 (by decide)
        have r66 : aA.eval (.tmp 66) = .int .i64 n := by rw [← hA]; exact putAll_at f 66 1 slotsSat10 a0 sbSat10 (by kernel_rfl) zsz rfl h66
        have hu4 : Us w1 (f 4) (minU (srt ((la).map fewS)) (srt ((lb).map fewS))) := (hf 4 (by decide))
        have e69 : aA.eval (.tmp 69) = f 4 := by rw [← hA]; exact putAll_at f 69 4 slotsSat10 a0 sbSat10 (by kernel_rfl) zsz rfl rfl
        exact flw_call rfl rfl 9 #[(.tmp 65), (.tmp 66), (.tmp 69)] _ rfl #[.int .u64 (s : Int), .int .i64 n, f 4] (by simp only [List.map_toArray, List.map_cons, List.map_nil, r65, r66, e69]) (fun w => by kernel_rfl) (fun v w' => ∃ zz, v = .tuple #[.agg #[.int .u64 (s : Int), zz], .int .i64 0] ∧ Cs w' zz (tab s m (minU (srt ((la).map fewS)) (srt ((lb).map fewS))))) (ofA_t s n  m _ _ HGD.out HM.out (asc_minU _ _) w1 HSD.out (HL.out.keep (HB.out.trans (hS.mono HB.out.size)) HSZ.out) HLMX.out hu4) (fun v w' hr hb => ⟨hS.trans (hb.mono hS.size), Flz.of hb, by obtain ⟨zz, a, b⟩ := hr; exact ⟨zz, (updF_self _ _ _).trans a, b⟩⟩)
      · intro f w1 hS hf
        generalize hA : putAll _ _ f = aA
        obtain ⟨x70, hx70, hr70⟩ := hf 5 (by decide)
        have e70 : aA.eval (.tmp 70) = .tuple #[.agg #[.int .u64 (s : Int), x70], .int .i64 0] := by rw [← hA]; exact putAll_at f 70 5 slotsSat10 a0 sbSat10 (by kernel_rfl) zsz rfl hx70
        exact flw_val rfl rfl (.tuple #[.agg #[.int .u64 (s : Int), x70], .int .i64 0]) (ex_move (.tmp 70) rfl e70) hS (Flz.refl _) ⟨x70, updF_self _ _ _, hr70⟩
      · intro f w1 hS hf
        generalize hA : putAll _ _ f = aA
        obtain ⟨x64, hx64, hr64⟩ := hf 6 (by decide)
        have e64 : aA.eval (.tmp 64) = .tuple #[.agg #[.int .u64 (s : Int), x64], .int .i64 0] := by rw [← hA]; exact putAll_at f 64 6 slotsSat10 a0 sbSat10 (by kernel_rfl) zsz rfl hx64
        exact flw_val rfl rfl (.agg #[.int .u64 (s : Int), x64]) (ex_extract (.tmp 64) 0 rfl e64 rfl) hS (Flz.refl _) ⟨x64, updF_self _ _ _, hr64⟩
      · intro f w1 hS hf
        generalize hA : putAll _ _ f = aA
        obtain ⟨x64, hx64, hr64⟩ := hf 6 (by decide)
        have e64 : aA.eval (.tmp 64) = .tuple #[.agg #[.int .u64 (s : Int), x64], .int .i64 0] := by rw [← hA]; exact putAll_at f 64 6 slotsSat10 a0 sbSat10 (by kernel_rfl) zsz rfl hx64
        exact flw_val rfl rfl (.int .i64 0) (ex_extract (.tmp 64) 1 rfl e64 rfl) hS (Flz.refl _) (updF_self _ _ _)
      · intro f w1 hS hf
        generalize hA : putAll _ _ f = aA
        exact flw_wp rfl rfl (fun K hK => wp_alloc_row 26 rfl (.agg #[.int .u64 0, .slice none 0 0]) (fun w => by kernel_rfl) (hK _ _ (hS.alloc hS.size _) (Flz.al _ _) ⟨_, updF_self _ _ _, hS.size, Has.made' _ _ _ _ rfl⟩))
    intro f x10 hS hf hap
    have h0 : f 0 = .int .u64 (s : Int) := hf 0 (by decide)
    have h1 : f 1 = .int .i64 n := hf 1 (by decide)
    have h2 : f 2 = v5_1 := hf 2 (by decide)
    have h3 : f 3 = v5_3 := hf 3 (by decide)
    obtain ⟨v10_4, h4, hu4⟩ : ∃ v, f 4 = v ∧ Us x10 v (minU (srt ((la).map fewS)) (srt ((lb).map fewS))) := ⟨_, rfl, (hf 4 (by decide))⟩
    have HU10_4 := Lib.hid hu4
    clear hu4
    obtain ⟨v10_5, h5, -⟩ := hf 5 (by decide)
    obtain ⟨v10_6, h6, -⟩ := hf 6 (by decide)
    obtain ⟨v10_7, h7, hu7⟩ := hf 7 (by decide)
    have HU10_7 := Lib.hid hu7
    clear hu7
    have h8 : f 8 = .int .i64 0 := hf 8 (by decide)
    obtain ⟨b10_9, h9, hgb9, hhb9⟩ := hf 9 (by decide)
    clear hf hap
    clear zsz z0 z1 z9 z10
    subst ha0
    simp only [slotsSat10, putAll, h0, h1, h2, h3, h4, h5, h6, h7, h8, h9, Act.put, List.setIfInBounds_toArray, List.set_cons_zero, List.set_cons_succ]
    clear h0 h1 h2 h3 h4 h5 h6 h7 h8 h9
    refine tl_store rfl (by kernel_rfl) 26 (.tmp 15) (.tmp 71) rfl b10_9 ([.int .u64 (s : Int), v10_7]) _ rfl rfl _ hhb9 (by kernel_rfl) rfl (tb_ones _ HU10_7.out.one) ?_
    intro u10 hp9 hbl hot
    replace hS := hS.trans (hbl _ hgb9)
    replace HU10_4 := Lib.hid (HU10_4.out.hotb hhb9 ⟨_, _, _, rfl⟩ (by decide) (hbl 0 (Nat.zero_le _)).size hot)
    replace HU10_7 := Lib.hid (HU10_7.out.hotb hhb9 ⟨_, _, _, rfl⟩ (by decide) (hbl 0 (Nat.zero_le _)).size hot)
    clear hbl hot hhb9
    try simp only [Act.put]
    refine tl_pure rfl (by kernel_rfl) (.int .i64 0) (ex_assign (.tmp 72) rfl rfl) ?_
    try simp only [Act.put, List.setIfInBounds_toArray, List.set_cons_zero, List.set_cons_succ]
    refine tl_nil ?_
    replace HU5_1 := Lib.hid (HU5_1.out.keep hS)
    replace HU5_3 := Lib.hid (HU5_3.out.keep hS)
    replace HX_b6_7 := Lib.hid (HX_b6_7.out.keepB hS)
    replace HU6_5 := Lib.hid (HU6_5.out.keep hS)
    replace HX_b7_7 := Lib.hid (HX_b7_7.out.keepB hS)
    replace HU7_5 := Lib.hid (HU7_5.out.keep hS)
    have HBW := Lib.hid HB.out.size
    replace HB := Lib.hid (HB.out.trans (hS.mono HB.out.size))
    clear hS
    have HGb10_9 : Hid (w.heap.size ≤ b10_9) := Lib.hid (Nat.le_trans HBW.out hgb9)
    have HX_b10_9 : Hid (Has u10 b10_9 26 ([.int .u64 (s : Int), v10_7])) := Lib.hid hp9
    clear hp9 hgb9
    clear HBW
    go_upto_region 11 with fail
    refine wp_act (fun a0 ha0 => ?_)
    have zsz : a0.tmps.size = 124 := by rw [ha0]; rfl
    have z0 : a0.eval (.tmp 0) = .int .u64 (s : Int) := by rw [ha0]; rfl
    have z1 : a0.eval (.tmp 1) = .int .i64 n := by rw [ha0]; rfl
    have z10 : a0.eval (.tmp 10) = v5_3 := by rw [ha0]; rfl
    have z9 : a0.eval (.tmp 9) = v5_1 := by rw [ha0]; rfl
    refine wp_region_flwo (E := Flz) [] slotsSat11 waitSat11 [Fct.val Flz 0 (.int .u64 (s : Int)), Fct.val Flz 1 (.int .i64 n), Fct.val Flz 2 (v5_3), Fct.val Flz 3 (v5_1), Fct.obj 4 (fun v w => Us w v (minU (srt ((lb).map fewS)) (srt ((la).map fewS)))) (fun _ _ _ h he => h.flz he), Fct.obj 5 (fun v w => ∃ zz, v = .tuple #[.agg #[.int .u64 (s : Int), zz], .int .i64 0] ∧ Cs w zz (tab s m (minU (srt ((lb).map fewS)) (srt ((la).map fewS))))) (fun _ _ _ ⟨zz, a, b⟩ he => ⟨zz, a, b.flz he⟩), Fct.obj 6 (fun v w => ∃ zz, v = .tuple #[.agg #[.int .u64 (s : Int), zz], .int .i64 0] ∧ Cs w zz (tab s m (minU (srt ((lb).map fewS)) (srt ((la).map fewS))))) (fun _ _ _ ⟨zz, a, b⟩ he => ⟨zz, a, b.flz he⟩), Fct.obj 7 (fun v w => ∃ zz, v = .agg #[.int .u64 (s : Int), zz] ∧ Cs w zz (tab s m (minU (srt ((lb).map fewS)) (srt ((la).map fewS))))) (fun _ _ _ ⟨zz, a, b⟩ he => ⟨zz, a, b.flz he⟩), Fct.val Flz 8 (.int .i64 0), Fct.obj 9 (fun v w => ∃ g, v = .pointer (some ⟨g, 0, none⟩) ∧ u10.heap.size ≤ g ∧ Has w g 26 ([.int .u64 0, .slice none 0 0])) (fun _ _ _ ⟨g, a, b, c⟩ he => ⟨g, a, b, c.flz he (by decide)⟩)] (fun w' => Below u10.heap.size u10 w') _ 10 2 chkSat11 (by kernel_rfl) (by kernel_rfl) (by kernel_rfl) (by decide) (Below.refl _ _) ?_ ?_
    · refine lt_s (lt_s (lt_s (lt_s (lt_s (lt_s (lt_s (lt_s (lt_s (lt_s (lt_0) ?_) ?_) ?_) ?_) ?_) ?_) ?_) ?_) ?_) ?_
      · intro f w1 hS hf
        generalize hA : putAll _ _ f = aA
        have r0 : aA.eval (.tmp 0) = .int .u64 (s : Int) := by rw [← hA]; exact putAll_off f 0 slotsSat11 a0 (by kernel_rfl) z0
        exact flw_val rfl rfl (.int .u64 (s : Int)) (ex_move (.tmp 0) rfl r0) hS (Flz.refl _) (updF_self _ _ _)
      · intro f w1 hS hf
        generalize hA : putAll _ _ f = aA
        have r1 : aA.eval (.tmp 1) = .int .i64 n := by rw [← hA]; exact putAll_off f 1 slotsSat11 a0 (by kernel_rfl) z1
        exact flw_val rfl rfl (.int .i64 n) (ex_move (.tmp 1) rfl r1) hS (Flz.refl _) (updF_self _ _ _)
      · intro f w1 hS hf
        generalize hA : putAll _ _ f = aA
        have r10 : aA.eval (.tmp 10) = v5_3 := by rw [← hA]; exact putAll_off f 10 slotsSat11 a0 (by kernel_rfl) z10
        exact flw_val rfl rfl (v5_3) (ex_move (.tmp 10) rfl r10) hS (Flz.refl _) (updF_self _ _ _)
      · intro f w1 hS hf
        generalize hA : putAll _ _ f = aA
        have r9 : aA.eval (.tmp 9) = v5_1 := by rw [← hA]; exact putAll_off f 9 slotsSat11 a0 (by kernel_rfl) z9
        exact flw_val rfl rfl (v5_1) (ex_move (.tmp 9) rfl r9) hS (Flz.refl _) (updF_self _ _ _)
      · intro f w1 hS hf
        generalize hA : putAll _ _ f = aA
        have h76 : f 2 = v5_3 := hf 2 (by decide)
        have r76 : aA.eval (.tmp 76) = v5_3 := by rw [← hA]; exact putAll_at f 76 2 slotsSat11 a0 sbSat11 (by kernel_rfl) zsz rfl h76
        have h77 : f 3 = v5_1 := hf 3 (by decide)
        have r77 : aA.eval (.tmp 77) = v5_1 := by rw [← hA]; exact putAll_at f 77 3 slotsSat11 a0 sbSat11 (by kernel_rfl) zsz rfl h77
        exact flw_call rfl rfl 26 #[(.tmp 76), (.tmp 77)] _ rfl #[v5_3, v5_1] (by simp only [List.map_toArray, List.map_cons, List.map_nil, r76, r77]) (fun w => by kernel_rfl) (fun v w' => Us w' v (minU (srt ((lb).map fewS)) (srt ((la).map fewS)))) (us_minus (HU5_3.out.keep hS) (HU5_1.out.keep hS) HLY.out HLX.out) (fun v w' hr hb => ⟨hS.trans (hb.mono hS.size), Flz.of hb, (show Us w' (updF f 4 v 4) (minU (srt ((lb).map fewS)) (srt ((la).map fewS))) by rw [updF_self]; exact hr)⟩)
      · intro f w1 hS hf
        generalize hA : putAll _ _ f = aA
        have h74 : f 0 = .int .u64 (s : Int) := hf 0 (by decide)
        have r74 : aA.eval (.tmp 74) = .int .u64 (s : Int) := by rw [← hA]; exact putAll_at f 74 0 slotsSat11 a0 sbSat11 (by kernel_rfl) zsz rfl h74
        have h75 : f 1 = .int .i64 n := hf 1 (by decide)
        have r75 : aA.eval (.tmp 75) = .int .i64 n := by rw [← hA]; exact putAll_at f 75 1 slotsSat11 a0 sbSat11 (by kernel_rfl) zsz rfl h75
        have hu4 : Us w1 (f 4) (minU (srt ((lb).map fewS)) (srt ((la).map fewS))) := (hf 4 (by decide))
        have e78 : aA.eval (.tmp 78) = f 4 := by rw [← hA]; exact putAll_at f 78 4 slotsSat11 a0 sbSat11 (by kernel_rfl) zsz rfl rfl
        exact flw_call rfl rfl 9 #[(.tmp 74), (.tmp 75), (.tmp 78)] _ rfl #[.int .u64 (s : Int), .int .i64 n, f 4] (by simp only [List.map_toArray, List.map_cons, List.map_nil, r74, r75, e78]) (fun w => by kernel_rfl) (fun v w' => ∃ zz, v = .tuple #[.agg #[.int .u64 (s : Int), zz], .int .i64 0] ∧ Cs w' zz (tab s m (minU (srt ((lb).map fewS)) (srt ((la).map fewS))))) (ofA_t s n  m _ _ HGD.out HM.out (asc_minU _ _) w1 HSD.out (HL.out.keep (HB.out.trans (hS.mono HB.out.size)) HSZ.out) HLMY.out hu4) (fun v w' hr hb => ⟨hS.trans (hb.mono hS.size), Flz.of hb, by obtain ⟨zz, a, b⟩ := hr; exact ⟨zz, (updF_self _ _ _).trans a, b⟩⟩)
      · intro f w1 hS hf
        generalize hA : putAll _ _ f = aA
        obtain ⟨x79, hx79, hr79⟩ := hf 5 (by decide)
        have e79 : aA.eval (.tmp 79) = .tuple #[.agg #[.int .u64 (s : Int), x79], .int .i64 0] := by rw [← hA]; exact putAll_at f 79 5 slotsSat11 a0 sbSat11 (by kernel_rfl) zsz rfl hx79
        exact flw_val rfl rfl (.tuple #[.agg #[.int .u64 (s : Int), x79], .int .i64 0]) (ex_move (.tmp 79) rfl e79) hS (Flz.refl _) ⟨x79, updF_self _ _ _, hr79⟩
      · intro f w1 hS hf
        generalize hA : putAll _ _ f = aA
        obtain ⟨x73, hx73, hr73⟩ := hf 6 (by decide)
        have e73 : aA.eval (.tmp 73) = .tuple #[.agg #[.int .u64 (s : Int), x73], .int .i64 0] := by rw [← hA]; exact putAll_at f 73 6 slotsSat11 a0 sbSat11 (by kernel_rfl) zsz rfl hx73
        exact flw_val rfl rfl (.agg #[.int .u64 (s : Int), x73]) (ex_extract (.tmp 73) 0 rfl e73 rfl) hS (Flz.refl _) ⟨x73, updF_self _ _ _, hr73⟩
      · intro f w1 hS hf
        generalize hA : putAll _ _ f = aA
        obtain ⟨x73, hx73, hr73⟩ := hf 6 (by decide)
        have e73 : aA.eval (.tmp 73) = .tuple #[.agg #[.int .u64 (s : Int), x73], .int .i64 0] := by rw [← hA]; exact putAll_at f 73 6 slotsSat11 a0 sbSat11 (by kernel_rfl) zsz rfl hx73
        exact flw_val rfl rfl (.int .i64 0) (ex_extract (.tmp 73) 1 rfl e73 rfl) hS (Flz.refl _) (updF_self _ _ _)
      · intro f w1 hS hf
        generalize hA : putAll _ _ f = aA
        exact flw_wp rfl rfl (fun K hK => wp_alloc_row 26 rfl (.agg #[.int .u64 0, .slice none 0 0]) (fun w => by kernel_rfl) (hK _ _ (hS.alloc hS.size _) (Flz.al _ _) ⟨_, updF_self _ _ _, hS.size, Has.made' _ _ _ _ rfl⟩))
    intro f x11 hS hf hap
    have h0 : f 0 = .int .u64 (s : Int) := hf 0 (by decide)
    have h1 : f 1 = .int .i64 n := hf 1 (by decide)
    have h2 : f 2 = v5_3 := hf 2 (by decide)
    have h3 : f 3 = v5_1 := hf 3 (by decide)
    obtain ⟨v11_4, h4, hu4⟩ : ∃ v, f 4 = v ∧ Us x11 v (minU (srt ((lb).map fewS)) (srt ((la).map fewS))) := ⟨_, rfl, (hf 4 (by decide))⟩
    have HU11_4 := Lib.hid hu4
    clear hu4
    obtain ⟨v11_5, h5, -⟩ := hf 5 (by decide)
    obtain ⟨v11_6, h6, -⟩ := hf 6 (by decide)
    obtain ⟨v11_7, h7, hu7⟩ := hf 7 (by decide)
    have HU11_7 := Lib.hid hu7
    clear hu7
    have h8 : f 8 = .int .i64 0 := hf 8 (by decide)
    obtain ⟨b11_9, h9, hgb9, hhb9⟩ := hf 9 (by decide)
    clear hf hap
    clear zsz z0 z1 z10 z9
    subst ha0
    simp only [slotsSat11, putAll, h0, h1, h2, h3, h4, h5, h6, h7, h8, h9, Act.put, List.setIfInBounds_toArray, List.set_cons_zero, List.set_cons_succ]
    clear h0 h1 h2 h3 h4 h5 h6 h7 h8 h9
    refine tl_store rfl (by kernel_rfl) 26 (.tmp 17) (.tmp 80) rfl b11_9 ([.int .u64 (s : Int), v11_7]) _ rfl rfl _ hhb9 (by kernel_rfl) rfl (tb_ones _ HU11_7.out.one) ?_
    intro u11 hp9 hbl hot
    replace hS := hS.trans (hbl _ hgb9)
    replace HU11_4 := Lib.hid (HU11_4.out.hotb hhb9 ⟨_, _, _, rfl⟩ (by decide) (hbl 0 (Nat.zero_le _)).size hot)
    replace HU11_7 := Lib.hid (HU11_7.out.hotb hhb9 ⟨_, _, _, rfl⟩ (by decide) (hbl 0 (Nat.zero_le _)).size hot)
    clear hbl hot hhb9
    try simp only [Act.put]
    refine tl_pure rfl (by kernel_rfl) (.int .i64 0) (ex_assign (.tmp 81) rfl rfl) ?_
    try simp only [Act.put, List.setIfInBounds_toArray, List.set_cons_zero, List.set_cons_succ]
    refine tl_nil ?_
    replace HU5_1 := Lib.hid (HU5_1.out.keep hS)
    replace HU5_3 := Lib.hid (HU5_3.out.keep hS)
    replace HX_b6_7 := Lib.hid (HX_b6_7.out.keepB hS)
    replace HU6_5 := Lib.hid (HU6_5.out.keep hS)
    replace HX_b7_7 := Lib.hid (HX_b7_7.out.keepB hS)
    replace HU7_5 := Lib.hid (HU7_5.out.keep hS)
    replace HX_b10_9 := Lib.hid (HX_b10_9.out.keepB hS)
    replace HU10_4 := Lib.hid (HU10_4.out.keep hS)
    replace HU10_7 := Lib.hid (HU10_7.out.keep hS)
    have HBW := Lib.hid HB.out.size
    replace HB := Lib.hid (HB.out.trans (hS.mono HB.out.size))
    clear hS
    have HGb11_9 : Hid (w.heap.size ≤ b11_9) := Lib.hid (Nat.le_trans HBW.out hgb9)
    have HX_b11_9 : Hid (Has u11 b11_9 26 ([.int .u64 (s : Int), v11_7])) := Lib.hid hp9
    clear hp9 hgb9
    clear HBW
    go_upto_region 12 with fail
    refine wp_act (fun a0 ha0 => ?_)
    have zsz : a0.tmps.size = 124 := by rw [ha0]; rfl
    have z11 : a0.eval (.tmp 11) = .pointer (some ⟨b6_7, 0, none⟩) := by rw [ha0]; rfl
    have z13 : a0.eval (.tmp 13) = .pointer (some ⟨b7_7, 0, none⟩) := by rw [ha0]; rfl
    refine wp_region_flwo (E := Flz) [] slotsSat12 waitSat12 [Fct.val Flz 0 (.agg #[.int .u64 (s : Int), v6_5]), Fct.val Flz 1 (.agg #[.int .u64 (s : Int), v7_5]), Fct.obj 2 (fun v w => ∃ zz, v = .tuple #[.agg #[.int .u64 (s : Int), zz], .int .i64 0] ∧ Cs w zz (List.zipWith minusC (tab s m (srt ((la).map fewS))) (tab s m (srt ((lb).map fewS))))) (fun _ _ _ ⟨zz, a, b⟩ he => ⟨zz, a, b.flz he⟩), Fct.obj 3 (fun v w => ∃ zz, v = .tuple #[.agg #[.int .u64 (s : Int), zz], .int .i64 0] ∧ Cs w zz (List.zipWith minusC (tab s m (srt ((la).map fewS))) (tab s m (srt ((lb).map fewS))))) (fun _ _ _ ⟨zz, a, b⟩ he => ⟨zz, a, b.flz he⟩), Fct.obj 4 (fun v w => ∃ zz, v = .agg #[.int .u64 (s : Int), zz] ∧ Cs w zz (List.zipWith minusC (tab s m (srt ((la).map fewS))) (tab s m (srt ((lb).map fewS))))) (fun _ _ _ ⟨zz, a, b⟩ he => ⟨zz, a, b.flz he⟩), Fct.val Flz 5 (.int .i64 0), Fct.obj 6 (fun v w => ∃ g, v = .pointer (some ⟨g, 0, none⟩) ∧ u11.heap.size ≤ g ∧ Has w g 26 ([.int .u64 0, .slice none 0 0])) (fun _ _ _ ⟨g, a, b, c⟩ he => ⟨g, a, b, c.flz he (by decide)⟩)] (fun w' => Below u11.heap.size u11 w') _ 7 2 chkSat12 (by kernel_rfl) (by kernel_rfl) (by kernel_rfl) (by decide) (Below.refl _ _) ?_ ?_
    · refine lt_s (lt_s (lt_s (lt_s (lt_s (lt_s (lt_s (lt_0) ?_) ?_) ?_) ?_) ?_) ?_) ?_
      · intro f w1 hS hf
        generalize hA : putAll _ _ f = aA
        have r11 : aA.eval (.tmp 11) = .pointer (some ⟨b6_7, 0, none⟩) := by rw [← hA]; exact putAll_off f 11 slotsSat12 a0 (by kernel_rfl) z11
        exact flw_val rfl rfl (.agg #[.int .u64 (s : Int), v6_5]) (ex_loadR 26 (.tmp 11) rfl ⟨b6_7, 0, none⟩ r11 (fun _ => by kernel_rfl) [.int .u64 (s : Int), v6_5] (by kernel_rfl) ((HX_b6_7.out.keepB hS).part [.int .u64 (s : Int), v6_5] 0 (fun j u hu => by rw [Nat.zero_add]; exact hu))) hS (Flz.refl _) (updF_self _ _ _)
      · intro f w1 hS hf
        generalize hA : putAll _ _ f = aA
        have r13 : aA.eval (.tmp 13) = .pointer (some ⟨b7_7, 0, none⟩) := by rw [← hA]; exact putAll_off f 13 slotsSat12 a0 (by kernel_rfl) z13
        exact flw_val rfl rfl (.agg #[.int .u64 (s : Int), v7_5]) (ex_loadR 26 (.tmp 13) rfl ⟨b7_7, 0, none⟩ r13 (fun _ => by kernel_rfl) [.int .u64 (s : Int), v7_5] (by kernel_rfl) ((HX_b7_7.out.keepB hS).part [.int .u64 (s : Int), v7_5] 0 (fun j u hu => by rw [Nat.zero_add]; exact hu))) hS (Flz.refl _) (updF_self _ _ _)
      · intro f w1 hS hf
        generalize hA : putAll _ _ f = aA
        have h83 : f 0 = .agg #[.int .u64 (s : Int), v6_5] := hf 0 (by decide)
        have r83 : aA.eval (.tmp 83) = .agg #[.int .u64 (s : Int), v6_5] := by rw [← hA]; exact putAll_at f 83 0 slotsSat12 a0 sbSat12 (by kernel_rfl) zsz rfl h83
        have h84 : f 1 = .agg #[.int .u64 (s : Int), v7_5] := hf 1 (by decide)
        have r84 : aA.eval (.tmp 84) = .agg #[.int .u64 (s : Int), v7_5] := by rw [← hA]; exact putAll_at f 84 1 slotsSat12 a0 sbSat12 (by kernel_rfl) zsz rfl h84
        exact flw_call rfl rfl 10 #[(.tmp 83), (.tmp 84)] _ rfl #[.agg #[.int .u64 (s : Int), v6_5], .agg #[.int .u64 (s : Int), v7_5]] (by simp only [List.map_toArray, List.map_cons, List.map_nil, r83, r84]) (fun w => by kernel_rfl) (fun v w' => ∃ zz, v = .tuple #[.agg #[.int .u64 (s : Int), zz], .int .i64 0] ∧ Cs w' zz (List.zipWith minusC (tab s m (srt ((la).map fewS))) (tab s m (srt ((lb).map fewS))))) (minusT_t s _ _ s _ _ (tab_ok HGM.out) w1 (tab_small HM4.out) (HU6_5.out.keep hS) (HU7_5.out.keep hS)) (fun v w' hr hb => ⟨hS.trans (hb.mono hS.size), Flz.of hb, by obtain ⟨zz, a, b⟩ := hr; exact ⟨zz, (updF_self _ _ _).trans a, b⟩⟩)
      · intro f w1 hS hf
        generalize hA : putAll _ _ f = aA
        obtain ⟨x85, hx85, hr85⟩ := hf 2 (by decide)
        have e85 : aA.eval (.tmp 85) = .tuple #[.agg #[.int .u64 (s : Int), x85], .int .i64 0] := by rw [← hA]; exact putAll_at f 85 2 slotsSat12 a0 sbSat12 (by kernel_rfl) zsz rfl hx85
        exact flw_val rfl rfl (.tuple #[.agg #[.int .u64 (s : Int), x85], .int .i64 0]) (ex_move (.tmp 85) rfl e85) hS (Flz.refl _) ⟨x85, updF_self _ _ _, hr85⟩
      · intro f w1 hS hf
        generalize hA : putAll _ _ f = aA
        obtain ⟨x82, hx82, hr82⟩ := hf 3 (by decide)
        have e82 : aA.eval (.tmp 82) = .tuple #[.agg #[.int .u64 (s : Int), x82], .int .i64 0] := by rw [← hA]; exact putAll_at f 82 3 slotsSat12 a0 sbSat12 (by kernel_rfl) zsz rfl hx82
        exact flw_val rfl rfl (.agg #[.int .u64 (s : Int), x82]) (ex_extract (.tmp 82) 0 rfl e82 rfl) hS (Flz.refl _) ⟨x82, updF_self _ _ _, hr82⟩
      · intro f w1 hS hf
        generalize hA : putAll _ _ f = aA
        obtain ⟨x82, hx82, hr82⟩ := hf 3 (by decide)
        have e82 : aA.eval (.tmp 82) = .tuple #[.agg #[.int .u64 (s : Int), x82], .int .i64 0] := by rw [← hA]; exact putAll_at f 82 3 slotsSat12 a0 sbSat12 (by kernel_rfl) zsz rfl hx82
        exact flw_val rfl rfl (.int .i64 0) (ex_extract (.tmp 82) 1 rfl e82 rfl) hS (Flz.refl _) (updF_self _ _ _)
      · intro f w1 hS hf
        generalize hA : putAll _ _ f = aA
        exact flw_wp rfl rfl (fun K hK => wp_alloc_row 26 rfl (.agg #[.int .u64 0, .slice none 0 0]) (fun w => by kernel_rfl) (hK _ _ (hS.alloc hS.size _) (Flz.al _ _) ⟨_, updF_self _ _ _, hS.size, Has.made' _ _ _ _ rfl⟩))
    intro f x12 hS hf hap
    have h0 : f 0 = .agg #[.int .u64 (s : Int), v6_5] := hf 0 (by decide)
    have h1 : f 1 = .agg #[.int .u64 (s : Int), v7_5] := hf 1 (by decide)
    obtain ⟨v12_2, h2, -⟩ := hf 2 (by decide)
    obtain ⟨v12_3, h3, -⟩ := hf 3 (by decide)
    obtain ⟨v12_4, h4, hu4⟩ := hf 4 (by decide)
    have HU12_4 := Lib.hid hu4
    clear hu4
    have h5 : f 5 = .int .i64 0 := hf 5 (by decide)
    obtain ⟨b12_6, h6, hgb6, hhb6⟩ := hf 6 (by decide)
    clear hf hap
    clear zsz z11 z13
    subst ha0
    simp only [slotsSat12, putAll, h0, h1, h2, h3, h4, h5, h6, Act.put, List.setIfInBounds_toArray, List.set_cons_zero, List.set_cons_succ]
    clear h0 h1 h2 h3 h4 h5 h6
    refine tl_store rfl (by kernel_rfl) 26 (.tmp 19) (.tmp 86) rfl b12_6 ([.int .u64 (s : Int), v12_4]) _ rfl rfl _ hhb6 (by kernel_rfl) rfl (tb_ones _ HU12_4.out.one) ?_
    intro u12 hp6 hbl hot
    replace hS := hS.trans (hbl _ hgb6)
    replace HU12_4 := Lib.hid (HU12_4.out.hotb hhb6 ⟨_, _, _, rfl⟩ (by decide) (hbl 0 (Nat.zero_le _)).size hot)
    clear hbl hot hhb6
    try simp only [Act.put]
    refine tl_pure rfl (by kernel_rfl) (.int .i64 0) (ex_assign (.tmp 87) rfl rfl) ?_
    try simp only [Act.put, List.setIfInBounds_toArray, List.set_cons_zero, List.set_cons_succ]
    refine tl_nil ?_
    replace HU5_1 := Lib.hid (HU5_1.out.keep hS)
    replace HU5_3 := Lib.hid (HU5_3.out.keep hS)
    replace HX_b6_7 := Lib.hid (HX_b6_7.out.keepB hS)
    replace HU6_5 := Lib.hid (HU6_5.out.keep hS)
    replace HX_b7_7 := Lib.hid (HX_b7_7.out.keepB hS)
    replace HU7_5 := Lib.hid (HU7_5.out.keep hS)
    replace HX_b10_9 := Lib.hid (HX_b10_9.out.keepB hS)
    replace HU10_4 := Lib.hid (HU10_4.out.keep hS)
    replace HU10_7 := Lib.hid (HU10_7.out.keep hS)
    replace HX_b11_9 := Lib.hid (HX_b11_9.out.keepB hS)
    replace HU11_4 := Lib.hid (HU11_4.out.keep hS)
    replace HU11_7 := Lib.hid (HU11_7.out.keep hS)
    have HBW := Lib.hid HB.out.size
    replace HB := Lib.hid (HB.out.trans (hS.mono HB.out.size))
    clear hS
    have HGb12_6 : Hid (w.heap.size ≤ b12_6) := Lib.hid (Nat.le_trans HBW.out hgb6)
    have HX_b12_6 : Hid (Has u12 b12_6 26 ([.int .u64 (s : Int), v12_4])) := Lib.hid hp6
    clear hp6 hgb6
    clear HBW
    go_upto_region 13 with fail
    refine wp_act (fun a0 ha0 => ?_)
    have zsz : a0.tmps.size = 124 := by rw [ha0]; rfl
    have z15 : a0.eval (.tmp 15) = .pointer (some ⟨b10_9, 0, none⟩) := by rw [ha0]; rfl
    have z17 : a0.eval (.tmp 17) = .pointer (some ⟨b11_9, 0, none⟩) := by rw [ha0]; rfl
    refine wp_region_flwo (E := Flz) [] slotsSat13 waitSat13 [Fct.val Flz 0 (.agg #[.int .u64 (s : Int), v10_7]), Fct.val Flz 1 (.agg #[.int .u64 (s : Int), v11_7]), Fct.obj 2 (fun v w => ∃ zz, v = .tuple #[.agg #[.int .u64 (s : Int), zz], .int .i64 0] ∧ Cs w zz (List.zipWith minusC (tab s m (minU (srt ((la).map fewS)) (srt ((lb).map fewS)))) (tab s m (minU (srt ((lb).map fewS)) (srt ((la).map fewS)))))) (fun _ _ _ ⟨zz, a, b⟩ he => ⟨zz, a, b.flz he⟩), Fct.obj 3 (fun v w => ∃ zz, v = .tuple #[.agg #[.int .u64 (s : Int), zz], .int .i64 0] ∧ Cs w zz (List.zipWith minusC (tab s m (minU (srt ((la).map fewS)) (srt ((lb).map fewS)))) (tab s m (minU (srt ((lb).map fewS)) (srt ((la).map fewS)))))) (fun _ _ _ ⟨zz, a, b⟩ he => ⟨zz, a, b.flz he⟩), Fct.obj 4 (fun v w => ∃ zz, v = .agg #[.int .u64 (s : Int), zz] ∧ Cs w zz (List.zipWith minusC (tab s m (minU (srt ((la).map fewS)) (srt ((lb).map fewS)))) (tab s m (minU (srt ((lb).map fewS)) (srt ((la).map fewS)))))) (fun _ _ _ ⟨zz, a, b⟩ he => ⟨zz, a, b.flz he⟩), Fct.val Flz 5 (.int .i64 0), Fct.obj 6 (fun v w => ∃ g, v = .pointer (some ⟨g, 0, none⟩) ∧ u12.heap.size ≤ g ∧ Has w g 26 ([.int .u64 0, .slice none 0 0])) (fun _ _ _ ⟨g, a, b, c⟩ he => ⟨g, a, b, c.flz he (by decide)⟩)] (fun w' => Below u12.heap.size u12 w') _ 7 2 chkSat13 (by kernel_rfl) (by kernel_rfl) (by kernel_rfl) (by decide) (Below.refl _ _) ?_ ?_
    · refine lt_s (lt_s (lt_s (lt_s (lt_s (lt_s (lt_s (lt_0) ?_) ?_) ?_) ?_) ?_) ?_) ?_
      · intro f w1 hS hf
        generalize hA : putAll _ _ f = aA
        have r15 : aA.eval (.tmp 15) = .pointer (some ⟨b10_9, 0, none⟩) := by rw [← hA]; exact putAll_off f 15 slotsSat13 a0 (by kernel_rfl) z15
        exact flw_val rfl rfl (.agg #[.int .u64 (s : Int), v10_7]) (ex_loadR 26 (.tmp 15) rfl ⟨b10_9, 0, none⟩ r15 (fun _ => by kernel_rfl) [.int .u64 (s : Int), v10_7] (by kernel_rfl) ((HX_b10_9.out.keepB hS).part [.int .u64 (s : Int), v10_7] 0 (fun j u hu => by rw [Nat.zero_add]; exact hu))) hS (Flz.refl _) (updF_self _ _ _)
      · intro f w1 hS hf
        generalize hA : putAll _ _ f = aA
        have r17 : aA.eval (.tmp 17) = .pointer (some ⟨b11_9, 0, none⟩) := by rw [← hA]; exact putAll_off f 17 slotsSat13 a0 (by kernel_rfl) z17
        exact flw_val rfl rfl (.agg #[.int .u64 (s : Int), v11_7]) (ex_loadR 26 (.tmp 17) rfl ⟨b11_9, 0, none⟩ r17 (fun _ => by kernel_rfl) [.int .u64 (s : Int), v11_7] (by kernel_rfl) ((HX_b11_9.out.keepB hS).part [.int .u64 (s : Int), v11_7] 0 (fun j u hu => by rw [Nat.zero_add]; exact hu))) hS (Flz.refl _) (updF_self _ _ _)
      · intro f w1 hS hf
        generalize hA : putAll _ _ f = aA
        have h89 : f 0 = .agg #[.int .u64 (s : Int), v10_7] := hf 0 (by decide)
        have r89 : aA.eval (.tmp 89) = .agg #[.int .u64 (s : Int), v10_7] := by rw [← hA]; exact putAll_at f 89 0 slotsSat13 a0 sbSat13 (by kernel_rfl) zsz rfl h89
        have h90 : f 1 = .agg #[.int .u64 (s : Int), v11_7] := hf 1 (by decide)
        have r90 : aA.eval (.tmp 90) = .agg #[.int .u64 (s : Int), v11_7] := by rw [← hA]; exact putAll_at f 90 1 slotsSat13 a0 sbSat13 (by kernel_rfl) zsz rfl h90
        exact flw_call rfl rfl 10 #[(.tmp 89), (.tmp 90)] _ rfl #[.agg #[.int .u64 (s : Int), v10_7], .agg #[.int .u64 (s : Int), v11_7]] (by simp only [List.map_toArray, List.map_cons, List.map_nil, r89, r90]) (fun w => by kernel_rfl) (fun v w' => ∃ zz, v = .tuple #[.agg #[.int .u64 (s : Int), zz], .int .i64 0] ∧ Cs w' zz (List.zipWith minusC (tab s m (minU (srt ((la).map fewS)) (srt ((lb).map fewS)))) (tab s m (minU (srt ((lb).map fewS)) (srt ((la).map fewS)))))) (minusT_t s _ _ s _ _ (tab_ok HGM.out) w1 (tab_small HM4.out) (HU10_7.out.keep hS) (HU11_7.out.keep hS)) (fun v w' hr hb => ⟨hS.trans (hb.mono hS.size), Flz.of hb, by obtain ⟨zz, a, b⟩ := hr; exact ⟨zz, (updF_self _ _ _).trans a, b⟩⟩)
      · intro f w1 hS hf
        generalize hA : putAll _ _ f = aA
        obtain ⟨x91, hx91, hr91⟩ := hf 2 (by decide)
        have e91 : aA.eval (.tmp 91) = .tuple #[.agg #[.int .u64 (s : Int), x91], .int .i64 0] := by rw [← hA]; exact putAll_at f 91 2 slotsSat13 a0 sbSat13 (by kernel_rfl) zsz rfl hx91
        exact flw_val rfl rfl (.tuple #[.agg #[.int .u64 (s : Int), x91], .int .i64 0]) (ex_move (.tmp 91) rfl e91) hS (Flz.refl _) ⟨x91, updF_self _ _ _, hr91⟩
      · intro f w1 hS hf
        generalize hA : putAll _ _ f = aA
        obtain ⟨x88, hx88, hr88⟩ := hf 3 (by decide)
        have e88 : aA.eval (.tmp 88) = .tuple #[.agg #[.int .u64 (s : Int), x88], .int .i64 0] := by rw [← hA]; exact putAll_at f 88 3 slotsSat13 a0 sbSat13 (by kernel_rfl) zsz rfl hx88
        exact flw_val rfl rfl (.agg #[.int .u64 (s : Int), x88]) (ex_extract (.tmp 88) 0 rfl e88 rfl) hS (Flz.refl _) ⟨x88, updF_self _ _ _, hr88⟩
      · intro f w1 hS hf
        generalize hA : putAll _ _ f = aA
        obtain ⟨x88, hx88, hr88⟩ := hf 3 (by decide)
        have e88 : aA.eval (.tmp 88) = .tuple #[.agg #[.int .u64 (s : Int), x88], .int .i64 0] := by rw [← hA]; exact putAll_at f 88 3 slotsSat13 a0 sbSat13 (by kernel_rfl) zsz rfl hx88
        exact flw_val rfl rfl (.int .i64 0) (ex_extract (.tmp 88) 1 rfl e88 rfl) hS (Flz.refl _) (updF_self _ _ _)
      · intro f w1 hS hf
        generalize hA : putAll _ _ f = aA
        exact flw_wp rfl rfl (fun K hK => wp_alloc_row 26 rfl (.agg #[.int .u64 0, .slice none 0 0]) (fun w => by kernel_rfl) (hK _ _ (hS.alloc hS.size _) (Flz.al _ _) ⟨_, updF_self _ _ _, hS.size, Has.made' _ _ _ _ rfl⟩))
    intro f x13 hS hf hap
    have h0 : f 0 = .agg #[.int .u64 (s : Int), v10_7] := hf 0 (by decide)
    have h1 : f 1 = .agg #[.int .u64 (s : Int), v11_7] := hf 1 (by decide)
    obtain ⟨v13_2, h2, -⟩ := hf 2 (by decide)
    obtain ⟨v13_3, h3, -⟩ := hf 3 (by decide)
    obtain ⟨v13_4, h4, hu4⟩ := hf 4 (by decide)
    have HU13_4 := Lib.hid hu4
    clear hu4
    have h5 : f 5 = .int .i64 0 := hf 5 (by decide)
    obtain ⟨b13_6, h6, hgb6, hhb6⟩ := hf 6 (by decide)
    clear hf hap
    clear zsz z15 z17
    subst ha0
    simp only [slotsSat13, putAll, h0, h1, h2, h3, h4, h5, h6, Act.put, List.setIfInBounds_toArray, List.set_cons_zero, List.set_cons_succ]
    clear h0 h1 h2 h3 h4 h5 h6
    refine tl_store rfl (by kernel_rfl) 26 (.tmp 21) (.tmp 92) rfl b13_6 ([.int .u64 (s : Int), v13_4]) _ rfl rfl _ hhb6 (by kernel_rfl) rfl (tb_ones _ HU13_4.out.one) ?_
    intro u13 hp6 hbl hot
    replace hS := hS.trans (hbl _ hgb6)
    replace HU13_4 := Lib.hid (HU13_4.out.hotb hhb6 ⟨_, _, _, rfl⟩ (by decide) (hbl 0 (Nat.zero_le _)).size hot)
    clear hbl hot hhb6
    try simp only [Act.put]
    refine tl_pure rfl (by kernel_rfl) (.int .i64 0) (ex_assign (.tmp 93) rfl rfl) ?_
    try simp only [Act.put, List.setIfInBounds_toArray, List.set_cons_zero, List.set_cons_succ]
    refine tl_nil ?_
    replace HU5_1 := Lib.hid (HU5_1.out.keep hS)
    replace HU5_3 := Lib.hid (HU5_3.out.keep hS)
    replace HX_b6_7 := Lib.hid (HX_b6_7.out.keepB hS)
    replace HU6_5 := Lib.hid (HU6_5.out.keep hS)
    replace HX_b7_7 := Lib.hid (HX_b7_7.out.keepB hS)
    replace HU7_5 := Lib.hid (HU7_5.out.keep hS)
    replace HX_b10_9 := Lib.hid (HX_b10_9.out.keepB hS)
    replace HU10_4 := Lib.hid (HU10_4.out.keep hS)
    replace HU10_7 := Lib.hid (HU10_7.out.keep hS)
    replace HX_b11_9 := Lib.hid (HX_b11_9.out.keepB hS)
    replace HU11_4 := Lib.hid (HU11_4.out.keep hS)
    replace HU11_7 := Lib.hid (HU11_7.out.keep hS)
    replace HX_b12_6 := Lib.hid (HX_b12_6.out.keepB hS)
    replace HU12_4 := Lib.hid (HU12_4.out.keep hS)
    have HBW := Lib.hid HB.out.size
    replace HB := Lib.hid (HB.out.trans (hS.mono HB.out.size))
    clear hS
    have HGb13_6 : Hid (w.heap.size ≤ b13_6) := Lib.hid (Nat.le_trans HBW.out hgb6)
    have HX_b13_6 : Hid (Has u13 b13_6 26 ([.int .u64 (s : Int), v13_4])) := Lib.hid hp6
    clear hp6 hgb6
    clear HBW
    go_upto_region 14 with fail
    have HST : Hid (Below u13.heap.size u13 u13.drew) := Lib.hid (Below.refl _ _).drew
    replace HU5_1 := Lib.hid (HU5_1.out.keep HST.out)
    replace HU5_3 := Lib.hid (HU5_3.out.keep HST.out)
    replace HX_b6_7 := Lib.hid (HX_b6_7.out.keepB HST.out)
    replace HU6_5 := Lib.hid (HU6_5.out.keep HST.out)
    replace HX_b7_7 := Lib.hid (HX_b7_7.out.keepB HST.out)
    replace HU7_5 := Lib.hid (HU7_5.out.keep HST.out)
    replace HX_b10_9 := Lib.hid (HX_b10_9.out.keepB HST.out)
    replace HU10_4 := Lib.hid (HU10_4.out.keep HST.out)
    replace HU10_7 := Lib.hid (HU10_7.out.keep HST.out)
    replace HX_b11_9 := Lib.hid (HX_b11_9.out.keepB HST.out)
    replace HU11_4 := Lib.hid (HU11_4.out.keep HST.out)
    replace HU11_7 := Lib.hid (HU11_7.out.keep HST.out)
    replace HX_b12_6 := Lib.hid (HX_b12_6.out.keepB HST.out)
    replace HU12_4 := Lib.hid (HU12_4.out.keep HST.out)
    replace HX_b13_6 := Lib.hid (HX_b13_6.out.keepB HST.out)
    replace HU13_4 := Lib.hid (HU13_4.out.keep HST.out)
    replace HB := Lib.hid (HB.out.trans (HST.out.mono HB.out.size))
    clear HST
    refine wp_act (fun a0 ha0 => ?_)
    have zsz : a0.tmps.size = 124 := by rw [ha0]; rfl
    have z20 : a0.eval (.tmp 20) = .int .i64 0 := by rw [ha0]; rfl
    have z22 : a0.eval (.tmp 22) = .int .i64 0 := by rw [ha0]; rfl
    have z19 : a0.eval (.tmp 19) = .pointer (some ⟨b12_6, 0, none⟩) := by rw [ha0]; rfl
    have z21 : a0.eval (.tmp 21) = .pointer (some ⟨b13_6, 0, none⟩) := by rw [ha0]; rfl
    have z9 : a0.eval (.tmp 9) = v5_1 := by rw [ha0]; rfl
    have z10 : a0.eval (.tmp 10) = v5_3 := by rw [ha0]; rfl
    have z11 : a0.eval (.tmp 11) = .pointer (some ⟨b6_7, 0, none⟩) := by rw [ha0]; rfl
    refine wp_region_flw (E := Flz) [] slotsSat14 waitSat14 [Fct.val Flz 0 (.int .i64 0), Fct.val Flz 1 (.bool true), Fct.val Flz 2 (.bool true), Fct.val Flz 3 (.int .i64 0), Fct.val Flz 4 (.bool true), Fct.val Flz 5 (.bool true), Fct.val Flz 6 (.bool true), Fct.val Flz 7 (.agg #[.int .u64 (s : Int), v12_4]), Fct.obj 8 (fun v w => ∃ zz, v = .agg #[.int .u64 (s : Int), zz] ∧ Cs w zz (List.zipWith minusC (tab s m (srt ((la).map fewS))) (tab s m (srt ((lb).map fewS))))) (fun _ _ _ ⟨zz, a, b⟩ he => ⟨zz, a, b.flz he⟩), Fct.val Flz 9 (.agg #[.int .u64 (s : Int), v13_4]), Fct.obj 10 (fun v w => ∃ zz, v = .agg #[.int .u64 (s : Int), zz] ∧ Cs w zz (List.zipWith minusC (tab s m (minU (srt ((la).map fewS)) (srt ((lb).map fewS)))) (tab s m (minU (srt ((lb).map fewS)) (srt ((la).map fewS)))))) (fun _ _ _ ⟨zz, a, b⟩ he => ⟨zz, a, b.flz he⟩), Fct.val Flz 11 (.bool true), Fct.val Flz 12 (.bool true), Fct.val Flz 13 (.bool true), Fct.val Flz 14 (.agg #[.int .u64 (s : Int), v12_4]), Fct.val Flz 15 (.int .i64 (cntT (List.zipWith minusC (tab s m (srt ((la).map fewS))) (tab s m (srt ((lb).map fewS)))))), Fct.val Flz 16 (v5_1), Fct.val Flz 17 (.int .i64 (((srt ((la).map fewS)).length : Int))), Fct.val Flz 18 (v5_3), Fct.val Flz 19 (.int .i64 (((srt ((lb).map fewS)).length : Int))), Fct.val Flz 20 (.int .i64 (((srt ((la).map fewS)).length : Int) - ((srt ((lb).map fewS)).length : Int))), Fct.val Flz 21 (.bool true), Fct.val Flz 22 (.bool true), Fct.val Flz 23 (.bool true), Fct.val Flz 24 (.agg #[.int .u64 (s : Int), v6_5]), Fct.val Flz 25 (.int .i64 (cntT (tab s m (srt ((la).map fewS))))), Fct.val Flz 26 (v5_1), Fct.val Flz 27 (.int .i64 (((srt ((la).map fewS)).length : Int))), Fct.val Flz 28 (.bool true), Fct.val Flz 29 (.bool true), Fct.val Flz 30 (.bool true)] (fun w' => Below u13.drew.heap.size u13.drew w') _ 31 0 chkSat14 (by kernel_rfl) (by kernel_rfl) (by kernel_rfl) (by kernel_rfl) (by decide) (Below.refl _ _) ?_ ?_
    · refine lt_s (lt_s (lt_s (lt_s (lt_s (lt_s (lt_s (lt_s (lt_s (lt_s (lt_s (lt_s (lt_s (lt_s (lt_s (lt_s (lt_s (lt_s (lt_s (lt_s (lt_s (lt_s (lt_s (lt_s (lt_s (lt_s (lt_s (lt_s (lt_s (lt_s (lt_s (lt_0) ?_) ?_) ?_) ?_) ?_) ?_) ?_) ?_) ?_) ?_) ?_) ?_) ?_) ?_) ?_) ?_) ?_) ?_) ?_) ?_) ?_) ?_) ?_) ?_) ?_) ?_) ?_) ?_) ?_) ?_) ?_
      · intro f w1 hS hf
        generalize hA : putAll _ _ f = aA
        have r20 : aA.eval (.tmp 20) = .int .i64 0 := by rw [← hA]; exact putAll_off f 20 slotsSat14 a0 (by kernel_rfl) z20
        exact flw_val rfl rfl (.int .i64 0) (ex_move (.tmp 20) rfl r20) hS (Flz.refl _) (updF_self _ _ _)
      · intro f w1 hS hf
        generalize hA : putAll _ _ f = aA
        have h94 : f 0 = .int .i64 0 := hf 0 (by decide)
        have r94 : aA.eval (.tmp 94) = .int .i64 0 := by rw [← hA]; exact putAll_at f 94 0 slotsSat14 a0 sbSat14 (by kernel_rfl) zsz rfl h94
        exact flw_val rfl rfl (.bool true) (Eq.trans (ex_int .eql _ _ (.tmp 94) _ rfl .i64 0 0 r94 rfl (.bool ((0 : Int) == (0 : Int))) (fun _ => rfl)) (by rw [(by decide : ((0 : Int) == (0 : Int)) = true)])) hS (Flz.refl _) (updF_self _ _ _)
      · intro f w1 hS hf
        generalize hA : putAll _ _ f = aA
        have h95 : f 1 = .bool true := hf 1 (by decide)
        have r95 : aA.eval (.tmp 95) = .bool true := by rw [← hA]; exact putAll_at f 95 1 slotsSat14 a0 sbSat14 (by kernel_rfl) zsz rfl h95
        exact flw_val rfl rfl (.bool true) (ex_move (.tmp 95) rfl r95) hS (Flz.refl _) (updF_self _ _ _)
      · intro f w1 hS hf
        generalize hA : putAll _ _ f = aA
        have g96 : f 2 = .bool true := hf 2 (by decide)
        have t96 : aA.tmps[96]? = some (.bool true) := by rw [← hA]; exact putAll_g f 96 2 slotsSat14 a0 sbSat14 (by kernel_rfl) zsz rfl g96
        have r22 : aA.eval (.tmp 22) = .int .i64 0 := by rw [← hA]; exact putAll_off f 22 slotsSat14 a0 (by kernel_rfl) z22
        exact flw_val rfl ((wanted_of rfl 96 rfl t96).trans rfl) (.int .i64 0) (ex_move (.tmp 22) rfl r22) hS (Flz.refl _) (updF_self _ _ _)
      · intro f w1 hS hf
        generalize hA : putAll _ _ f = aA
        have g96 : f 2 = .bool true := hf 2 (by decide)
        have t96 : aA.tmps[96]? = some (.bool true) := by rw [← hA]; exact putAll_g f 96 2 slotsSat14 a0 sbSat14 (by kernel_rfl) zsz rfl g96
        have h97 : f 3 = .int .i64 0 := hf 3 (by decide)
        have r97 : aA.eval (.tmp 97) = .int .i64 0 := by rw [← hA]; exact putAll_at f 97 3 slotsSat14 a0 sbSat14 (by kernel_rfl) zsz rfl h97
        exact flw_val rfl ((wanted_of rfl 96 rfl t96).trans rfl) (.bool true) (Eq.trans (ex_int .eql _ _ (.tmp 97) _ rfl .i64 0 0 r97 rfl (.bool ((0 : Int) == (0 : Int))) (fun _ => rfl)) (by rw [(by decide : ((0 : Int) == (0 : Int)) = true)])) hS (Flz.refl _) (updF_self _ _ _)
      · intro f w1 hS hf
        generalize hA : putAll _ _ f = aA
        have h96 : f 2 = .bool true := hf 2 (by decide)
        have r96 : aA.eval (.tmp 96) = .bool true := by rw [← hA]; exact putAll_at f 96 2 slotsSat14 a0 sbSat14 (by kernel_rfl) zsz rfl h96
        have h98 : f 4 = .bool true := hf 4 (by decide)
        have r98 : aA.eval (.tmp 98) = .bool true := by rw [← hA]; exact putAll_at f 98 4 slotsSat14 a0 sbSat14 (by kernel_rfl) zsz rfl h98
        exact flw_val rfl rfl (.bool true) (ex_pick (.tmp 96) (.tmp 98) _ rfl true r96 ((if_pos rfl).trans r98)) hS (Flz.refl _) (updF_self _ _ _)
      · intro f w1 hS hf
        generalize hA : putAll _ _ f = aA
        have h99 : f 5 = .bool true := hf 5 (by decide)
        have r99 : aA.eval (.tmp 99) = .bool true := by rw [← hA]; exact putAll_at f 99 5 slotsSat14 a0 sbSat14 (by kernel_rfl) zsz rfl h99
        exact flw_val rfl rfl (.bool true) (ex_move (.tmp 99) rfl r99) hS (Flz.refl _) (updF_self _ _ _)
      · intro f w1 hS hf
        generalize hA : putAll _ _ f = aA
        have g100 : f 6 = .bool true := hf 6 (by decide)
        have t100 : aA.tmps[100]? = some (.bool true) := by rw [← hA]; exact putAll_g f 100 6 slotsSat14 a0 sbSat14 (by kernel_rfl) zsz rfl g100
        have r19 : aA.eval (.tmp 19) = .pointer (some ⟨b12_6, 0, none⟩) := by rw [← hA]; exact putAll_off f 19 slotsSat14 a0 (by kernel_rfl) z19
        exact flw_val rfl ((wanted_of rfl 100 rfl t100).trans rfl) (.agg #[.int .u64 (s : Int), v12_4]) (ex_loadR 26 (.tmp 19) rfl ⟨b12_6, 0, none⟩ r19 (fun _ => by kernel_rfl) [.int .u64 (s : Int), v12_4] (by kernel_rfl) ((HX_b12_6.out.keepB hS).part [.int .u64 (s : Int), v12_4] 0 (fun j u hu => by rw [Nat.zero_add]; exact hu))) hS (Flz.refl _) (updF_self _ _ _)
      · intro f w1 hS hf
        generalize hA : putAll _ _ f = aA
        have g100 : f 6 = .bool true := hf 6 (by decide)
        have t100 : aA.tmps[100]? = some (.bool true) := by rw [← hA]; exact putAll_g f 100 6 slotsSat14 a0 sbSat14 (by kernel_rfl) zsz rfl g100
        have h101 : f 7 = .agg #[.int .u64 (s : Int), v12_4] := hf 7 (by decide)
        have r101 : aA.eval (.tmp 101) = .agg #[.int .u64 (s : Int), v12_4] := by rw [← hA]; exact putAll_at f 101 7 slotsSat14 a0 sbSat14 (by kernel_rfl) zsz rfl h101
        exact flw_call rfl ((wanted_of rfl 100 rfl t100).trans rfl) 15 #[(.tmp 101)] _ rfl #[.agg #[.int .u64 (s : Int), v12_4]] (by simp only [List.map_toArray, List.map_cons, List.map_nil, r101]) (fun w => by kernel_rfl) (fun v w' => ∃ zz, v = .agg #[.int .u64 (s : Int), zz] ∧ Cs w' zz (List.zipWith minusC (tab s m (srt ((la).map fewS))) (tab s m (srt ((lb).map fewS))))) (tableOf_any s _ _ w1 (Nat.le_trans (zip_small5 HM4.out) (show 10000 ≤ 100000 by decide)) (HU12_4.out.keep hS)) (fun v w' hr hb => ⟨hS.trans (hb.mono hS.size), Flz.of hb, by obtain ⟨zz, a, b⟩ := hr; exact ⟨zz, (updF_self _ _ _).trans a, b⟩⟩)
      · intro f w1 hS hf
        generalize hA : putAll _ _ f = aA
        have g100 : f 6 = .bool true := hf 6 (by decide)
        have t100 : aA.tmps[100]? = some (.bool true) := by rw [← hA]; exact putAll_g f 100 6 slotsSat14 a0 sbSat14 (by kernel_rfl) zsz rfl g100
        have r21 : aA.eval (.tmp 21) = .pointer (some ⟨b13_6, 0, none⟩) := by rw [← hA]; exact putAll_off f 21 slotsSat14 a0 (by kernel_rfl) z21
        exact flw_val rfl ((wanted_of rfl 100 rfl t100).trans rfl) (.agg #[.int .u64 (s : Int), v13_4]) (ex_loadR 26 (.tmp 21) rfl ⟨b13_6, 0, none⟩ r21 (fun _ => by kernel_rfl) [.int .u64 (s : Int), v13_4] (by kernel_rfl) ((HX_b13_6.out.keepB hS).part [.int .u64 (s : Int), v13_4] 0 (fun j u hu => by rw [Nat.zero_add]; exact hu))) hS (Flz.refl _) (updF_self _ _ _)
      · intro f w1 hS hf
        generalize hA : putAll _ _ f = aA
        have g100 : f 6 = .bool true := hf 6 (by decide)
        have t100 : aA.tmps[100]? = some (.bool true) := by rw [← hA]; exact putAll_g f 100 6 slotsSat14 a0 sbSat14 (by kernel_rfl) zsz rfl g100
        have h103 : f 9 = .agg #[.int .u64 (s : Int), v13_4] := hf 9 (by decide)
        have r103 : aA.eval (.tmp 103) = .agg #[.int .u64 (s : Int), v13_4] := by rw [← hA]; exact putAll_at f 103 9 slotsSat14 a0 sbSat14 (by kernel_rfl) zsz rfl h103
        exact flw_call rfl ((wanted_of rfl 100 rfl t100).trans rfl) 15 #[(.tmp 103)] _ rfl #[.agg #[.int .u64 (s : Int), v13_4]] (by simp only [List.map_toArray, List.map_cons, List.map_nil, r103]) (fun w => by kernel_rfl) (fun v w' => ∃ zz, v = .agg #[.int .u64 (s : Int), zz] ∧ Cs w' zz (List.zipWith minusC (tab s m (minU (srt ((la).map fewS)) (srt ((lb).map fewS)))) (tab s m (minU (srt ((lb).map fewS)) (srt ((la).map fewS)))))) (tableOf_any s _ _ w1 (Nat.le_trans (zip_small5 HM4.out) (show 10000 ≤ 100000 by decide)) (HU13_4.out.keep hS)) (fun v w' hr hb => ⟨hS.trans (hb.mono hS.size), Flz.of hb, by obtain ⟨zz, a, b⟩ := hr; exact ⟨zz, (updF_self _ _ _).trans a, b⟩⟩)
      · intro f w1 hS hf
        generalize hA : putAll _ _ f = aA
        have g100 : f 6 = .bool true := hf 6 (by decide)
        have t100 : aA.tmps[100]? = some (.bool true) := by rw [← hA]; exact putAll_g f 100 6 slotsSat14 a0 sbSat14 (by kernel_rfl) zsz rfl g100
        obtain ⟨x102, hx102, hr102⟩ := hf 8 (by decide)
        have e102 : aA.eval (.tmp 102) = .agg #[.int .u64 (s : Int), x102] := by rw [← hA]; exact putAll_at f 102 8 slotsSat14 a0 sbSat14 (by kernel_rfl) zsz rfl hx102
        obtain ⟨x104, hx104, hr104⟩ := hf 10 (by decide)
        have e104 : aA.eval (.tmp 104) = .agg #[.int .u64 (s : Int), x104] := by rw [← hA]; exact putAll_at f 104 10 slotsSat14 a0 sbSat14 (by kernel_rfl) zsz rfl hx104
        exact flw_call rfl ((wanted_of rfl 100 rfl t100).trans rfl) 14 #[(.tmp 102), (.tmp 104)] _ rfl #[.agg #[.int .u64 (s : Int), x102], .agg #[.int .u64 (s : Int), x104]] (by simp only [List.map_toArray, List.map_cons, List.map_nil, e102, e104]) (fun w => by kernel_rfl) (fun v _ => v = .bool true) (as_any (sameT_any s _ _ s _ _ w1 (zip_small HM4.out) hr102 hr104) (congrArg Value.bool (same_tu s (apart_zip (asc_few la) (asc_few lb) (List.replicate m zC))))) (fun v w' hr hb => ⟨hS.trans (hb.mono hS.size), Flz.of hb, (updF_self _ _ _).trans hr⟩)
      · intro f w1 hS hf
        generalize hA : putAll _ _ f = aA
        have h100 : f 6 = .bool true := hf 6 (by decide)
        have r100 : aA.eval (.tmp 100) = .bool true := by rw [← hA]; exact putAll_at f 100 6 slotsSat14 a0 sbSat14 (by kernel_rfl) zsz rfl h100
        have h105 : f 11 = .bool true := hf 11 (by decide)
        have r105 : aA.eval (.tmp 105) = .bool true := by rw [← hA]; exact putAll_at f 105 11 slotsSat14 a0 sbSat14 (by kernel_rfl) zsz rfl h105
        exact flw_val rfl rfl (.bool true) (ex_pick (.tmp 100) (.tmp 105) _ rfl true r100 ((if_pos rfl).trans r105)) hS (Flz.refl _) (updF_self _ _ _)
      · intro f w1 hS hf
        generalize hA : putAll _ _ f = aA
        have h106 : f 12 = .bool true := hf 12 (by decide)
        have r106 : aA.eval (.tmp 106) = .bool true := by rw [← hA]; exact putAll_at f 106 12 slotsSat14 a0 sbSat14 (by kernel_rfl) zsz rfl h106
        exact flw_val rfl rfl (.bool true) (ex_move (.tmp 106) rfl r106) hS (Flz.refl _) (updF_self _ _ _)
      · intro f w1 hS hf
        generalize hA : putAll _ _ f = aA
        have g107 : f 13 = .bool true := hf 13 (by decide)
        have t107 : aA.tmps[107]? = some (.bool true) := by rw [← hA]; exact putAll_g f 107 13 slotsSat14 a0 sbSat14 (by kernel_rfl) zsz rfl g107
        have r19 : aA.eval (.tmp 19) = .pointer (some ⟨b12_6, 0, none⟩) := by rw [← hA]; exact putAll_off f 19 slotsSat14 a0 (by kernel_rfl) z19
        exact flw_val rfl ((wanted_of rfl 107 rfl t107).trans rfl) (.agg #[.int .u64 (s : Int), v12_4]) (ex_loadR 26 (.tmp 19) rfl ⟨b12_6, 0, none⟩ r19 (fun _ => by kernel_rfl) [.int .u64 (s : Int), v12_4] (by kernel_rfl) ((HX_b12_6.out.keepB hS).part [.int .u64 (s : Int), v12_4] 0 (fun j u hu => by rw [Nat.zero_add]; exact hu))) hS (Flz.refl _) (updF_self _ _ _)
      · intro f w1 hS hf
        generalize hA : putAll _ _ f = aA
        have g107 : f 13 = .bool true := hf 13 (by decide)
        have t107 : aA.tmps[107]? = some (.bool true) := by rw [← hA]; exact putAll_g f 107 13 slotsSat14 a0 sbSat14 (by kernel_rfl) zsz rfl g107
        have h108 : f 14 = .agg #[.int .u64 (s : Int), v12_4] := hf 14 (by decide)
        have r108 : aA.eval (.tmp 108) = .agg #[.int .u64 (s : Int), v12_4] := by rw [← hA]; exact putAll_at f 108 14 slotsSat14 a0 sbSat14 (by kernel_rfl) zsz rfl h108
        exact flw_call rfl ((wanted_of rfl 107 rfl t107).trans rfl) 13 #[(.tmp 108)] _ rfl #[.agg #[.int .u64 (s : Int), v12_4]] (by simp only [List.map_toArray, List.map_cons, List.map_nil, r108]) (fun w => by kernel_rfl) (fun v _ => v = .int .i64 (cntT (List.zipWith minusC (tab s m (srt ((la).map fewS))) (tab s m (srt ((lb).map fewS)))))) (countT_any _ _ _ w1 (zip_small HM4.out) (HU12_4.out.keep hS)) (fun v w' hr hb => ⟨hS.trans (hb.mono hS.size), Flz.of hb, (updF_self _ _ _).trans hr⟩)
      · intro f w1 hS hf
        generalize hA : putAll _ _ f = aA
        have g107 : f 13 = .bool true := hf 13 (by decide)
        have t107 : aA.tmps[107]? = some (.bool true) := by rw [← hA]; exact putAll_g f 107 13 slotsSat14 a0 sbSat14 (by kernel_rfl) zsz rfl g107
        have r9 : aA.eval (.tmp 9) = v5_1 := by rw [← hA]; exact putAll_off f 9 slotsSat14 a0 (by kernel_rfl) z9
        exact flw_val rfl ((wanted_of rfl 107 rfl t107).trans rfl) (v5_1) (ex_move (.tmp 9) rfl r9) hS (Flz.refl _) (updF_self _ _ _)
      · intro f w1 hS hf
        generalize hA : putAll _ _ f = aA
        have g107 : f 13 = .bool true := hf 13 (by decide)
        have t107 : aA.tmps[107]? = some (.bool true) := by rw [← hA]; exact putAll_g f 107 13 slotsSat14 a0 sbSat14 (by kernel_rfl) zsz rfl g107
        have h110 : f 16 = v5_1 := hf 16 (by decide)
        have r110 : aA.eval (.tmp 110) = v5_1 := by rw [← hA]; exact putAll_at f 110 16 slotsSat14 a0 sbSat14 (by kernel_rfl) zsz rfl h110
        obtain ⟨q9, c9, hv9, _⟩ := (HU5_1.out.keep hS)
        exact flw_val rfl ((wanted_of rfl 107 rfl t107).trans rfl) (.int .i64 (((srt ((la).map fewS)).length : Int))) (ex_len 44 41 (.tmp 110) rfl (by kernel_rfl) q9 (srt ((la).map fewS)).length c9 (r110.trans hv9)) hS (Flz.refl _) (updF_self _ _ _)
      · intro f w1 hS hf
        generalize hA : putAll _ _ f = aA
        have g107 : f 13 = .bool true := hf 13 (by decide)
        have t107 : aA.tmps[107]? = some (.bool true) := by rw [← hA]; exact putAll_g f 107 13 slotsSat14 a0 sbSat14 (by kernel_rfl) zsz rfl g107
        have r10 : aA.eval (.tmp 10) = v5_3 := by rw [← hA]; exact putAll_off f 10 slotsSat14 a0 (by kernel_rfl) z10
        exact flw_val rfl ((wanted_of rfl 107 rfl t107).trans rfl) (v5_3) (ex_move (.tmp 10) rfl r10) hS (Flz.refl _) (updF_self _ _ _)
      · intro f w1 hS hf
        generalize hA : putAll _ _ f = aA
        have g107 : f 13 = .bool true := hf 13 (by decide)
        have t107 : aA.tmps[107]? = some (.bool true) := by rw [← hA]; exact putAll_g f 107 13 slotsSat14 a0 sbSat14 (by kernel_rfl) zsz rfl g107
        have h112 : f 18 = v5_3 := hf 18 (by decide)
        have r112 : aA.eval (.tmp 112) = v5_3 := by rw [← hA]; exact putAll_at f 112 18 slotsSat14 a0 sbSat14 (by kernel_rfl) zsz rfl h112
        obtain ⟨q9, c9, hv9, _⟩ := (HU5_3.out.keep hS)
        exact flw_val rfl ((wanted_of rfl 107 rfl t107).trans rfl) (.int .i64 (((srt ((lb).map fewS)).length : Int))) (ex_len 44 41 (.tmp 112) rfl (by kernel_rfl) q9 (srt ((lb).map fewS)).length c9 (r112.trans hv9)) hS (Flz.refl _) (updF_self _ _ _)
      · intro f w1 hS hf
        generalize hA : putAll _ _ f = aA
        have g107 : f 13 = .bool true := hf 13 (by decide)
        have t107 : aA.tmps[107]? = some (.bool true) := by rw [← hA]; exact putAll_g f 107 13 slotsSat14 a0 sbSat14 (by kernel_rfl) zsz rfl g107
        have h111 : f 17 = .int .i64 (((srt ((la).map fewS)).length : Int)) := hf 17 (by decide)
        have r111 : aA.eval (.tmp 111) = .int .i64 (((srt ((la).map fewS)).length : Int)) := by rw [← hA]; exact putAll_at f 111 17 slotsSat14 a0 sbSat14 (by kernel_rfl) zsz rfl h111
        have h113 : f 19 = .int .i64 (((srt ((lb).map fewS)).length : Int)) := hf 19 (by decide)
        have r113 : aA.eval (.tmp 113) = .int .i64 (((srt ((lb).map fewS)).length : Int)) := by rw [← hA]; exact putAll_at f 113 19 slotsSat14 a0 sbSat14 (by kernel_rfl) zsz rfl h113
        exact flw_val rfl ((wanted_of rfl 107 rfl t107).trans rfl) (.int .i64 (((srt ((la).map fewS)).length : Int) - ((srt ((lb).map fewS)).length : Int))) (ex_int .sub _ _ (.tmp 111) (.tmp 113) rfl .i64 (((srt ((la).map fewS)).length : Int)) (((srt ((lb).map fewS)).length : Int)) r111 r113 (.int .i64 (((srt ((la).map fewS)).length : Int) - ((srt ((lb).map fewS)).length : Int))) ((fun w => by rw [← sub_len _ _ HLX.out HLY.out]; rfl))) hS (Flz.refl _) (updF_self _ _ _)
      · intro f w1 hS hf
        generalize hA : putAll _ _ f = aA
        have g107 : f 13 = .bool true := hf 13 (by decide)
        have t107 : aA.tmps[107]? = some (.bool true) := by rw [← hA]; exact putAll_g f 107 13 slotsSat14 a0 sbSat14 (by kernel_rfl) zsz rfl g107
        have h109 : f 15 = .int .i64 (cntT (List.zipWith minusC (tab s m (srt ((la).map fewS))) (tab s m (srt ((lb).map fewS))))) := hf 15 (by decide)
        have r109 : aA.eval (.tmp 109) = .int .i64 (cntT (List.zipWith minusC (tab s m (srt ((la).map fewS))) (tab s m (srt ((lb).map fewS))))) := by rw [← hA]; exact putAll_at f 109 15 slotsSat14 a0 sbSat14 (by kernel_rfl) zsz rfl h109
        have h114 : f 20 = .int .i64 (((srt ((la).map fewS)).length : Int) - ((srt ((lb).map fewS)).length : Int)) := hf 20 (by decide)
        have r114 : aA.eval (.tmp 114) = .int .i64 (((srt ((la).map fewS)).length : Int) - ((srt ((lb).map fewS)).length : Int)) := by rw [← hA]; exact putAll_at f 114 20 slotsSat14 a0 sbSat14 (by kernel_rfl) zsz rfl h114
        exact flw_val rfl ((wanted_of rfl 107 rfl t107).trans rfl) (.bool true) (Eq.trans (ex_int .eql _ _ (.tmp 109) (.tmp 114) rfl .i64 (cntT (List.zipWith minusC (tab s m (srt ((la).map fewS))) (tab s m (srt ((lb).map fewS))))) (((srt ((la).map fewS)).length : Int) - ((srt ((lb).map fewS)).length : Int)) r109 r114 (.bool ((cntT (List.zipWith minusC (tab s m (srt ((la).map fewS))) (tab s m (srt ((lb).map fewS))))) == (((srt ((la).map fewS)).length : Int) - ((srt ((lb).map fewS)).length : Int)))) (fun _ => rfl)) (by rw [(show ((cntT (List.zipWith minusC (tab s m (srt ((la).map fewS))) (tab s m (srt ((lb).map fewS))))) == (((srt ((la).map fewS)).length : Int) - ((srt ((lb).map fewS)).length : Int))) = true by rw [zip_cnt HGM.out HLX.out HLY.out]; simp)])) hS (Flz.refl _) (updF_self _ _ _)
      · intro f w1 hS hf
        generalize hA : putAll _ _ f = aA
        have h107 : f 13 = .bool true := hf 13 (by decide)
        have r107 : aA.eval (.tmp 107) = .bool true := by rw [← hA]; exact putAll_at f 107 13 slotsSat14 a0 sbSat14 (by kernel_rfl) zsz rfl h107
        have h115 : f 21 = .bool true := hf 21 (by decide)
        have r115 : aA.eval (.tmp 115) = .bool true := by rw [← hA]; exact putAll_at f 115 21 slotsSat14 a0 sbSat14 (by kernel_rfl) zsz rfl h115
        exact flw_val rfl rfl (.bool true) (ex_pick (.tmp 107) (.tmp 115) _ rfl true r107 ((if_pos rfl).trans r115)) hS (Flz.refl _) (updF_self _ _ _)
      · intro f w1 hS hf
        generalize hA : putAll _ _ f = aA
        have h116 : f 22 = .bool true := hf 22 (by decide)
        have r116 : aA.eval (.tmp 116) = .bool true := by rw [← hA]; exact putAll_at f 116 22 slotsSat14 a0 sbSat14 (by kernel_rfl) zsz rfl h116
        exact flw_val rfl rfl (.bool true) (ex_move (.tmp 116) rfl r116) hS (Flz.refl _) (updF_self _ _ _)
      · intro f w1 hS hf
        generalize hA : putAll _ _ f = aA
        have g117 : f 23 = .bool true := hf 23 (by decide)
        have t117 : aA.tmps[117]? = some (.bool true) := by rw [← hA]; exact putAll_g f 117 23 slotsSat14 a0 sbSat14 (by kernel_rfl) zsz rfl g117
        have r11 : aA.eval (.tmp 11) = .pointer (some ⟨b6_7, 0, none⟩) := by rw [← hA]; exact putAll_off f 11 slotsSat14 a0 (by kernel_rfl) z11
        exact flw_val rfl ((wanted_of rfl 117 rfl t117).trans rfl) (.agg #[.int .u64 (s : Int), v6_5]) (ex_loadR 26 (.tmp 11) rfl ⟨b6_7, 0, none⟩ r11 (fun _ => by kernel_rfl) [.int .u64 (s : Int), v6_5] (by kernel_rfl) ((HX_b6_7.out.keepB hS).part [.int .u64 (s : Int), v6_5] 0 (fun j u hu => by rw [Nat.zero_add]; exact hu))) hS (Flz.refl _) (updF_self _ _ _)
      · intro f w1 hS hf
        generalize hA : putAll _ _ f = aA
        have g117 : f 23 = .bool true := hf 23 (by decide)
        have t117 : aA.tmps[117]? = some (.bool true) := by rw [← hA]; exact putAll_g f 117 23 slotsSat14 a0 sbSat14 (by kernel_rfl) zsz rfl g117
        have h118 : f 24 = .agg #[.int .u64 (s : Int), v6_5] := hf 24 (by decide)
        have r118 : aA.eval (.tmp 118) = .agg #[.int .u64 (s : Int), v6_5] := by rw [← hA]; exact putAll_at f 118 24 slotsSat14 a0 sbSat14 (by kernel_rfl) zsz rfl h118
        exact flw_call rfl ((wanted_of rfl 117 rfl t117).trans rfl) 13 #[(.tmp 118)] _ rfl #[.agg #[.int .u64 (s : Int), v6_5]] (by simp only [List.map_toArray, List.map_cons, List.map_nil, r118]) (fun w => by kernel_rfl) (fun v _ => v = .int .i64 (cntT (tab s m (srt ((la).map fewS))))) (countT_any _ _ _ w1 (tab_small HM4.out) (HU6_5.out.keep hS)) (fun v w' hr hb => ⟨hS.trans (hb.mono hS.size), Flz.of hb, (updF_self _ _ _).trans hr⟩)
      · intro f w1 hS hf
        generalize hA : putAll _ _ f = aA
        have g117 : f 23 = .bool true := hf 23 (by decide)
        have t117 : aA.tmps[117]? = some (.bool true) := by rw [← hA]; exact putAll_g f 117 23 slotsSat14 a0 sbSat14 (by kernel_rfl) zsz rfl g117
        have r9 : aA.eval (.tmp 9) = v5_1 := by rw [← hA]; exact putAll_off f 9 slotsSat14 a0 (by kernel_rfl) z9
        exact flw_val rfl ((wanted_of rfl 117 rfl t117).trans rfl) (v5_1) (ex_move (.tmp 9) rfl r9) hS (Flz.refl _) (updF_self _ _ _)
      · intro f w1 hS hf
        generalize hA : putAll _ _ f = aA
        have g117 : f 23 = .bool true := hf 23 (by decide)
        have t117 : aA.tmps[117]? = some (.bool true) := by rw [← hA]; exact putAll_g f 117 23 slotsSat14 a0 sbSat14 (by kernel_rfl) zsz rfl g117
        have h120 : f 26 = v5_1 := hf 26 (by decide)
        have r120 : aA.eval (.tmp 120) = v5_1 := by rw [← hA]; exact putAll_at f 120 26 slotsSat14 a0 sbSat14 (by kernel_rfl) zsz rfl h120
        obtain ⟨q9, c9, hv9, _⟩ := (HU5_1.out.keep hS)
        exact flw_val rfl ((wanted_of rfl 117 rfl t117).trans rfl) (.int .i64 (((srt ((la).map fewS)).length : Int))) (ex_len 44 41 (.tmp 120) rfl (by kernel_rfl) q9 (srt ((la).map fewS)).length c9 (r120.trans hv9)) hS (Flz.refl _) (updF_self _ _ _)
      · intro f w1 hS hf
        generalize hA : putAll _ _ f = aA
        have g117 : f 23 = .bool true := hf 23 (by decide)
        have t117 : aA.tmps[117]? = some (.bool true) := by rw [← hA]; exact putAll_g f 117 23 slotsSat14 a0 sbSat14 (by kernel_rfl) zsz rfl g117
        have h119 : f 25 = .int .i64 (cntT (tab s m (srt ((la).map fewS)))) := hf 25 (by decide)
        have r119 : aA.eval (.tmp 119) = .int .i64 (cntT (tab s m (srt ((la).map fewS)))) := by rw [← hA]; exact putAll_at f 119 25 slotsSat14 a0 sbSat14 (by kernel_rfl) zsz rfl h119
        have h121 : f 27 = .int .i64 (((srt ((la).map fewS)).length : Int)) := hf 27 (by decide)
        have r121 : aA.eval (.tmp 121) = .int .i64 (((srt ((la).map fewS)).length : Int)) := by rw [← hA]; exact putAll_at f 121 27 slotsSat14 a0 sbSat14 (by kernel_rfl) zsz rfl h121
        exact flw_val rfl ((wanted_of rfl 117 rfl t117).trans rfl) (.bool true) (Eq.trans (ex_int .eql _ _ (.tmp 119) (.tmp 121) rfl .i64 (cntT (tab s m (srt ((la).map fewS)))) (((srt ((la).map fewS)).length : Int)) r119 r121 (.bool ((cntT (tab s m (srt ((la).map fewS)))) == (((srt ((la).map fewS)).length : Int)))) (fun _ => rfl)) (by rw [(show ((cntT (tab s m (srt ((la).map fewS)))) == (((srt ((la).map fewS)).length : Int))) = true by rw [tab_cnt HGM.out HLX.out]; simp)])) hS (Flz.refl _) (updF_self _ _ _)
      · intro f w1 hS hf
        generalize hA : putAll _ _ f = aA
        have h117 : f 23 = .bool true := hf 23 (by decide)
        have r117 : aA.eval (.tmp 117) = .bool true := by rw [← hA]; exact putAll_at f 117 23 slotsSat14 a0 sbSat14 (by kernel_rfl) zsz rfl h117
        have h122 : f 28 = .bool true := hf 28 (by decide)
        have r122 : aA.eval (.tmp 122) = .bool true := by rw [← hA]; exact putAll_at f 122 28 slotsSat14 a0 sbSat14 (by kernel_rfl) zsz rfl h122
        exact flw_val rfl rfl (.bool true) (ex_pick (.tmp 117) (.tmp 122) _ rfl true r117 ((if_pos rfl).trans r122)) hS (Flz.refl _) (updF_self _ _ _)
      · intro f w1 hS hf
        generalize hA : putAll _ _ f = aA
        have h123 : f 29 = .bool true := hf 29 (by decide)
        have r123 : aA.eval (.tmp 123) = .bool true := by rw [← hA]; exact putAll_at f 123 29 slotsSat14 a0 sbSat14 (by kernel_rfl) zsz rfl h123
        exact flw_val rfl rfl (.bool true) (ex_assign (.tmp 123) rfl r123) hS (Flz.refl _) (updF_self _ _ _)
    intro f u14 hS hf hap
    have h0 : f 0 = .int .i64 0 := hf 0 (by decide)
    have h1 : f 1 = .bool true := hf 1 (by decide)
    have h2 : f 2 = .bool true := hf 2 (by decide)
    have h3 : f 3 = .int .i64 0 := hf 3 (by decide)
    have h4 : f 4 = .bool true := hf 4 (by decide)
    have h5 : f 5 = .bool true := hf 5 (by decide)
    have h6 : f 6 = .bool true := hf 6 (by decide)
    have h7 : f 7 = .agg #[.int .u64 (s : Int), v12_4] := hf 7 (by decide)
    obtain ⟨v14_8, h8, hu8⟩ := hf 8 (by decide)
    have HU14_8 := Lib.hid hu8
    clear hu8
    have h9 : f 9 = .agg #[.int .u64 (s : Int), v13_4] := hf 9 (by decide)
    obtain ⟨v14_10, h10, hu10⟩ := hf 10 (by decide)
    have HU14_10 := Lib.hid hu10
    clear hu10
    have h11 : f 11 = .bool true := hf 11 (by decide)
    have h12 : f 12 = .bool true := hf 12 (by decide)
    have h13 : f 13 = .bool true := hf 13 (by decide)
    have h14 : f 14 = .agg #[.int .u64 (s : Int), v12_4] := hf 14 (by decide)
    have h15 : f 15 = .int .i64 (cntT (List.zipWith minusC (tab s m (srt ((la).map fewS))) (tab s m (srt ((lb).map fewS))))) := hf 15 (by decide)
    have h16 : f 16 = v5_1 := hf 16 (by decide)
    have h17 : f 17 = .int .i64 (((srt ((la).map fewS)).length : Int)) := hf 17 (by decide)
    have h18 : f 18 = v5_3 := hf 18 (by decide)
    have h19 : f 19 = .int .i64 (((srt ((lb).map fewS)).length : Int)) := hf 19 (by decide)
    have h20 : f 20 = .int .i64 (((srt ((la).map fewS)).length : Int) - ((srt ((lb).map fewS)).length : Int)) := hf 20 (by decide)
    have h21 : f 21 = .bool true := hf 21 (by decide)
    have h22 : f 22 = .bool true := hf 22 (by decide)
    have h23 : f 23 = .bool true := hf 23 (by decide)
    have h24 : f 24 = .agg #[.int .u64 (s : Int), v6_5] := hf 24 (by decide)
    have h25 : f 25 = .int .i64 (cntT (tab s m (srt ((la).map fewS)))) := hf 25 (by decide)
    have h26 : f 26 = v5_1 := hf 26 (by decide)
    have h27 : f 27 = .int .i64 (((srt ((la).map fewS)).length : Int)) := hf 27 (by decide)
    have h28 : f 28 = .bool true := hf 28 (by decide)
    have h29 : f 29 = .bool true := hf 29 (by decide)
    have h30 : f 30 = .bool true := hf 30 (by decide)
    clear hf hap
    clear zsz z20 z22 z19 z21 z9 z10 z11
    subst ha0
    simp only [slotsSat14, putAll, h0, h1, h2, h3, h4, h5, h6, h7, h8, h9, h10, h11, h12, h13, h14, h15, h16, h17, h18, h19, h20, h21, h22, h23, h24, h25, h26, h27, h28, h29, h30, Act.put, List.setIfInBounds_toArray, List.set_cons_zero, List.set_cons_succ]
    clear h0 h1 h2 h3 h4 h5 h6 h7 h8 h9 h10 h11 h12 h13 h14 h15 h16 h17 h18 h19 h20 h21 h22 h23 h24 h25 h26 h27 h28 h29 h30
    refine tl_nilN ?_
    replace HU5_1 := Lib.hid (HU5_1.out.keep hS)
    replace HU5_3 := Lib.hid (HU5_3.out.keep hS)
    replace HX_b6_7 := Lib.hid (HX_b6_7.out.keepB hS)
    replace HU6_5 := Lib.hid (HU6_5.out.keep hS)
    replace HX_b7_7 := Lib.hid (HX_b7_7.out.keepB hS)
    replace HU7_5 := Lib.hid (HU7_5.out.keep hS)
    replace HX_b10_9 := Lib.hid (HX_b10_9.out.keepB hS)
    replace HU10_4 := Lib.hid (HU10_4.out.keep hS)
    replace HU10_7 := Lib.hid (HU10_7.out.keep hS)
    replace HX_b11_9 := Lib.hid (HX_b11_9.out.keepB hS)
    replace HU11_4 := Lib.hid (HU11_4.out.keep hS)
    replace HU11_7 := Lib.hid (HU11_7.out.keep hS)
    replace HX_b12_6 := Lib.hid (HX_b12_6.out.keepB hS)
    replace HU12_4 := Lib.hid (HU12_4.out.keep hS)
    replace HX_b13_6 := Lib.hid (HX_b13_6.out.keepB hS)
    replace HU13_4 := Lib.hid (HU13_4.out.keep hS)
    replace HB := Lib.hid (HB.out.trans (hS.mono HB.out.size))
    clear hS
    go_wp2_with fail
    go_ret
    exact ⟨rfl, HB.out⟩
theorem tableApart_law (s : Nat) (n : Int) (la lb : List Int) (qa qb : Option Addr) (ca cb : Nat) (w : World) (hs : s < 18446744073709551616) (hL : Laid w) (ha : Sees w w.heap.size qa (la.map fun n => Value.int .i64 n)) (hb : Sees w w.heap.size qb (lb.map fun n => Value.int .i64 n)) : Calls Tryd.prog 5 #[.int .u64 (s : Int), .int .i64 n, .slice qa la.length ca, .slice qb lb.length cb] w fun e w' => e = .returned (.bool true) ∧ Below w.heap.size w w' := tableApart_b s n la lb qa qb ca cb w w (Below.refl _ _) hs hL ha hb
end Go.Proofs.YtepeloenijlnhaaDoor
