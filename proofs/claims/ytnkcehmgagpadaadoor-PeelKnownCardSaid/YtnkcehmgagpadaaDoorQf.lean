/- Contract: package peel's All. Conditions: the sums' tables are laid; a seed of 64 bits; at most 10^6 cells. -/
import Derived.Test.YtnkcehmgagpadaaDoorSq
import Derived.Test.YtnkcehmgagpadaaDoorGp21
import Derived.Test.YtnkcehmgagpadaaDoorGp6
namespace Go.Proofs.YtnkcehmgagpadaaDoor
open Go.RowKit
theorem rs_ones {a b c : Value} (ha : a.oneCell' = true) (hb : b.oneCell' = true) (s : Int) (hc : c.oneCell' = true) : ([a, b, .int .u64 s, c] : List Value).toArray.all (·.oneCell') = true := by
 rw [Array.all_eq_true_iff_forall_mem]
 intro u hu
 simp at hu
 rcases hu with rfl | rfl | rfl | rfl
 ·exact ha
 ·exact hb
 ·rfl
 ·exact hc
theorem rs_two {a b c d : Value} (j : Nat) (u : Value) (hu : [c, d][j]? = some u) : [a, b, c, d][2 + j]? = some u := by
 match j, hu with
 | 0, h => simpa using h
 | 1, h => simpa using h
 | j + 2, h => simp at h
theorem builtG0 : Tryd.prog.built 30 [] = some #[.slice none 0 0, .slice none 0 0, .int .u64 0, .slice none 0 0] := by kernel_rfl
theorem builtG1 (s : Int) {u : Value} (hu : ∃ q n c, u = .slice q n c) : Tryd.prog.built 30 [(2, .agg #[.int .u64 s, u])] = some #[.slice none 0 0, .slice none 0 0, .int .u64 s, u] := by
 obtain ⟨q, n, c, rfl⟩ := hu
 kernel_rfl
theorem builtG3 (s : Int) {a b u : Value} (ha : ∃ q n c, a = .slice q n c) (hb : ∃ q n c, b = .slice q n c) (hu : ∃ q n c, u = .slice q n c) : Tryd.prog.built 30 [(0, a), (1, b), (2, .agg #[.int .u64 s, u])] = some #[a, b, .int .u64 s, u] := by
 obtain ⟨q, n, c, rfl⟩ := ha
 obtain ⟨q', n', c', rfl⟩ := hb
 obtain ⟨q'', n'', c'', rfl⟩ := hu
 kernel_rfl
theorem RowS.oneC {b : Nat} {w : World} {v : Value} {L : List Su} (h : RowS b w v L) : v.oneCell' = true := (OwnU.us h).oneC
theorem RowO.oneC {b : Nat} {E : TypeId} {w : World} {v : Value} {L : List Ce} (h : RowO b E w v L) : v.oneCell' = true := h.one
theorem Cs.oneC {w : World} {v : Value} {L : List Ce} (h : Cs w v L) : v.oneCell' = true := h.one
/-- Of, its answer a row of the call's own. -/
theorem us_ofS {v0 : Value} {A : List Su} {w : World} (h : Us w v0 A) (hn : A.length ≤ 10000) (b : Nat) (hb : b ≤ w.heap.size) : Calls Tryd.prog 30 #[v0] w fun e w' => (∃ v, e = .returned v ∧ ∃ x, v = x ∧ RowS b w' x (srt A)) ∧ Below w.heap.size w w' := by
 obtain ⟨q, c, rfl, h2, h3, h4⟩ := h
 refine Calls.mono (setOf_any A q c (by omega) w h4) ?_
 rintro e w' ⟨⟨v, rfl, h5⟩, h6⟩
 exact ⟨⟨v, rfl, v, rfl, OwnU.less h5 hb⟩, h6⟩
/-- What is told. -/
def errQ (q : Pst) : Int := if okP q = true then 0 else 10
def plusQ (q : Pst) : List Su := if okP q = true then srt q.2.1 else []
def minusQ (q : Pst) : List Su := if okP q = true then srt q.2.2 else []
theorem resQ_t {q : Pst} (h : okP q = true) : errQ q = 0 ∧ plusQ q = srt q.2.1 ∧ minusQ q = srt q.2.2 := by unfold errQ plusQ minusQ; rw [h]; exact ⟨rfl, rfl, rfl⟩
theorem resQ_f {q : Pst} (h : okP q = false) : errQ q = 10 ∧ plusQ q = [] ∧ minusQ q = [] := by unfold errQ plusQ minusQ; rw [h]; exact ⟨rfl, rfl, rfl⟩
/-- How many came out, as memory has it. -/
def slenM : Option Value → Nat
 | some (.slice _ n _) => n
 | _ => 0
def outM (g : Nat) (w : World) : Nat := 3000 - (slenM (w.cell? ⟨g, 3, none⟩) + slenM (w.cell? ⟨g, 4, none⟩))
theorem PeS.outM {b : Nat} {w : World} {g s : Nat} {L : List Ce} {A : List Bool} {P M : List Su} {vL vA vP vM : Value} (h : PeS b w g s L A P M vL vA vP vM) : outM g w = 3000 - (P.length + M.length) := by
 obtain ⟨q, c, h1, _⟩ := OwnU.us h.plus
 obtain ⟨q2, c2, h2, _⟩ := OwnU.us h.minus
 have e1 : w.cell? ⟨g, 3, none⟩ = some vP := h.box.cellv rfl
 have e2 : w.cell? ⟨g, 4, none⟩ = some vM := h.box.cellv rfl
 unfold Go.Proofs.YtnkcehmgagpadaaDoor.outM
 rw [e1, e2, h1, h2]; rfl
def waitQfb1 (i : Nat) : List Nat := ([[], [0], [1]] : List (List Nat)).getD i []
def slotsQfb1 : List (Nat × Nat) := [(5, 0), (6, 1), (7, 2)]
theorem sbQfb1 : slotsB slotsQfb1 = true := by kernel_rfl
theorem chkQfb1 : flwO slotsQfb1 waitQfb1 3 (regOf Tryd.f9.body 1) = true := by kernel_rfl
def waitQfb2 (i : Nat) : List Nat := ([[], [0], [0, 1]] : List (List Nat)).getD i []
def slotsQfb2 : List (Nat × Nat) := [(8, 0), (3, 2)]
theorem chkQfb2 : flwO slotsQfb2 waitQfb2 1 (regOf Tryd.f9.body 2) = true := by kernel_rfl
set_option maxHeartbeats 16000000 in
set_option maxRecDepth 100000 in
theorem allP_bad (s : Nat) (v : Value) (L : List Ce) (w : World) (hs : s < 18446744073709551616) (hL : Laid w) (hM : L.length ≤ 1000000) (hC : Cs w v L) (hg : goodN (L.length : Int) = false) :
  Calls Tryd.prog 9 #[.agg #[.int .u64 (s : Int), v]] w fun e w' => (e = .returned (.tuple #[.agg #[.slice none 0 0, .slice none 0 0, .int .u64 0, .slice none 0 0], .int .i64 1])) ∧ Below w.heap.size w w' := by
 have HL := Lib.hid hL
 have HSZ := Lib.hid hL.size
 have HSD := Lib.hid hs
 have HM := Lib.hid hM
 have HC := Lib.hid hC
 have HG := Lib.hid hg
 clear hL hs hM hC hg
 obtain ⟨w0, hw0⟩ : ∃ w0, w0 = w := ⟨_, rfl⟩
 rw [show (Calls Tryd.prog 9 #[.agg #[.int .u64 (s : Int), v]] w : (Ending → World → Prop) → Prop) = Calls Tryd.prog 9 #[.agg #[.int .u64 (s : Int), v]] w0 by rw [hw0]]
 have HB : Hid (Below w.heap.size w w0) := Lib.hid (by rw [hw0]; exact Below.refl _ _)
 clear hw0
 go_enter Tryd.func9, Tryd.ntmps9
 go_upto_region 0 with fail
 refine wp_region_lit ?_
 try simp only [Act.put, List.setIfInBounds_toArray, List.set_cons_zero, List.set_cons_succ]
 refine lp_step rfl (fun K hK => wp_box_row 28 (.tmp 0) rfl (.agg #[.int .u64 (s : Int), v]) rfl (hK _ _ ?_))
 try simp only [Act.put, List.setIfInBounds_toArray, List.set_cons_zero, List.set_cons_succ]
 show wpList _ _ _ _ _ (w0.alloc (.cells (([.int .u64 (s : Int), v] : List Value)).toArray 28))
 have HST : Hid (Below w0.heap.size w0 (w0.alloc (.cells (([.int .u64 (s : Int), v] : List Value)).toArray 28))) := Lib.hid ((Below.refl _ _).alloc (Nat.le_refl _) _)
 have HX1 : Hid (Has (w0.alloc (.cells (([.int .u64 (s : Int), v] : List Value)).toArray 28)) w0.heap.size 28 ([.int .u64 (s : Int), v])) := Lib.hid (Has.made' _ _ _ _ rfl)
 have HGg1 : Hid (w.heap.size ≤ w0.heap.size) := Lib.hid HB.out.size
 replace HB := Lib.hid (HB.out.trans (HST.out.mono HB.out.size))
 clear HST
 generalize w0.alloc (.cells (([.int .u64 (s : Int), v] : List Value)).toArray 28) = w1 at *
 generalize w0.heap.size = g1 at *
 refine lp_step rfl (fun K hK => wp_alloc_row 30 rfl (.agg #[.slice none 0 0, .slice none 0 0, .int .u64 0, .slice none 0 0]) (fun w => by kernel_rfl) (hK _ _ ?_))
 try simp only [Act.put, List.setIfInBounds_toArray, List.set_cons_zero, List.set_cons_succ]
 show wpList _ _ _ _ _ (w1.alloc (.cells (([.slice none 0 0, .slice none 0 0, .int .u64 0, .slice none 0 0] : List Value)).toArray 30))
 have HST : Hid (Below w1.heap.size w1 (w1.alloc (.cells (([.slice none 0 0, .slice none 0 0, .int .u64 0, .slice none 0 0] : List Value)).toArray 30))) := Lib.hid ((Below.refl _ _).alloc (Nat.le_refl _) _)
 have HLT_g1_g2 : Hid (g1 < w1.heap.size) := Lib.hid HX1.out.lt
 have HNE_g1_g2 : Hid (g1 ≠ w1.heap.size) := Lib.hid (Nat.ne_of_lt HX1.out.lt)
 have HX2 : Hid (Has (w1.alloc (.cells (([.slice none 0 0, .slice none 0 0, .int .u64 0, .slice none 0 0] : List Value)).toArray 30)) w1.heap.size 30 ([.slice none 0 0, .slice none 0 0, .int .u64 0, .slice none 0 0])) := Lib.hid (Has.made' _ _ _ _ rfl)
 replace HX1 := Lib.hid (HX1.out.keepB HST.out)
 have HGg2 : Hid (w.heap.size ≤ w1.heap.size) := Lib.hid HB.out.size
 replace HB := Lib.hid (HB.out.trans (HST.out.mono HB.out.size))
 clear HST
 generalize w1.alloc (.cells (([.slice none 0 0, .slice none 0 0, .int .u64 0, .slice none 0 0] : List Value)).toArray 30) = w2 at *
 generalize w1.heap.size = g2 at *
 refine lp_pure (v := .int .i64 0) rfl (ex_assign _ rfl rfl) ?_
 try simp only [Act.put, List.setIfInBounds_toArray, List.set_cons_zero, List.set_cons_succ]
 refine wpList_nil ?_
 obtain ⟨y1, hz1⟩ : ∃ z, z = w2 := ⟨_, rfl⟩
 subst hz1
 go_upto_region 1 with fail
 refine wp_act (fun a0 ha0 => ?_)
 have zsz : a0.tmps.size = 48 := by rw [ha0]; rfl
 have z1 : a0.eval (.tmp 1) = .pointer (some ⟨g1, 0, none⟩) := by rw [ha0]; rfl
 refine wrO [] slotsQfb1 waitQfb1 [Fct.val Flz 0 (.agg #[.int .u64 (s : Int), v]), Fct.val Flz 1 (.bool false), Fct.val Flz 2 (.bool true)] (fun w' => Below y1.heap.size y1 w') _ 3 0 chkQfb1 (by kernel_rfl) (by kernel_rfl) (by kernel_rfl) (by decide) (Below.refl _ _) ?_ ?_
 ·refine lt_s (lt_s (lt_s (lt_0) ?_) ?_) ?_
  ·intro f w1 hS hf aA hA
   have r1 := qO 1 hA z1
   exact fV rfl rfl _ (ex_loadR 28 (.tmp 1) rfl ⟨g1, 0, none⟩ r1 (fun _ => by kernel_rfl) [.int .u64 (s : Int), v] (by kernel_rfl) ((HX1.out.keepB hS).part [.int .u64 (s : Int), v] 0 (fun j u hu => by rw [Nat.zero_add]; exact hu))) hS uS
  ·intro f w1 hS hf aA hA
   have r5 := qA 5 0 hA sbQfb1 zsz (hf 0 (by decide))
   exact fC rfl rfl 25 #[(.tmp 5)] _ rfl #[.agg #[.int .u64 (s : Int), v]] (mp1 r5) (fun w => by kernel_rfl) _ (as_any (goodT_any _ _ _ w1 (HC.out.keep (HB.out.trans (hS.mono HB.out.size)))) (congrArg Value.bool HG.out)) hS (fun _ _ h => uS.trans h)
  ·intro f w1 hS hf aA hA
   have r6 := qA 6 1 hA sbQfb1 zsz (hf 1 (by decide))
   exact fV rfl rfl _ (ex_not _ (.tmp 6) rfl r6) hS uS
 intro f u1 hS hf hap
 have h0 := eqL (hf 0 (by decide)) rfl
 have h1 := eqL (hf 1 (by decide)) rfl
 have h2 := eqL (hf 2 (by decide)) rfl
 clear hf hap
 clear zsz z1
 subst ha0
 simp only [slotsQfb1, putAll, h0, h1, h2, Act.put, List.setIfInBounds_toArray, List.set_cons_zero, List.set_cons_succ]
 clear h0 h1 h2
 refine tl_nil ?_
 replace HX1 := Lib.hid (HX1.out.keepB hS)
 replace HX2 := Lib.hid (HX2.out.keepB hS)
 replace HB := Lib.hid (HB.out.trans (hS.mono HB.out.size))
 clear hS
 go_upto_region 2 with fail
 refine wp_act (fun a0 ha0 => ?_)
 have zsz : a0.tmps.size = 48 := by rw [ha0]; rfl
 refine wrO [] slotsQfb2 waitQfb2 [Fct.val Flz 0 (.agg #[.slice none 0 0, .slice none 0 0, .int .u64 0, .slice none 0 0])] (fun w' => Below u1.heap.size u1 w') _ 1 2 chkQfb2 (by kernel_rfl) (by kernel_rfl) (by kernel_rfl) (by decide) (Below.refl _ _) ?_ ?_
 ·refine lt_s (lt_0) ?_
  ·intro f w1 hS hf aA hA
   exact fV rfl rfl _ (ex_build 30 _ rfl #[.slice none 0 0, .slice none 0 0, .int .u64 0, .slice none 0 0] [] (by kernel_rfl) builtG0) hS uS
 intro f u2 hS hf hap
 have h0 := eqL (hf 0 (by decide)) rfl
 clear hf hap
 clear zsz
 subst ha0
 simp only [slotsQfb2, putAll, h0, Act.put, List.setIfInBounds_toArray, List.set_cons_zero, List.set_cons_succ]
 clear h0
 have hBS := HB.out.trans (hS.mono HB.out.size)
 replace HX1 := Lib.hid (HX1.out.keepB hS)
 replace HX2 := Lib.hid (HX2.out.keepB hS)
 clear hS
 refine tl_store rfl (by kernel_rfl) 30 (.tmp 2) (.tmp 8) rfl g2 ([.slice none 0 0, .slice none 0 0, .int .u64 0, .slice none 0 0]) _ rfl rfl _ HX2.out (by kernel_rfl) rfl (rs_ones rfl rfl _ rfl) ?_
 intro u3 hp hbl hot
 replace HX1 : Hid (Has u3 g1 28 ([.int .u64 (s : Int), v])) := Lib.hid ((hot _ (Has.apartT HX1.out HX2.out (by decide))).trans HX1.out)
 replace HX2 : Hid (Has u3 g2 30 ([.slice none 0 0, .slice none 0 0, .int .u64 0, .slice none 0 0])) := Lib.hid hp
 replace hBS := hBS.trans (hbl _ HGg2.out)
 clear hp hbl hot
 try simp only [Act.put]
 refine tl_pure rfl (by kernel_rfl) (.int .i64 1) (ex_assign _ rfl rfl) ?_
 try simp only [Act.put, List.setIfInBounds_toArray, List.set_cons_zero, List.set_cons_succ]
 refine tl_nil ?_
 replace HB := Lib.hid hBS
 clear hBS
 go_wp2_with fail
 (try simp only [Exit.inBlock, Exit.then])
 refine bodyPost_ret (v := .tuple #[.agg #[.slice none 0 0, .slice none 0 0, .int .u64 0, .slice none 0 0], .int .i64 1]) ?_ rfl ⟨rfl, HB.out⟩
 exact results_twoT rfl _ _ g2 30 _ (0, 0) rfl HX2.out _ rfl Tryd.underlying30 (by kernel_rfl)
def waitQfg3 (i : Nat) : List Nat := ([[], [0], [0, 1]] : List (List Nat)).getD i []
def slotsQfg3 : List (Nat × Nat) := [(9, 0), (10, 1), (4, 2)]
theorem chkQfg3 : flwO slotsQfg3 waitQfg3 1 (regOf Tryd.f9.body 3) = true := by kernel_rfl
def waitQfe4 (i : Nat) : List Nat := ([[], [0], [1], [2], [3], [3], [3, 5]] : List (List Nat)).getD i []
def slotsQfe4 : List (Nat × Nat) := [(11, 0), (12, 1), (13, 2), (14, 3), (15, 4), (16, 5), (17, 6)]
theorem sbQfe4 : slotsB slotsQfe4 = true := by kernel_rfl
theorem chkQfe4 : flwO slotsQfe4 waitQfe4 7 (regOf Tryd.f9.body 4) = true := by kernel_rfl
def waitQfeFf5 (i : Nat) : List Nat := ([[], [0], [1], [2], [3], [4], [5], [6], [6], [6, 8]] : List (List Nat)).getD i []
def slotsQfeFf5 : List (Nat × Nat) := [(18, 0), (19, 1), (20, 2), (21, 3), (22, 4), (23, 5), (24, 6), (25, 7), (26, 8), (27, 9)]
theorem sbQfeFf5 : slotsB slotsQfeFf5 = true := by kernel_rfl
theorem chkQfeFf5 : flwO slotsQfeFf5 waitQfeFf5 10 (regOf Tryd.f9.body 5) = true := by kernel_rfl
def waitQfeFf6 (i : Nat) : List Nat := ([[], [0], [1], [2], [3], [0, 1, 2, 3, 4], [0, 1, 2, 3, 4, 5]] : List (List Nat)).getD i []
def slotsQfeFf6 : List (Nat × Nat) := [(28, 0), (29, 1), (30, 2), (31, 3), (32, 4), (3, 6)]
theorem sbQfeFf6 : slotsB slotsQfeFf6 = true := by kernel_rfl
theorem chkQfeFf6 : flwO slotsQfeFf6 waitQfeFf6 5 (regOf Tryd.f9.body 6) = true := by kernel_rfl
def waitQfeG5 (i : Nat) : List Nat := ([[], [0], [1], [2], [3], [4], [5], [6], [6, 7], [6, 8]] : List (List Nat)).getD i []
def slotsQfeG5 : List (Nat × Nat) := [(18, 0), (19, 1), (20, 2), (21, 3), (22, 4), (23, 5), (24, 6), (25, 7), (26, 8), (27, 9)]
theorem sbQfeG5 : slotsB slotsQfeG5 = true := by kernel_rfl
theorem chkQfeG5 : flwO slotsQfeG5 waitQfeG5 10 (regOf Tryd.f9.body 5) = true := by kernel_rfl
def waitQfeG7 (i : Nat) : List Nat := ([[], [0], [0, 1], [0, 1, 2], [0, 1, 2, 3], [], [5], [5, 6], [5, 6, 7], [0, 1, 2, 3, 5, 6, 7, 8], [], [10], [10, 11], [10, 11, 12], [0, 1, 2, 3, 4, 5, 6, 7, 8, 9, 10, 11, 12, 13], [0, 1, 2, 3, 4, 5, 6, 7, 8, 9, 10, 11, 12, 13, 14], [0, 1, 2, 3, 4, 5, 6, 7, 8, 9, 10, 11, 12, 13, 14, 15]] : List (List Nat)).getD i []
def slotsQfeG7 : List (Nat × Nat) := [(33, 0), (34, 1), (35, 2), (36, 3), (37, 4), (38, 5), (39, 6), (40, 7), (41, 8), (42, 9), (43, 10), (44, 11), (45, 12), (46, 13), (47, 14), (3, 16)]
theorem sbQfeG7 : slotsB slotsQfeG7 = true := by kernel_rfl
theorem chkQfeG7 : flwB slotsQfeG7 waitQfeG7 14 (regOf Tryd.f9.body 7) = true := by kernel_rfl
def waitQfs4 (i : Nat) : List Nat := ([[], [0], [1], [2], [3], [0, 1, 2, 3, 4], [0, 1, 2, 3, 4, 5]] : List (List Nat)).getD i []
def slotsQfs4 : List (Nat × Nat) := [(11, 0), (12, 1), (13, 2), (14, 3), (15, 4), (16, 5), (17, 6)]
theorem sbQfs4 : slotsB slotsQfs4 = true := by kernel_rfl
theorem chkQfs4 : flwO slotsQfs4 waitQfs4 5 (regOf Tryd.f9.body 4) = true := by kernel_rfl
set_option maxHeartbeats 16000000 in
set_option maxRecDepth 100000 in
theorem allP_good (s : Nat) (v : Value) (L : List Ce) (w : World) (hs : s < 18446744073709551616) (hL : Laid w) (hM : L.length ≤ 1000000) (hC : Cs w v L) (hg : goodN (L.length : Int) = true) :
  Calls Tryd.prog 9 #[.agg #[.int .u64 (s : Int), v]] w fun e w' => (∃ v, e = .returned v ∧ ∃ vP vM vL, v = .tuple #[.agg #[vP, vM, .int .u64 (s : Int), vL], .int .i64 (errQ (peelP s L))] ∧ RowS w.heap.size w' vP (plusQ (peelP s L)) ∧ RowS w.heap.size w' vM (minusQ (peelP s L)) ∧ RowO w.heap.size 47 w' vL (peelP s L).1) ∧ Below w.heap.size w w' := by
 have HL := Lib.hid hL
 have HSZ := Lib.hid hL.size
 have HSD := Lib.hid hs
 have HM := Lib.hid hM
 have HC := Lib.hid hC
 have HG := Lib.hid hg
 clear hL hs hM hC hg
 obtain ⟨w0, hw0⟩ : ∃ w0, w0 = w := ⟨_, rfl⟩
 rw [show (Calls Tryd.prog 9 #[.agg #[.int .u64 (s : Int), v]] w : (Ending → World → Prop) → Prop) = Calls Tryd.prog 9 #[.agg #[.int .u64 (s : Int), v]] w0 by rw [hw0]]
 have HB : Hid (Below w.heap.size w w0) := Lib.hid (by rw [hw0]; exact Below.refl _ _)
 clear hw0
 go_enter Tryd.func9, Tryd.ntmps9
 go_upto_region 0 with fail
 refine wp_region_lit ?_
 try simp only [Act.put, List.setIfInBounds_toArray, List.set_cons_zero, List.set_cons_succ]
 refine lp_step rfl (fun K hK => wp_box_row 28 (.tmp 0) rfl (.agg #[.int .u64 (s : Int), v]) rfl (hK _ _ ?_))
 try simp only [Act.put, List.setIfInBounds_toArray, List.set_cons_zero, List.set_cons_succ]
 show wpList _ _ _ _ _ (w0.alloc (.cells (([.int .u64 (s : Int), v] : List Value)).toArray 28))
 have HST : Hid (Below w0.heap.size w0 (w0.alloc (.cells (([.int .u64 (s : Int), v] : List Value)).toArray 28))) := Lib.hid ((Below.refl _ _).alloc (Nat.le_refl _) _)
 have HX1 : Hid (Has (w0.alloc (.cells (([.int .u64 (s : Int), v] : List Value)).toArray 28)) w0.heap.size 28 ([.int .u64 (s : Int), v])) := Lib.hid (Has.made' _ _ _ _ rfl)
 have HGg1 : Hid (w.heap.size ≤ w0.heap.size) := Lib.hid HB.out.size
 replace HB := Lib.hid (HB.out.trans (HST.out.mono HB.out.size))
 clear HST
 generalize w0.alloc (.cells (([.int .u64 (s : Int), v] : List Value)).toArray 28) = w1 at *
 generalize w0.heap.size = g1 at *
 refine lp_step rfl (fun K hK => wp_alloc_row 30 rfl (.agg #[.slice none 0 0, .slice none 0 0, .int .u64 0, .slice none 0 0]) (fun w => by kernel_rfl) (hK _ _ ?_))
 try simp only [Act.put, List.setIfInBounds_toArray, List.set_cons_zero, List.set_cons_succ]
 show wpList _ _ _ _ _ (w1.alloc (.cells (([.slice none 0 0, .slice none 0 0, .int .u64 0, .slice none 0 0] : List Value)).toArray 30))
 have HST : Hid (Below w1.heap.size w1 (w1.alloc (.cells (([.slice none 0 0, .slice none 0 0, .int .u64 0, .slice none 0 0] : List Value)).toArray 30))) := Lib.hid ((Below.refl _ _).alloc (Nat.le_refl _) _)
 have HLT_g1_g2 : Hid (g1 < w1.heap.size) := Lib.hid HX1.out.lt
 have HNE_g1_g2 : Hid (g1 ≠ w1.heap.size) := Lib.hid (Nat.ne_of_lt HX1.out.lt)
 have HX2 : Hid (Has (w1.alloc (.cells (([.slice none 0 0, .slice none 0 0, .int .u64 0, .slice none 0 0] : List Value)).toArray 30)) w1.heap.size 30 ([.slice none 0 0, .slice none 0 0, .int .u64 0, .slice none 0 0])) := Lib.hid (Has.made' _ _ _ _ rfl)
 replace HX1 := Lib.hid (HX1.out.keepB HST.out)
 have HGg2 : Hid (w.heap.size ≤ w1.heap.size) := Lib.hid HB.out.size
 replace HB := Lib.hid (HB.out.trans (HST.out.mono HB.out.size))
 clear HST
 generalize w1.alloc (.cells (([.slice none 0 0, .slice none 0 0, .int .u64 0, .slice none 0 0] : List Value)).toArray 30) = w2 at *
 generalize w1.heap.size = g2 at *
 refine lp_pure (v := .int .i64 0) rfl (ex_assign _ rfl rfl) ?_
 try simp only [Act.put, List.setIfInBounds_toArray, List.set_cons_zero, List.set_cons_succ]
 refine wpList_nil ?_
 obtain ⟨y1, hz1⟩ : ∃ z, z = w2 := ⟨_, rfl⟩
 subst hz1
 go_upto_region 1 with fail
 refine wp_act (fun a0 ha0 => ?_)
 have zsz : a0.tmps.size = 48 := by rw [ha0]; rfl
 have z1 : a0.eval (.tmp 1) = .pointer (some ⟨g1, 0, none⟩) := by rw [ha0]; rfl
 refine wrO [] slotsQfb1 waitQfb1 [Fct.val Flz 0 (.agg #[.int .u64 (s : Int), v]), Fct.val Flz 1 (.bool true), Fct.val Flz 2 (.bool false)] (fun w' => Below y1.heap.size y1 w') _ 3 0 chkQfb1 (by kernel_rfl) (by kernel_rfl) (by kernel_rfl) (by decide) (Below.refl _ _) ?_ ?_
 ·refine lt_s (lt_s (lt_s (lt_0) ?_) ?_) ?_
  ·intro f w1 hS hf aA hA
   have r1 := qO 1 hA z1
   exact fV rfl rfl _ (ex_loadR 28 (.tmp 1) rfl ⟨g1, 0, none⟩ r1 (fun _ => by kernel_rfl) [.int .u64 (s : Int), v] (by kernel_rfl) ((HX1.out.keepB hS).part [.int .u64 (s : Int), v] 0 (fun j u hu => by rw [Nat.zero_add]; exact hu))) hS uS
  ·intro f w1 hS hf aA hA
   have r5 := qA 5 0 hA sbQfb1 zsz (hf 0 (by decide))
   exact fC rfl rfl 25 #[(.tmp 5)] _ rfl #[.agg #[.int .u64 (s : Int), v]] (mp1 r5) (fun w => by kernel_rfl) _ (as_any (goodT_any _ _ _ w1 (HC.out.keep (HB.out.trans (hS.mono HB.out.size)))) (congrArg Value.bool HG.out)) hS (fun _ _ h => uS.trans h)
  ·intro f w1 hS hf aA hA
   have r6 := qA 6 1 hA sbQfb1 zsz (hf 1 (by decide))
   exact fV rfl rfl _ (ex_not _ (.tmp 6) rfl r6) hS uS
 intro f u1 hS hf hap
 have h0 := eqL (hf 0 (by decide)) rfl
 have h1 := eqL (hf 1 (by decide)) rfl
 have h2 := eqL (hf 2 (by decide)) rfl
 clear hf hap
 clear zsz z1
 subst ha0
 simp only [slotsQfb1, putAll, h0, h1, h2, Act.put, List.setIfInBounds_toArray, List.set_cons_zero, List.set_cons_succ]
 clear h0 h1 h2
 refine tl_nil ?_
 replace HX1 := Lib.hid (HX1.out.keepB hS)
 replace HX2 := Lib.hid (HX2.out.keepB hS)
 replace HB := Lib.hid (HB.out.trans (hS.mono HB.out.size))
 clear hS
 go_upto_region 3 with fail
 refine wp_act (fun a0 ha0 => ?_)
 have zsz : a0.tmps.size = 48 := by rw [ha0]; rfl
 have z1 : a0.eval (.tmp 1) = .pointer (some ⟨g1, 0, none⟩) := by rw [ha0]; rfl
 refine wrO [] slotsQfg3 waitQfg3 [Fct.val Flz 0 (.agg #[.int .u64 (s : Int), v])] (fun w' => Below u1.heap.size u1 w') _ 1 2 chkQfg3 (by kernel_rfl) (by kernel_rfl) (by kernel_rfl) (by decide) (Below.refl _ _) ?_ ?_
 ·refine lt_s (lt_0) ?_
  ·intro f w1 hS hf aA hA
   have r1 := qO 1 hA z1
   exact fV rfl rfl _ (ex_loadR 28 (.tmp 1) rfl ⟨g1, 0, none⟩ r1 (fun _ => by kernel_rfl) [.int .u64 (s : Int), v] (by kernel_rfl) ((HX1.out.keepB hS).part [.int .u64 (s : Int), v] 0 (fun j u hu => by rw [Nat.zero_add]; exact hu))) hS uS
 intro f u2 hS hf hap
 have h0 := eqL (hf 0 (by decide)) rfl
 clear hf hap
 clear zsz z1
 subst ha0
 simp only [slotsQfg3, putAll, h0, Act.put, List.setIfInBounds_toArray, List.set_cons_zero, List.set_cons_succ]
 clear h0
 have HX12 := Lib.hid (HX1.out.keepB hS)
 have HX22 := Lib.hid (HX2.out.keepB hS)
 have HB2 := Lib.hid (HB.out.trans (hS.mono HB.out.size))
 have HL2 := Lib.hid (HL.out.keep HB2.out HSZ.out)
 have HW2 : Hid (w.heap.size ≤ u2.heap.size) := Lib.hid HB2.out.size
 clear HX1 HX2 HB hS
 refine tl_call rfl rfl 26 #[(.tmp 9)] _ rfl #[.agg #[.int .u64 (s : Int), v]] (by kernel_rfl) (fun w => by kernel_rfl) _ (beginP_any s v L u2 HSD.out HL2.out HM.out (HC.out.keep HB2.out)) ?_
 rintro e u3 ⟨⟨g, rfl, vL, vA, hp⟩, hb3⟩
 refine ⟨_, rfl, ?_⟩
 have HP : Hid (PeQ u2.heap.size u3 g s (L, [], []) vL vA (.slice none 0 0) (.slice none 0 0)) := Lib.hid hp
 have HBU := Lib.hid hb3
 clear hp hb3
 try simp only [Act.put, List.setIfInBounds_toArray, List.set_cons_zero, List.set_cons_succ]
 refine tl_pure rfl (by kernel_rfl) (.pointer (some ⟨g, 0, none⟩)) (ex_assign (.tmp 10) rfl rfl) ?_
 refine tl_nil ?_
 try simp only [Act.put, List.setIfInBounds_toArray, List.set_cons_zero, List.set_cons_succ]
 go_wp2_with fail
 go_loopw [17] (fun _ wr => (∃ q vL vA vP vM, outP q ≤ 1025 ∧ runP s (1025 - outP q) q = peelP s L ∧ q.1.length = L.length ∧ PeQ u2.heap.size wr g s q vL vA vP vM) ∧ Below u2.heap.size u2 wr) (fun _ wr => outM g wr)
 case atStart => exact ⟨⟨(L, [], []), vL, vA, .slice none 0 0, .slice none 0 0, (show 0 + 0 ≤ 1025 by decide), rfl, rfl, HP.out⟩, HBU.out⟩
 case round =>
  clear HP HBU
  rename_i wr
  obtain ⟨⟨⟨Lq, Pq, Mq⟩, vL, vA, vP, vM, ho, hr, hl, hp⟩, hB⟩ := hrel
  have HO : Hid (Pq.length + Mq.length ≤ 1025) := Lib.hid ho
  have HR : Hid (runP s (1025 - (Pq.length + Mq.length)) (Lq, Pq, Mq) = peelP s L) := Lib.hid hr
  have HLQ : Hid (Lq.length = L.length) := Lib.hid hl
  have HP : Hid (PeS u2.heap.size wr g s Lq (aloneL s Lq) Pq Mq vL vA vP vM) := Lib.hid hp
  have HBW := Lib.hid hB
  have HB : Hid (Below w.heap.size w wr) := Lib.hid (HB2.out.trans (hB.mono HW2.out))
  have HOM : Hid (outM g wr = 3000 - (Pq.length + Mq.length)) := Lib.hid HP.out.outM
  have HLM : Hid (Lq.length ≤ 1000000) := Lib.hid (by rw [hl]; exact HM.out)
  clear ho hr hl hp hB
  obtain ⟨lt, hlt⟩ : ∃ lt, decide (Pq.length + Mq.length ≤ 1024) = lt := ⟨_, rfl⟩
  have HLT : Hid (decide (((Pq.length + Mq.length : Nat) : Int) ≤ (1024 : Int)) = lt) := Lib.hid (by rw [← hlt]; congr 1; exact propext (by omega))
  have hlt2 := hlt
  cases lt
  ·go_upto_region 4 with fail
   refine wp_act (fun a0 ha0 => ?_)
   have zsz : a0.tmps.size = 48 := by rw [ha0]; rfl
   have z4 : a0.eval (.tmp 4) = .pointer (some ⟨g, 0, none⟩) := by rw [ha0]; rfl
   refine wrO [] slotsQfe4 waitQfe4 [Fct.val Flz 0 (.pointer (some ⟨g, 0, none⟩)), Fct.val Flz 1 (.int .i64 (((Pq.length + Mq.length : Nat) : Int))), Fct.val Flz 2 (.bool false), Fct.val Flz 3 (.bool false), Fct.val Flz 4 (undef), Fct.val Flz 5 (undef), Fct.val Flz 6 (.bool false)] (fun w' => Below wr.heap.size wr w') _ 7 0 chkQfe4 (by kernel_rfl) (by kernel_rfl) (by kernel_rfl) (by decide) (Below.refl _ _) ?_ ?_
   ·refine lt_s (lt_s (lt_s (lt_s (lt_s (lt_s (lt_s (lt_0) ?_) ?_) ?_) ?_) ?_) ?_) ?_
    ·intro f w1 hS hf aA hA
     have r4 := qO 4 hA z4
     exact fV rfl rfl _ (ex_move (.tmp 4) rfl r4) hS uS
    ·intro f w1 hS hf aA hA
     have r11 := qA 11 0 hA sbQfe4 zsz (hf 0 (by decide))
     exact fC rfl rfl 27 #[(.tmp 11)] _ rfl #[.pointer (some ⟨g, 0, none⟩)] (mp1 r11) (fun w => by kernel_rfl) _ (outP_any u2.heap.size g s Lq (aloneL s Lq) Pq Mq vL vA vP vM w1 (HP.out.keep hS) (by have := HO.out; omega) (by have := HO.out; omega)) hS (fun _ _ h => uS.trans h)
    ·intro f w1 hS hf aA hA
     have r12 := qA 12 1 hA sbQfe4 zsz (hf 1 (by decide))
     exact fV rfl rfl _ (Eq.trans (ex_int .leq _ _ (.tmp 12) _ rfl .i64 (((Pq.length + Mq.length : Nat) : Int)) 1024 r12 rfl (.bool (decide ((((Pq.length + Mq.length : Nat) : Int)) ≤ (1024 : Int)))) (fun _ => rfl)) (by rw [HLT.out])) hS uS
    ·intro f w1 hS hf aA hA
     have r13 := qA 13 2 hA sbQfe4 zsz (hf 2 (by decide))
     exact fV rfl rfl _ (ex_move (.tmp 13) rfl r13) hS uS
    ·intro f w1 hS hf aA hA
     have t14 := qG 14 3 hA sbQfe4 zsz (hf 3 (by decide))
     exact flw_skip rfl ((wanted_of rfl 14 rfl t14).trans rfl) hS (Flz.refl _) uS
    ·intro f w1 hS hf aA hA
     have t14 := qG 14 3 hA sbQfe4 zsz (hf 3 (by decide))
     exact flw_skip rfl ((wanted_of rfl 14 rfl t14).trans rfl) hS (Flz.refl _) uS
    ·intro f w1 hS hf aA hA
     have r14 := qA 14 3 hA sbQfe4 zsz (hf 3 (by decide))
     exact fV rfl rfl (.bool false) (ex_pick (.tmp 14) (.tmp 16) _ rfl false r14 ((if_neg (by decide)).trans rfl)) hS uS
   intro f u4 hS hf hap
   have h0 := eqL (hf 0 (by decide)) rfl
   have h1 := eqL (hf 1 (by decide)) rfl
   have h2 := eqL (hf 2 (by decide)) rfl
   have h3 := eqL (hf 3 (by decide)) rfl
   have h4 := eqL (hf 4 (by decide)) rfl
   have h5 := eqL (hf 5 (by decide)) rfl
   have h6 := eqL (hf 6 (by decide)) rfl
   clear hf hap
   clear zsz z4
   subst ha0
   simp only [slotsQfe4, putAll, h0, h1, h2, h3, h4, h5, h6, Act.put, List.setIfInBounds_toArray, List.set_cons_zero, List.set_cons_succ]
   clear h0 h1 h2 h3 h4 h5 h6
   refine tl_nil ?_
   replace HP := Lib.hid (HP.out.keep hS)
   replace HB := Lib.hid (HB.out.trans (hS.mono HB.out.size))
   have HBZ := Lib.hid hS
   clear hS
   have HPQ : Hid ((Lq, Pq, Mq) = peelP s L) := Lib.hid (by have h1 := of_decide_eq_false hlt2; have h2 := HO.out; have h3 := HR.out; rw [show 1025 - (Pq.length + Mq.length) = 0 by omega] at h3; exact h3)
   clear hlt hlt2
   replace HBW := Lib.hid (HBW.out.trans ((HBZ.out).mono HBW.out.size))
   have HX2 := Lib.hid (HX22.out.keepB HBW.out)
   obtain ⟨zt, hzt⟩ : ∃ zt, zeroT Lq = zt := ⟨_, rfl⟩
   have HZT := Lib.hid hzt
   clear hzt
   obtain ⟨dt, hdt⟩ : ∃ dt, dupP (Lq, Pq, Mq) = dt := ⟨_, rfl⟩
   have HDT := Lib.hid hdt
   clear hdt
   have HQL : Hid (w.heap.size ≤ u2.heap.size) := HW2
   cases zt
   ·go_upto_region 5 with fail
    refine wp_act (fun a0 ha0 => ?_)
    have zsz : a0.tmps.size = 48 := by rw [ha0]; rfl
    have z4 : a0.eval (.tmp 4) = .pointer (some ⟨g, 0, none⟩) := by rw [ha0]; rfl
    refine wrO [] slotsQfeFf5 waitQfeFf5 [Fct.val Flz 0 (.pointer (some ⟨g, 0, none⟩)), Fct.val Flz 1 (.pointer (some ⟨g, 0, none⟩)), Fct.val Flz 2 (.pointer (some ⟨g, 0, none⟩)), Fct.val Flz 3 (.agg #[.int .u64 (s : Int), vL]), Fct.val Flz 4 (.bool false), Fct.val Flz 5 (.bool true), Fct.val Flz 6 (.bool true), Fct.val Flz 7 (undef), Fct.val Flz 8 (undef), Fct.val Flz 9 (.bool true)] (fun w' => Below u4.heap.size u4 w') _ 10 0 chkQfeFf5 (by kernel_rfl) (by kernel_rfl) (by kernel_rfl) (by decide) (Below.refl _ _) ?_ ?_
    ·refine lt_s (lt_s (lt_s (lt_s (lt_s (lt_s (lt_s (lt_s (lt_s (lt_s (lt_0) ?_) ?_) ?_) ?_) ?_) ?_) ?_) ?_) ?_) ?_
     ·intro f w1 hS hf aA hA
      have r4 := qO 4 hA z4
      exact fV rfl rfl _ (ex_move (.tmp 4) rfl r4) hS uS
     ·intro f w1 hS hf aA hA
      have r18 := qA 18 0 hA sbQfeFf5 zsz (hf 0 (by decide))
      exact fV rfl rfl _ (ex_nil (.tmp 18) rfl g 0 r18) hS uS
     ·intro f w1 hS hf aA hA
      have r19 := qA 19 1 hA sbQfeFf5 zsz (hf 1 (by decide))
      exact fV rfl rfl _ (fldP0 (.tmp 19) rfl g r19) hS uS
     ·intro f w1 hS hf aA hA
      have r20 := qA 20 2 hA sbQfeFf5 zsz (hf 2 (by decide))
      exact fV rfl rfl _ (ex_loadR 28 (.tmp 20) rfl ⟨g, 0, none⟩ r20 (fun _ => by kernel_rfl) [.int .u64 (s : Int), vL] (by kernel_rfl) ((HP.out.box.keepB hS).part [.int .u64 (s : Int), vL] 0 (fun j u hu => pe_two j u hu))) hS uS
     ·intro f w1 hS hf aA hA
      have r21 := qA 21 3 hA sbQfeFf5 zsz (hf 3 (by decide))
      exact fC rfl rfl 16 #[(.tmp 21)] _ rfl #[.agg #[.int .u64 (s : Int), vL]] (mp1 r21) (fun w => by kernel_rfl) _ (as_any (zeroT_any s _ Lq w1 HLM.out (HP.out.cells.keep hS).cs) (congrArg Value.bool HZT.out)) hS (fun _ _ h => uS.trans h)
     ·intro f w1 hS hf aA hA
      have r22 := qA 22 4 hA sbQfeFf5 zsz (hf 4 (by decide))
      exact fV rfl rfl _ (ex_not _ (.tmp 22) rfl r22) hS uS
     ·intro f w1 hS hf aA hA
      have r23 := qA 23 5 hA sbQfeFf5 zsz (hf 5 (by decide))
      exact fV rfl rfl _ (ex_move (.tmp 23) rfl r23) hS uS
     ·intro f w1 hS hf aA hA
      have t24 := qG 24 6 hA sbQfeFf5 zsz (hf 6 (by decide))
      exact flw_skip rfl ((wanted_of rfl 24 rfl t24).trans rfl) hS (Flz.refl _) uS
     ·intro f w1 hS hf aA hA
      have t24 := qG 24 6 hA sbQfeFf5 zsz (hf 6 (by decide))
      exact flw_skip rfl ((wanted_of rfl 24 rfl t24).trans rfl) hS (Flz.refl _) uS
     ·intro f w1 hS hf aA hA
      have r24 := qA 24 6 hA sbQfeFf5 zsz (hf 6 (by decide))
      exact fV rfl rfl (.bool true) (ex_pick (.tmp 24) _ (.tmp 26) rfl true r24 ((if_pos rfl).trans rfl)) hS uS
    intro f u5 hS hf hap
    have h0 := eqL (hf 0 (by decide)) rfl
    have h1 := eqL (hf 1 (by decide)) rfl
    have h2 := eqL (hf 2 (by decide)) rfl
    have h3 := eqL (hf 3 (by decide)) rfl
    have h4 := eqL (hf 4 (by decide)) rfl
    have h5 := eqL (hf 5 (by decide)) rfl
    have h6 := eqL (hf 6 (by decide)) rfl
    have h7 := eqL (hf 7 (by decide)) rfl
    have h8 := eqL (hf 8 (by decide)) rfl
    have h9 := eqL (hf 9 (by decide)) rfl
    clear hf hap
    clear zsz z4
    subst ha0
    simp only [slotsQfeFf5, putAll, h0, h1, h2, h3, h4, h5, h6, h7, h8, h9, Act.put, List.setIfInBounds_toArray, List.set_cons_zero, List.set_cons_succ]
    clear h0 h1 h2 h3 h4 h5 h6 h7 h8 h9
    refine tl_nil ?_
    replace HP := Lib.hid (HP.out.keep hS)
    replace HX2 := Lib.hid (HX2.out.keepB hS)
    replace HB := Lib.hid (HB.out.trans (hS.mono HB.out.size))
    clear hS
    go_upto_region 6 with fail
    refine wp_act (fun a0 ha0 => ?_)
    have zsz : a0.tmps.size = 48 := by rw [ha0]; rfl
    have z4 : a0.eval (.tmp 4) = .pointer (some ⟨g, 0, none⟩) := by rw [ha0]; rfl
    refine wrO [] slotsQfeFf6 waitQfeFf6 [Fct.val Flz 0 (.pointer (some ⟨g, 0, none⟩)), Fct.val Flz 1 (.pointer (some ⟨g, 0, none⟩)), Fct.val Flz 2 (.pointer (some ⟨g, 0, none⟩)), Fct.val Flz 3 (.agg #[.int .u64 (s : Int), vL]), Fct.val Flz 4 (.agg #[.slice none 0 0, .slice none 0 0, .int .u64 (s : Int), vL])] (fun w' => Below u5.heap.size u5 w') _ 5 2 chkQfeFf6 (by kernel_rfl) (by kernel_rfl) (by kernel_rfl) (by decide) (Below.refl _ _) ?_ ?_
    ·refine lt_s (lt_s (lt_s (lt_s (lt_s (lt_0) ?_) ?_) ?_) ?_) ?_
     ·intro f w1 hS hf aA hA
      have r4 := qO 4 hA z4
      exact fV rfl rfl _ (ex_move (.tmp 4) rfl r4) hS uS
     ·intro f w1 hS hf aA hA
      have r28 := qA 28 0 hA sbQfeFf6 zsz (hf 0 (by decide))
      exact fV rfl rfl _ (ex_nil (.tmp 28) rfl g 0 r28) hS uS
     ·intro f w1 hS hf aA hA
      have r29 := qA 29 1 hA sbQfeFf6 zsz (hf 1 (by decide))
      exact fV rfl rfl _ (fldP0 (.tmp 29) rfl g r29) hS uS
     ·intro f w1 hS hf aA hA
      have r30 := qA 30 2 hA sbQfeFf6 zsz (hf 2 (by decide))
      exact fV rfl rfl _ (ex_loadR 28 (.tmp 30) rfl ⟨g, 0, none⟩ r30 (fun _ => by kernel_rfl) [.int .u64 (s : Int), vL] (by kernel_rfl) ((HP.out.box.keepB hS).part [.int .u64 (s : Int), vL] 0 (fun j u hu => pe_two j u hu))) hS uS
     ·intro f w1 hS hf aA hA
      have r31 := qA 31 3 hA sbQfeFf6 zsz (hf 3 (by decide))
      exact fV rfl rfl _ (ex_build 30 _ rfl #[.slice none 0 0, .slice none 0 0, .int .u64 (s : Int), vL] [(2, .agg #[.int .u64 (s : Int), vL])] (by simp only [List.map_toArray, List.map_cons, List.map_nil, r31]) (builtG1 _ (HP.out.cells.keep hS).sl)) hS uS
    intro f u6 hS hf hap
    have h0 := eqL (hf 0 (by decide)) rfl
    have h1 := eqL (hf 1 (by decide)) rfl
    have h2 := eqL (hf 2 (by decide)) rfl
    have h3 := eqL (hf 3 (by decide)) rfl
    have h4 := eqL (hf 4 (by decide)) rfl
    clear hf hap
    clear zsz z4
    subst ha0
    simp only [slotsQfeFf6, putAll, h0, h1, h2, h3, h4, Act.put, List.setIfInBounds_toArray, List.set_cons_zero, List.set_cons_succ]
    clear h0 h1 h2 h3 h4
    have HP6 := Lib.hid (HP.out.cells.keep hS)
    have HX6 := Lib.hid (HX2.out.keepB hS)
    have HB6 := Lib.hid (HB.out.trans (hS.mono HB.out.size))
    clear HP HX2 HB hS
    refine tl_store rfl (by kernel_rfl) 30 (.tmp 2) (.tmp 32) rfl g2 [.slice none 0 0, .slice none 0 0, .int .u64 (s : Int), vL] _ rfl rfl _ HX6.out (by kernel_rfl) rfl (rs_ones rfl rfl _ HP6.out.oneC) ?_
    intro u7 hp hbl hot
    have HX2 := Lib.hid hp
    have HP7 := Lib.hid (HP6.out.off fun j hj => hot j ((HP6.out.blkT j hj).ne HX6.out.blkT (by decide)))
    have HB := Lib.hid (HB6.out.trans (hbl _ HGg2.out))
    clear hp hbl hot HX6 HP6 HB6
    try simp only [Act.put]
    refine tl_pure rfl (by kernel_rfl) (.int .i64 10) (ex_assign _ rfl rfl) ?_
    refine tl_nil ?_
    try simp only [Act.put, List.setIfInBounds_toArray, List.set_cons_zero, List.set_cons_succ]
    have HNO : Hid (okP (peelP s L) = false) := Lib.hid (by rw [← HPQ.out]; unfold okP; rw [HZT.out]; rfl)
    go_wp2_with fail
    (try simp only [Exit.inBlock, Exit.then])
    refine bodyPost_ret (v := .tuple #[.agg #[.slice none 0 0, .slice none 0 0, .int .u64 (s : Int), vL], .int .i64 10]) ?_ rfl ⟨⟨_, rfl, _, _, _, by rw [(resQ_f HNO.out).1], by rw [(resQ_f HNO.out).2.1]; exact OwnU.nil _ _ _, by rw [(resQ_f HNO.out).2.2]; exact OwnU.nil _ _ _, by rw [← HPQ.out]; exact HP7.out.less HQL.out⟩, HB.out⟩
    exact results_twoT rfl _ _ g2 30 _ (0, 0) rfl HX2.out _ rfl Tryd.underlying30 (by kernel_rfl)
   ·cases dt
    ·go_upto_region 5 with fail
     refine wp_act (fun a0 ha0 => ?_)
     have zsz : a0.tmps.size = 48 := by rw [ha0]; rfl
     have z4 : a0.eval (.tmp 4) = .pointer (some ⟨g, 0, none⟩) := by rw [ha0]; rfl
     refine wrO [] slotsQfeG5 waitQfeG5 [Fct.val Flz 0 (.pointer (some ⟨g, 0, none⟩)), Fct.val Flz 1 (.pointer (some ⟨g, 0, none⟩)), Fct.val Flz 2 (.pointer (some ⟨g, 0, none⟩)), Fct.val Flz 3 (.agg #[.int .u64 (s : Int), vL]), Fct.val Flz 4 (.bool true), Fct.val Flz 5 (.bool false), Fct.val Flz 6 (.bool false), Fct.val Flz 7 (.pointer (some ⟨g, 0, none⟩)), Fct.val Flz 8 (.bool false), Fct.val Flz 9 (.bool false)] (fun w' => Below u4.heap.size u4 w') _ 10 0 chkQfeG5 (by kernel_rfl) (by kernel_rfl) (by kernel_rfl) (by decide) (Below.refl _ _) ?_ ?_
     ·refine lt_s (lt_s (lt_s (lt_s (lt_s (lt_s (lt_s (lt_s (lt_s (lt_s (lt_0) ?_) ?_) ?_) ?_) ?_) ?_) ?_) ?_) ?_) ?_
      ·intro f w1 hS hf aA hA
       have r4 := qO 4 hA z4
       exact fV rfl rfl _ (ex_move (.tmp 4) rfl r4) hS uS
      ·intro f w1 hS hf aA hA
       have r18 := qA 18 0 hA sbQfeG5 zsz (hf 0 (by decide))
       exact fV rfl rfl _ (ex_nil (.tmp 18) rfl g 0 r18) hS uS
      ·intro f w1 hS hf aA hA
       have r19 := qA 19 1 hA sbQfeG5 zsz (hf 1 (by decide))
       exact fV rfl rfl _ (fldP0 (.tmp 19) rfl g r19) hS uS
      ·intro f w1 hS hf aA hA
       have r20 := qA 20 2 hA sbQfeG5 zsz (hf 2 (by decide))
       exact fV rfl rfl _ (ex_loadR 28 (.tmp 20) rfl ⟨g, 0, none⟩ r20 (fun _ => by kernel_rfl) [.int .u64 (s : Int), vL] (by kernel_rfl) ((HP.out.box.keepB hS).part [.int .u64 (s : Int), vL] 0 (fun j u hu => pe_two j u hu))) hS uS
      ·intro f w1 hS hf aA hA
       have r21 := qA 21 3 hA sbQfeG5 zsz (hf 3 (by decide))
       exact fC rfl rfl 16 #[(.tmp 21)] _ rfl #[.agg #[.int .u64 (s : Int), vL]] (mp1 r21) (fun w => by kernel_rfl) _ (as_any (zeroT_any s _ Lq w1 HLM.out (HP.out.cells.keep hS).cs) (congrArg Value.bool HZT.out)) hS (fun _ _ h => uS.trans h)
      ·intro f w1 hS hf aA hA
       have r22 := qA 22 4 hA sbQfeG5 zsz (hf 4 (by decide))
       exact fV rfl rfl _ (ex_not _ (.tmp 22) rfl r22) hS uS
      ·intro f w1 hS hf aA hA
       have r23 := qA 23 5 hA sbQfeG5 zsz (hf 5 (by decide))
       exact fV rfl rfl _ (ex_move (.tmp 23) rfl r23) hS uS
      ·intro f w1 hS hf aA hA
       have t24 := qG 24 6 hA sbQfeG5 zsz (hf 6 (by decide))
       have r4 := qO 4 hA z4
       exact fV rfl ((wanted_of rfl 24 rfl t24).trans rfl) _ (ex_move (.tmp 4) rfl r4) hS uS
      ·intro f w1 hS hf aA hA
       have t24 := qG 24 6 hA sbQfeG5 zsz (hf 6 (by decide))
       have r25 := qA 25 7 hA sbQfeG5 zsz (hf 7 (by decide))
       exact fC rfl ((wanted_of rfl 24 rfl t24).trans rfl) 29 #[(.tmp 25)] _ rfl #[.pointer (some ⟨g, 0, none⟩)] (mp1 r25) (fun w => by kernel_rfl) _ (as_any (twiceP_any u2.heap.size g s Lq (aloneL s Lq) Pq Mq vL vA vP vM w1 (HP.out.keep hS) (by have := HO.out; omega)) (congrArg Value.bool HDT.out)) hS (fun _ _ h => uS.trans h)
      ·intro f w1 hS hf aA hA
       have r24 := qA 24 6 hA sbQfeG5 zsz (hf 6 (by decide))
       have r26 := qA 26 8 hA sbQfeG5 zsz (hf 8 (by decide))
       exact fV rfl rfl (.bool false) (ex_pick (.tmp 24) _ (.tmp 26) rfl false r24 ((if_neg (by decide)).trans r26)) hS uS
     intro f u5 hS hf hap
     have h0 := eqL (hf 0 (by decide)) rfl
     have h1 := eqL (hf 1 (by decide)) rfl
     have h2 := eqL (hf 2 (by decide)) rfl
     have h3 := eqL (hf 3 (by decide)) rfl
     have h4 := eqL (hf 4 (by decide)) rfl
     have h5 := eqL (hf 5 (by decide)) rfl
     have h6 := eqL (hf 6 (by decide)) rfl
     have h7 := eqL (hf 7 (by decide)) rfl
     have h8 := eqL (hf 8 (by decide)) rfl
     have h9 := eqL (hf 9 (by decide)) rfl
     clear hf hap
     clear zsz z4
     subst ha0
     simp only [slotsQfeG5, putAll, h0, h1, h2, h3, h4, h5, h6, h7, h8, h9, Act.put, List.setIfInBounds_toArray, List.set_cons_zero, List.set_cons_succ]
     clear h0 h1 h2 h3 h4 h5 h6 h7 h8 h9
     refine tl_nil ?_
     replace HP := Lib.hid (HP.out.keep hS)
     replace HX2 := Lib.hid (HX2.out.keepB hS)
     replace HB := Lib.hid (HB.out.trans (hS.mono HB.out.size))
     clear hS
     have HBQ : Hid (w.heap.size ≤ u5.drew.heap.size) := Lib.hid HB.out.size
     go_upto_region 7 with fail
     have HST : Hid (Below u5.heap.size u5 u5.drew) := Lib.hid (Below.refl _ _).drew
     replace HP := Lib.hid (HP.out.keep HST.out)
     replace HX2 := Lib.hid (HX2.out.keepB HST.out)
     replace HB := Lib.hid (HB.out.trans (HST.out.mono HB.out.size))
     clear HST
     refine wp_act (fun a0 ha0 => ?_)
     have zsz : a0.tmps.size = 48 := by rw [ha0]; rfl
     have z4 : a0.eval (.tmp 4) = .pointer (some ⟨g, 0, none⟩) := by rw [ha0]; rfl
     refine wrD [] slotsQfeG7 waitQfeG7 [Fct.val Flz 0 (.pointer (some ⟨g, 0, none⟩)), Fct.val Flz 1 (.pointer (some ⟨g, 0, none⟩)), Fct.val Flz 2 (.pointer (some ⟨g, 3, none⟩)), Fct.val Flz 3 (vP), Fct.obj 4 (fun v w => ∃ zz, v = zz ∧ RowS u5.drew.heap.size w zz (srt (Pq))) (fun _ _ _ ⟨zz, a, b⟩ he => ⟨zz, a, b.flz he⟩), Fct.val Flz 5 (.pointer (some ⟨g, 0, none⟩)), Fct.val Flz 6 (.pointer (some ⟨g, 0, none⟩)), Fct.val Flz 7 (.pointer (some ⟨g, 4, none⟩)), Fct.val Flz 8 (vM), Fct.obj 9 (fun v w => ∃ zz, v = zz ∧ RowS u5.drew.heap.size w zz (srt (Mq))) (fun _ _ _ ⟨zz, a, b⟩ he => ⟨zz, a, b.flz he⟩), Fct.val Flz 10 (.pointer (some ⟨g, 0, none⟩)), Fct.val Flz 11 (.pointer (some ⟨g, 0, none⟩)), Fct.val Flz 12 (.pointer (some ⟨g, 0, none⟩)), Fct.val Flz 13 (.agg #[.int .u64 (s : Int), vL])] (fun w' => Below u5.drew.heap.size u5.drew w') _ 14 3 chkQfeG7 (by kernel_rfl) (by kernel_rfl) (by kernel_rfl) (by kernel_rfl) (by decide) (Below.refl _ _) ?_ ?_
     ·refine lt_s (lt_s (lt_s (lt_s (lt_s (lt_s (lt_s (lt_s (lt_s (lt_s (lt_s (lt_s (lt_s (lt_s (lt_0) ?_) ?_) ?_) ?_) ?_) ?_) ?_) ?_) ?_) ?_) ?_) ?_) ?_) ?_
      ·intro f w1 hS hf aA hA
       have r4 := qO 4 hA z4
       exact fV rfl rfl _ (ex_move (.tmp 4) rfl r4) hS uS
      ·intro f w1 hS hf aA hA
       have r33 := qA 33 0 hA sbQfeG7 zsz (hf 0 (by decide))
       exact fV rfl rfl _ (ex_nil (.tmp 33) rfl g 0 r33) hS uS
      ·intro f w1 hS hf aA hA
       have r34 := qA 34 1 hA sbQfeG7 zsz (hf 1 (by decide))
       exact fV rfl rfl _ (fldP2 (.tmp 34) rfl g r34) hS uS
      ·intro f w1 hS hf aA hA
       have r35 := qA 35 2 hA sbQfeG7 zsz (hf 2 (by decide))
       exact fV rfl rfl _ (ex_load1 23 (.tmp 35) rfl ⟨g, 3, none⟩ r35 (fun _ => by kernel_rfl) ((HP.out.box.keepB hS).cellv rfl)) hS uS
      ·intro f w1 hS hf aA hA
       have r36 := qA 36 3 hA sbQfeG7 zsz (hf 3 (by decide))
       exact fC rfl rfl 30 #[(.tmp 36)] _ rfl #[vP] (mp1 r36) (fun w => by kernel_rfl) _ (us_ofS (OwnU.us (HP.out.plus.keep hS)) (by have := HO.out; omega) u5.drew.heap.size hS.size) hS (fun _ _ ⟨zz, a, b⟩ => ⟨zz, uS.trans a, b⟩)
      ·intro f w1 hS hf aA hA
       have r4 := qO 4 hA z4
       exact fV rfl rfl _ (ex_move (.tmp 4) rfl r4) hS uS
      ·intro f w1 hS hf aA hA
       have r38 := qA 38 5 hA sbQfeG7 zsz (hf 5 (by decide))
       exact fV rfl rfl _ (ex_nil (.tmp 38) rfl g 0 r38) hS uS
      ·intro f w1 hS hf aA hA
       have r39 := qA 39 6 hA sbQfeG7 zsz (hf 6 (by decide))
       exact fV rfl rfl _ (fldP3 (.tmp 39) rfl g r39) hS uS
      ·intro f w1 hS hf aA hA
       have r40 := qA 40 7 hA sbQfeG7 zsz (hf 7 (by decide))
       exact fV rfl rfl _ (ex_load1 23 (.tmp 40) rfl ⟨g, 4, none⟩ r40 (fun _ => by kernel_rfl) ((HP.out.box.keepB hS).cellv rfl)) hS uS
      ·intro f w1 hS hf aA hA
       have r41 := qA 41 8 hA sbQfeG7 zsz (hf 8 (by decide))
       exact fC rfl rfl 30 #[(.tmp 41)] _ rfl #[vM] (mp1 r41) (fun w => by kernel_rfl) _ (us_ofS (OwnU.us (HP.out.minus.keep hS)) (by have := HO.out; omega) u5.drew.heap.size hS.size) hS (fun _ _ ⟨zz, a, b⟩ => ⟨zz, uS.trans a, b⟩)
      ·intro f w1 hS hf aA hA
       have r4 := qO 4 hA z4
       exact fV rfl rfl _ (ex_move (.tmp 4) rfl r4) hS uS
      ·intro f w1 hS hf aA hA
       have r43 := qA 43 10 hA sbQfeG7 zsz (hf 10 (by decide))
       exact fV rfl rfl _ (ex_nil (.tmp 43) rfl g 0 r43) hS uS
      ·intro f w1 hS hf aA hA
       have r44 := qA 44 11 hA sbQfeG7 zsz (hf 11 (by decide))
       exact fV rfl rfl _ (fldP0 (.tmp 44) rfl g r44) hS uS
      ·intro f w1 hS hf aA hA
       have r45 := qA 45 12 hA sbQfeG7 zsz (hf 12 (by decide))
       exact fV rfl rfl _ (ex_loadR 28 (.tmp 45) rfl ⟨g, 0, none⟩ r45 (fun _ => by kernel_rfl) [.int .u64 (s : Int), vL] (by kernel_rfl) ((HP.out.box.keepB hS).part [.int .u64 (s : Int), vL] 0 (fun j u hu => pe_two j u hu))) hS uS
     intro f u6 hS hf hap
     have h0 := eqL (hf 0 (by decide)) rfl
     have h1 := eqL (hf 1 (by decide)) rfl
     have h2 := eqL (hf 2 (by decide)) rfl
     have h3 := eqL (hf 3 (by decide)) rfl
     obtain ⟨v7_4, h4, hu4⟩ := hf 4 (by decide)
     have HU7_4 := Lib.hid hu4
     clear hu4
     have h5 := eqL (hf 5 (by decide)) rfl
     have h6 := eqL (hf 6 (by decide)) rfl
     have h7 := eqL (hf 7 (by decide)) rfl
     have h8 := eqL (hf 8 (by decide)) rfl
     obtain ⟨v7_9, h9, hu9⟩ := hf 9 (by decide)
     have HU7_9 := Lib.hid hu9
     clear hu9
     have h10 := eqL (hf 10 (by decide)) rfl
     have h11 := eqL (hf 11 (by decide)) rfl
     have h12 := eqL (hf 12 (by decide)) rfl
     have h13 := eqL (hf 13 (by decide)) rfl
     clear hf hap
     clear zsz z4
     subst ha0
     simp only [slotsQfeG7, putAll, h0, h1, h2, h3, h4, h5, h6, h7, h8, h9, h10, h11, h12, h13, Act.put, List.setIfInBounds_toArray, List.set_cons_zero, List.set_cons_succ]
     clear h0 h1 h2 h3 h4 h5 h6 h7 h8 h9 h10 h11 h12 h13
     have HP6 := Lib.hid (HP.out.cells.keep hS)
     have HX6 := Lib.hid (HX2.out.keepB hS)
     have HB6 := Lib.hid (HB.out.trans (hS.mono HB.out.size))
     clear HP HX2 HB hS
     refine tl_pure rfl (by kernel_rfl) (.agg #[v7_4, v7_9, .int .u64 (s : Int), vL]) (ex_build 30 _ rfl #[v7_4, v7_9, .int .u64 (s : Int), vL] [(0, v7_4), (1, v7_9), (2, .agg #[.int .u64 (s : Int), vL])] (by kernel_rfl) (builtG3 (s : Int) HU7_4.out.cs_sl HU7_9.out.cs_sl HP6.out.sl)) ?_
     try simp only [Act.put, List.setIfInBounds_toArray, List.set_cons_zero, List.set_cons_succ]
     refine tl_store rfl (by kernel_rfl) 30 (.tmp 2) (.tmp 47) rfl g2 [v7_4, v7_9, .int .u64 (s : Int), vL] _ rfl rfl _ HX6.out (by kernel_rfl) rfl (rs_ones HU7_4.out.oneC HU7_9.out.oneC _ HP6.out.oneC) ?_
     intro u7 hp hbl hot
     have HX2 := Lib.hid hp
     have HP7 := Lib.hid (HP6.out.off fun j hj => hot j ((HP6.out.blkT j hj).ne HX6.out.blkT (by decide)))
     have HV7 := Lib.hid (HU7_4.out.off fun j hj => hot j ((HU7_4.out.blkT j hj).ne HX6.out.blkT (by decide)))
     have HW7 := Lib.hid (HU7_9.out.off fun j hj => hot j ((HU7_9.out.blkT j hj).ne HX6.out.blkT (by decide)))
     have HB5 : Hid (w.heap.size ≤ u5.drew.heap.size) := HBQ
     have HB := Lib.hid (HB6.out.trans (hbl _ HGg2.out))
     clear hp hbl hot HX6 HP6 HB6 HU7_4 HU7_9
     try simp only [Act.put]
     refine tl_pure rfl (by kernel_rfl) (.int .i64 0) (ex_assign _ rfl rfl) ?_
     refine tl_nilN ?_
     try simp only [Act.put, List.setIfInBounds_toArray, List.set_cons_zero, List.set_cons_succ]
     have HNO : Hid (okP (peelP s L) = true) := Lib.hid (by rw [← HPQ.out]; unfold okP; rw [HDT.out]; exact (Bool.and_true _).trans HZT.out)
     go_wp2_with fail
     (try simp only [Exit.inBlock, Exit.then])
     refine bodyPost_ret (v := .tuple #[.agg #[v7_4, v7_9, .int .u64 (s : Int), vL], .int .i64 0]) ?_ rfl ⟨⟨_, rfl, _, _, _, by rw [(resQ_t HNO.out).1], by rw [(resQ_t HNO.out).2.1, ← HPQ.out]; exact HV7.out.less HB5.out, by rw [(resQ_t HNO.out).2.2, ← HPQ.out]; exact HW7.out.less HB5.out, by rw [← HPQ.out]; exact HP7.out.less HQL.out⟩, HB.out⟩
     exact results_twoT rfl _ _ g2 30 _ (0, 0) rfl HX2.out _ rfl Tryd.underlying30 (by kernel_rfl)
    ·go_upto_region 5 with fail
     refine wp_act (fun a0 ha0 => ?_)
     have zsz : a0.tmps.size = 48 := by rw [ha0]; rfl
     have z4 : a0.eval (.tmp 4) = .pointer (some ⟨g, 0, none⟩) := by rw [ha0]; rfl
     refine wrO [] slotsQfeG5 waitQfeG5 [Fct.val Flz 0 (.pointer (some ⟨g, 0, none⟩)), Fct.val Flz 1 (.pointer (some ⟨g, 0, none⟩)), Fct.val Flz 2 (.pointer (some ⟨g, 0, none⟩)), Fct.val Flz 3 (.agg #[.int .u64 (s : Int), vL]), Fct.val Flz 4 (.bool true), Fct.val Flz 5 (.bool false), Fct.val Flz 6 (.bool false), Fct.val Flz 7 (.pointer (some ⟨g, 0, none⟩)), Fct.val Flz 8 (.bool true), Fct.val Flz 9 (.bool true)] (fun w' => Below u4.heap.size u4 w') _ 10 0 chkQfeG5 (by kernel_rfl) (by kernel_rfl) (by kernel_rfl) (by decide) (Below.refl _ _) ?_ ?_
     ·refine lt_s (lt_s (lt_s (lt_s (lt_s (lt_s (lt_s (lt_s (lt_s (lt_s (lt_0) ?_) ?_) ?_) ?_) ?_) ?_) ?_) ?_) ?_) ?_
      ·intro f w1 hS hf aA hA
       have r4 := qO 4 hA z4
       exact fV rfl rfl _ (ex_move (.tmp 4) rfl r4) hS uS
      ·intro f w1 hS hf aA hA
       have r18 := qA 18 0 hA sbQfeG5 zsz (hf 0 (by decide))
       exact fV rfl rfl _ (ex_nil (.tmp 18) rfl g 0 r18) hS uS
      ·intro f w1 hS hf aA hA
       have r19 := qA 19 1 hA sbQfeG5 zsz (hf 1 (by decide))
       exact fV rfl rfl _ (fldP0 (.tmp 19) rfl g r19) hS uS
      ·intro f w1 hS hf aA hA
       have r20 := qA 20 2 hA sbQfeG5 zsz (hf 2 (by decide))
       exact fV rfl rfl _ (ex_loadR 28 (.tmp 20) rfl ⟨g, 0, none⟩ r20 (fun _ => by kernel_rfl) [.int .u64 (s : Int), vL] (by kernel_rfl) ((HP.out.box.keepB hS).part [.int .u64 (s : Int), vL] 0 (fun j u hu => pe_two j u hu))) hS uS
      ·intro f w1 hS hf aA hA
       have r21 := qA 21 3 hA sbQfeG5 zsz (hf 3 (by decide))
       exact fC rfl rfl 16 #[(.tmp 21)] _ rfl #[.agg #[.int .u64 (s : Int), vL]] (mp1 r21) (fun w => by kernel_rfl) _ (as_any (zeroT_any s _ Lq w1 HLM.out (HP.out.cells.keep hS).cs) (congrArg Value.bool HZT.out)) hS (fun _ _ h => uS.trans h)
      ·intro f w1 hS hf aA hA
       have r22 := qA 22 4 hA sbQfeG5 zsz (hf 4 (by decide))
       exact fV rfl rfl _ (ex_not _ (.tmp 22) rfl r22) hS uS
      ·intro f w1 hS hf aA hA
       have r23 := qA 23 5 hA sbQfeG5 zsz (hf 5 (by decide))
       exact fV rfl rfl _ (ex_move (.tmp 23) rfl r23) hS uS
      ·intro f w1 hS hf aA hA
       have t24 := qG 24 6 hA sbQfeG5 zsz (hf 6 (by decide))
       have r4 := qO 4 hA z4
       exact fV rfl ((wanted_of rfl 24 rfl t24).trans rfl) _ (ex_move (.tmp 4) rfl r4) hS uS
      ·intro f w1 hS hf aA hA
       have t24 := qG 24 6 hA sbQfeG5 zsz (hf 6 (by decide))
       have r25 := qA 25 7 hA sbQfeG5 zsz (hf 7 (by decide))
       exact fC rfl ((wanted_of rfl 24 rfl t24).trans rfl) 29 #[(.tmp 25)] _ rfl #[.pointer (some ⟨g, 0, none⟩)] (mp1 r25) (fun w => by kernel_rfl) _ (as_any (twiceP_any u2.heap.size g s Lq (aloneL s Lq) Pq Mq vL vA vP vM w1 (HP.out.keep hS) (by have := HO.out; omega)) (congrArg Value.bool HDT.out)) hS (fun _ _ h => uS.trans h)
      ·intro f w1 hS hf aA hA
       have r24 := qA 24 6 hA sbQfeG5 zsz (hf 6 (by decide))
       have r26 := qA 26 8 hA sbQfeG5 zsz (hf 8 (by decide))
       exact fV rfl rfl (.bool true) (ex_pick (.tmp 24) _ (.tmp 26) rfl false r24 ((if_neg (by decide)).trans r26)) hS uS
     intro f u5 hS hf hap
     have h0 := eqL (hf 0 (by decide)) rfl
     have h1 := eqL (hf 1 (by decide)) rfl
     have h2 := eqL (hf 2 (by decide)) rfl
     have h3 := eqL (hf 3 (by decide)) rfl
     have h4 := eqL (hf 4 (by decide)) rfl
     have h5 := eqL (hf 5 (by decide)) rfl
     have h6 := eqL (hf 6 (by decide)) rfl
     have h7 := eqL (hf 7 (by decide)) rfl
     have h8 := eqL (hf 8 (by decide)) rfl
     have h9 := eqL (hf 9 (by decide)) rfl
     clear hf hap
     clear zsz z4
     subst ha0
     simp only [slotsQfeG5, putAll, h0, h1, h2, h3, h4, h5, h6, h7, h8, h9, Act.put, List.setIfInBounds_toArray, List.set_cons_zero, List.set_cons_succ]
     clear h0 h1 h2 h3 h4 h5 h6 h7 h8 h9
     refine tl_nil ?_
     replace HP := Lib.hid (HP.out.keep hS)
     replace HX2 := Lib.hid (HX2.out.keepB hS)
     replace HB := Lib.hid (HB.out.trans (hS.mono HB.out.size))
     clear hS
     go_upto_region 6 with fail
     refine wp_act (fun a0 ha0 => ?_)
     have zsz : a0.tmps.size = 48 := by rw [ha0]; rfl
     have z4 : a0.eval (.tmp 4) = .pointer (some ⟨g, 0, none⟩) := by rw [ha0]; rfl
     refine wrO [] slotsQfeFf6 waitQfeFf6 [Fct.val Flz 0 (.pointer (some ⟨g, 0, none⟩)), Fct.val Flz 1 (.pointer (some ⟨g, 0, none⟩)), Fct.val Flz 2 (.pointer (some ⟨g, 0, none⟩)), Fct.val Flz 3 (.agg #[.int .u64 (s : Int), vL]), Fct.val Flz 4 (.agg #[.slice none 0 0, .slice none 0 0, .int .u64 (s : Int), vL])] (fun w' => Below u5.heap.size u5 w') _ 5 2 chkQfeFf6 (by kernel_rfl) (by kernel_rfl) (by kernel_rfl) (by decide) (Below.refl _ _) ?_ ?_
     ·refine lt_s (lt_s (lt_s (lt_s (lt_s (lt_0) ?_) ?_) ?_) ?_) ?_
      ·intro f w1 hS hf aA hA
       have r4 := qO 4 hA z4
       exact fV rfl rfl _ (ex_move (.tmp 4) rfl r4) hS uS
      ·intro f w1 hS hf aA hA
       have r28 := qA 28 0 hA sbQfeFf6 zsz (hf 0 (by decide))
       exact fV rfl rfl _ (ex_nil (.tmp 28) rfl g 0 r28) hS uS
      ·intro f w1 hS hf aA hA
       have r29 := qA 29 1 hA sbQfeFf6 zsz (hf 1 (by decide))
       exact fV rfl rfl _ (fldP0 (.tmp 29) rfl g r29) hS uS
      ·intro f w1 hS hf aA hA
       have r30 := qA 30 2 hA sbQfeFf6 zsz (hf 2 (by decide))
       exact fV rfl rfl _ (ex_loadR 28 (.tmp 30) rfl ⟨g, 0, none⟩ r30 (fun _ => by kernel_rfl) [.int .u64 (s : Int), vL] (by kernel_rfl) ((HP.out.box.keepB hS).part [.int .u64 (s : Int), vL] 0 (fun j u hu => pe_two j u hu))) hS uS
      ·intro f w1 hS hf aA hA
       have r31 := qA 31 3 hA sbQfeFf6 zsz (hf 3 (by decide))
       exact fV rfl rfl _ (ex_build 30 _ rfl #[.slice none 0 0, .slice none 0 0, .int .u64 (s : Int), vL] [(2, .agg #[.int .u64 (s : Int), vL])] (by simp only [List.map_toArray, List.map_cons, List.map_nil, r31]) (builtG1 _ (HP.out.cells.keep hS).sl)) hS uS
     intro f u6 hS hf hap
     have h0 := eqL (hf 0 (by decide)) rfl
     have h1 := eqL (hf 1 (by decide)) rfl
     have h2 := eqL (hf 2 (by decide)) rfl
     have h3 := eqL (hf 3 (by decide)) rfl
     have h4 := eqL (hf 4 (by decide)) rfl
     clear hf hap
     clear zsz z4
     subst ha0
     simp only [slotsQfeFf6, putAll, h0, h1, h2, h3, h4, Act.put, List.setIfInBounds_toArray, List.set_cons_zero, List.set_cons_succ]
     clear h0 h1 h2 h3 h4
     have HP6 := Lib.hid (HP.out.cells.keep hS)
     have HX6 := Lib.hid (HX2.out.keepB hS)
     have HB6 := Lib.hid (HB.out.trans (hS.mono HB.out.size))
     clear HP HX2 HB hS
     refine tl_store rfl (by kernel_rfl) 30 (.tmp 2) (.tmp 32) rfl g2 [.slice none 0 0, .slice none 0 0, .int .u64 (s : Int), vL] _ rfl rfl _ HX6.out (by kernel_rfl) rfl (rs_ones rfl rfl _ HP6.out.oneC) ?_
     intro u7 hp hbl hot
     have HX2 := Lib.hid hp
     have HP7 := Lib.hid (HP6.out.off fun j hj => hot j ((HP6.out.blkT j hj).ne HX6.out.blkT (by decide)))
     have HB := Lib.hid (HB6.out.trans (hbl _ HGg2.out))
     clear hp hbl hot HX6 HP6 HB6
     try simp only [Act.put]
     refine tl_pure rfl (by kernel_rfl) (.int .i64 10) (ex_assign _ rfl rfl) ?_
     refine tl_nil ?_
     try simp only [Act.put, List.setIfInBounds_toArray, List.set_cons_zero, List.set_cons_succ]
     have HNO : Hid (okP (peelP s L) = false) := Lib.hid (by rw [← HPQ.out]; unfold okP; rw [HDT.out]; simp)
     go_wp2_with fail
     (try simp only [Exit.inBlock, Exit.then])
     refine bodyPost_ret (v := .tuple #[.agg #[.slice none 0 0, .slice none 0 0, .int .u64 (s : Int), vL], .int .i64 10]) ?_ rfl ⟨⟨_, rfl, _, _, _, by rw [(resQ_f HNO.out).1], by rw [(resQ_f HNO.out).2.1]; exact OwnU.nil _ _ _, by rw [(resQ_f HNO.out).2.2]; exact OwnU.nil _ _ _, by rw [← HPQ.out]; exact HP7.out.less HQL.out⟩, HB.out⟩
     exact results_twoT rfl _ _ g2 30 _ (0, 0) rfl HX2.out _ rfl Tryd.underlying30 (by kernel_rfl)
  ·go_upto_region 4 with fail
   refine wp_act (fun a0 ha0 => ?_)
   have zsz : a0.tmps.size = 48 := by rw [ha0]; rfl
   have z4 : a0.eval (.tmp 4) = .pointer (some ⟨g, 0, none⟩) := by rw [ha0]; rfl
   refine wrO [] slotsQfs4 waitQfs4 [Fct.val Flz 0 (.pointer (some ⟨g, 0, none⟩)), Fct.val Flz 1 (.int .i64 (((Pq.length + Mq.length : Nat) : Int))), Fct.val Flz 2 (.bool true), Fct.val Flz 3 (.bool true), Fct.val Flz 4 (.pointer (some ⟨g, 0, none⟩))] (fun w' => Below wr.heap.size wr w') _ 5 2 chkQfs4 (by kernel_rfl) (by kernel_rfl) (by kernel_rfl) (by decide) (Below.refl _ _) ?_ ?_
   ·refine lt_s (lt_s (lt_s (lt_s (lt_s (lt_0) ?_) ?_) ?_) ?_) ?_
    ·intro f w1 hS hf aA hA
     have r4 := qO 4 hA z4
     exact fV rfl rfl _ (ex_move (.tmp 4) rfl r4) hS uS
    ·intro f w1 hS hf aA hA
     have r11 := qA 11 0 hA sbQfs4 zsz (hf 0 (by decide))
     exact fC rfl rfl 27 #[(.tmp 11)] _ rfl #[.pointer (some ⟨g, 0, none⟩)] (mp1 r11) (fun w => by kernel_rfl) _ (outP_any u2.heap.size g s Lq (aloneL s Lq) Pq Mq vL vA vP vM w1 (HP.out.keep hS) (by have := HO.out; omega) (by have := HO.out; omega)) hS (fun _ _ h => uS.trans h)
    ·intro f w1 hS hf aA hA
     have r12 := qA 12 1 hA sbQfs4 zsz (hf 1 (by decide))
     exact fV rfl rfl _ (Eq.trans (ex_int .leq _ _ (.tmp 12) _ rfl .i64 (((Pq.length + Mq.length : Nat) : Int)) 1024 r12 rfl (.bool (decide ((((Pq.length + Mq.length : Nat) : Int)) ≤ (1024 : Int)))) (fun _ => rfl)) (by rw [HLT.out])) hS uS
    ·intro f w1 hS hf aA hA
     have r13 := qA 13 2 hA sbQfs4 zsz (hf 2 (by decide))
     exact fV rfl rfl _ (ex_move (.tmp 13) rfl r13) hS uS
    ·intro f w1 hS hf aA hA
     have t14 := qG 14 3 hA sbQfs4 zsz (hf 3 (by decide))
     have r4 := qO 4 hA z4
     exact fV rfl ((wanted_of rfl 14 rfl t14).trans rfl) _ (ex_move (.tmp 4) rfl r4) hS uS
   intro f u4 hS hf hap
   have h0 := eqL (hf 0 (by decide)) rfl
   have h1 := eqL (hf 1 (by decide)) rfl
   have h2 := eqL (hf 2 (by decide)) rfl
   have h3 := eqL (hf 3 (by decide)) rfl
   have h4 := eqL (hf 4 (by decide)) rfl
   clear hf hap
   clear zsz z4
   subst ha0
   simp only [slotsQfs4, putAll, h0, h1, h2, h3, h4, Act.put, List.setIfInBounds_toArray, List.set_cons_zero, List.set_cons_succ]
   clear h0 h1 h2 h3 h4
   have HP4 := Lib.hid (HP.out.keep hS)
   have HB4 := Lib.hid (HBW.out.trans (hS.mono HBW.out.size))
   clear HP HB hS HBW
   refine tl_call rfl rfl 28 #[(.tmp 15)] _ rfl #[.pointer (some ⟨g, 0, none⟩)] (by kernel_rfl) (fun w => by kernel_rfl) _ (peelStep_b u2.heap.size g s Lq Pq Mq vL vA vP vM u2 u4 HB4.out (Nat.le_refl _) HSD.out HL2.out HLM.out (by have := HO.out; omega) HP4.out) ?_
   rintro e u5 ⟨⟨rfl, vL, vA, vP, vM, hp⟩, hb5⟩
   refine ⟨_, rfl, ?_⟩
   have HBW := Lib.hid hb5
   have HB : Hid (Below w.heap.size w u5) := Lib.hid (HB2.out.trans (hb5.mono HW2.out))
   clear HB4 HP4 hb5
   obtain ⟨sp, hsp⟩ : ∃ sp, stepP s (Lq, Pq, Mq) = sp := ⟨_, rfl⟩
   have HSP := Lib.hid hsp
   unfold stepQ at hp
   rw [hsp] at hp ⊢
   clear hsp
   try simp only [Act.put, List.setIfInBounds_toArray, List.set_cons_zero, List.set_cons_succ]
   cases sp
   ·have HP : Hid (PeS u2.heap.size u5 g s Lq (aloneL s Lq) Pq Mq vL vA vP vM) := Lib.hid hp
    have HPQ : Hid ((Lq, Pq, Mq) = peelP s L) := Lib.hid (by have h3 := HR.out; rw [runP_stop _ HSP.out] at h3; exact h3)
    clear hp hlt hlt2
    refine tl_pure rfl (by kernel_rfl) (.bool false) (ex_pick (.tmp 14) (.tmp 16) _ rfl true rfl ((if_pos rfl).trans rfl)) ?_
    refine tl_nil ?_
    try simp only [Act.put, List.setIfInBounds_toArray, List.set_cons_zero, List.set_cons_succ]
    have HX2 := Lib.hid (HX22.out.keepB HBW.out)
    obtain ⟨zt, hzt⟩ : ∃ zt, zeroT Lq = zt := ⟨_, rfl⟩
    have HZT := Lib.hid hzt
    clear hzt
    obtain ⟨dt, hdt⟩ : ∃ dt, dupP (Lq, Pq, Mq) = dt := ⟨_, rfl⟩
    have HDT := Lib.hid hdt
    clear hdt
    have HQL : Hid (w.heap.size ≤ u2.heap.size) := HW2
    cases zt
    ·go_upto_region 5 with fail
     refine wp_act (fun a0 ha0 => ?_)
     have zsz : a0.tmps.size = 48 := by rw [ha0]; rfl
     have z4 : a0.eval (.tmp 4) = .pointer (some ⟨g, 0, none⟩) := by rw [ha0]; rfl
     refine wrO [] slotsQfeFf5 waitQfeFf5 [Fct.val Flz 0 (.pointer (some ⟨g, 0, none⟩)), Fct.val Flz 1 (.pointer (some ⟨g, 0, none⟩)), Fct.val Flz 2 (.pointer (some ⟨g, 0, none⟩)), Fct.val Flz 3 (.agg #[.int .u64 (s : Int), vL]), Fct.val Flz 4 (.bool false), Fct.val Flz 5 (.bool true), Fct.val Flz 6 (.bool true), Fct.val Flz 7 (undef), Fct.val Flz 8 (undef), Fct.val Flz 9 (.bool true)] (fun w' => Below u5.heap.size u5 w') _ 10 0 chkQfeFf5 (by kernel_rfl) (by kernel_rfl) (by kernel_rfl) (by decide) (Below.refl _ _) ?_ ?_
     ·refine lt_s (lt_s (lt_s (lt_s (lt_s (lt_s (lt_s (lt_s (lt_s (lt_s (lt_0) ?_) ?_) ?_) ?_) ?_) ?_) ?_) ?_) ?_) ?_
      ·intro f w1 hS hf aA hA
       have r4 := qO 4 hA z4
       exact fV rfl rfl _ (ex_move (.tmp 4) rfl r4) hS uS
      ·intro f w1 hS hf aA hA
       have r18 := qA 18 0 hA sbQfeFf5 zsz (hf 0 (by decide))
       exact fV rfl rfl _ (ex_nil (.tmp 18) rfl g 0 r18) hS uS
      ·intro f w1 hS hf aA hA
       have r19 := qA 19 1 hA sbQfeFf5 zsz (hf 1 (by decide))
       exact fV rfl rfl _ (fldP0 (.tmp 19) rfl g r19) hS uS
      ·intro f w1 hS hf aA hA
       have r20 := qA 20 2 hA sbQfeFf5 zsz (hf 2 (by decide))
       exact fV rfl rfl _ (ex_loadR 28 (.tmp 20) rfl ⟨g, 0, none⟩ r20 (fun _ => by kernel_rfl) [.int .u64 (s : Int), vL] (by kernel_rfl) ((HP.out.box.keepB hS).part [.int .u64 (s : Int), vL] 0 (fun j u hu => pe_two j u hu))) hS uS
      ·intro f w1 hS hf aA hA
       have r21 := qA 21 3 hA sbQfeFf5 zsz (hf 3 (by decide))
       exact fC rfl rfl 16 #[(.tmp 21)] _ rfl #[.agg #[.int .u64 (s : Int), vL]] (mp1 r21) (fun w => by kernel_rfl) _ (as_any (zeroT_any s _ Lq w1 HLM.out (HP.out.cells.keep hS).cs) (congrArg Value.bool HZT.out)) hS (fun _ _ h => uS.trans h)
      ·intro f w1 hS hf aA hA
       have r22 := qA 22 4 hA sbQfeFf5 zsz (hf 4 (by decide))
       exact fV rfl rfl _ (ex_not _ (.tmp 22) rfl r22) hS uS
      ·intro f w1 hS hf aA hA
       have r23 := qA 23 5 hA sbQfeFf5 zsz (hf 5 (by decide))
       exact fV rfl rfl _ (ex_move (.tmp 23) rfl r23) hS uS
      ·intro f w1 hS hf aA hA
       have t24 := qG 24 6 hA sbQfeFf5 zsz (hf 6 (by decide))
       exact flw_skip rfl ((wanted_of rfl 24 rfl t24).trans rfl) hS (Flz.refl _) uS
      ·intro f w1 hS hf aA hA
       have t24 := qG 24 6 hA sbQfeFf5 zsz (hf 6 (by decide))
       exact flw_skip rfl ((wanted_of rfl 24 rfl t24).trans rfl) hS (Flz.refl _) uS
      ·intro f w1 hS hf aA hA
       have r24 := qA 24 6 hA sbQfeFf5 zsz (hf 6 (by decide))
       exact fV rfl rfl (.bool true) (ex_pick (.tmp 24) _ (.tmp 26) rfl true r24 ((if_pos rfl).trans rfl)) hS uS
     intro f u5 hS hf hap
     have h0 := eqL (hf 0 (by decide)) rfl
     have h1 := eqL (hf 1 (by decide)) rfl
     have h2 := eqL (hf 2 (by decide)) rfl
     have h3 := eqL (hf 3 (by decide)) rfl
     have h4 := eqL (hf 4 (by decide)) rfl
     have h5 := eqL (hf 5 (by decide)) rfl
     have h6 := eqL (hf 6 (by decide)) rfl
     have h7 := eqL (hf 7 (by decide)) rfl
     have h8 := eqL (hf 8 (by decide)) rfl
     have h9 := eqL (hf 9 (by decide)) rfl
     clear hf hap
     clear zsz z4
     subst ha0
     simp only [slotsQfeFf5, putAll, h0, h1, h2, h3, h4, h5, h6, h7, h8, h9, Act.put, List.setIfInBounds_toArray, List.set_cons_zero, List.set_cons_succ]
     clear h0 h1 h2 h3 h4 h5 h6 h7 h8 h9
     refine tl_nil ?_
     replace HP := Lib.hid (HP.out.keep hS)
     replace HX2 := Lib.hid (HX2.out.keepB hS)
     replace HB := Lib.hid (HB.out.trans (hS.mono HB.out.size))
     clear hS
     go_upto_region 6 with fail
     refine wp_act (fun a0 ha0 => ?_)
     have zsz : a0.tmps.size = 48 := by rw [ha0]; rfl
     have z4 : a0.eval (.tmp 4) = .pointer (some ⟨g, 0, none⟩) := by rw [ha0]; rfl
     refine wrO [] slotsQfeFf6 waitQfeFf6 [Fct.val Flz 0 (.pointer (some ⟨g, 0, none⟩)), Fct.val Flz 1 (.pointer (some ⟨g, 0, none⟩)), Fct.val Flz 2 (.pointer (some ⟨g, 0, none⟩)), Fct.val Flz 3 (.agg #[.int .u64 (s : Int), vL]), Fct.val Flz 4 (.agg #[.slice none 0 0, .slice none 0 0, .int .u64 (s : Int), vL])] (fun w' => Below u5.heap.size u5 w') _ 5 2 chkQfeFf6 (by kernel_rfl) (by kernel_rfl) (by kernel_rfl) (by decide) (Below.refl _ _) ?_ ?_
     ·refine lt_s (lt_s (lt_s (lt_s (lt_s (lt_0) ?_) ?_) ?_) ?_) ?_
      ·intro f w1 hS hf aA hA
       have r4 := qO 4 hA z4
       exact fV rfl rfl _ (ex_move (.tmp 4) rfl r4) hS uS
      ·intro f w1 hS hf aA hA
       have r28 := qA 28 0 hA sbQfeFf6 zsz (hf 0 (by decide))
       exact fV rfl rfl _ (ex_nil (.tmp 28) rfl g 0 r28) hS uS
      ·intro f w1 hS hf aA hA
       have r29 := qA 29 1 hA sbQfeFf6 zsz (hf 1 (by decide))
       exact fV rfl rfl _ (fldP0 (.tmp 29) rfl g r29) hS uS
      ·intro f w1 hS hf aA hA
       have r30 := qA 30 2 hA sbQfeFf6 zsz (hf 2 (by decide))
       exact fV rfl rfl _ (ex_loadR 28 (.tmp 30) rfl ⟨g, 0, none⟩ r30 (fun _ => by kernel_rfl) [.int .u64 (s : Int), vL] (by kernel_rfl) ((HP.out.box.keepB hS).part [.int .u64 (s : Int), vL] 0 (fun j u hu => pe_two j u hu))) hS uS
      ·intro f w1 hS hf aA hA
       have r31 := qA 31 3 hA sbQfeFf6 zsz (hf 3 (by decide))
       exact fV rfl rfl _ (ex_build 30 _ rfl #[.slice none 0 0, .slice none 0 0, .int .u64 (s : Int), vL] [(2, .agg #[.int .u64 (s : Int), vL])] (by simp only [List.map_toArray, List.map_cons, List.map_nil, r31]) (builtG1 _ (HP.out.cells.keep hS).sl)) hS uS
     intro f u6 hS hf hap
     have h0 := eqL (hf 0 (by decide)) rfl
     have h1 := eqL (hf 1 (by decide)) rfl
     have h2 := eqL (hf 2 (by decide)) rfl
     have h3 := eqL (hf 3 (by decide)) rfl
     have h4 := eqL (hf 4 (by decide)) rfl
     clear hf hap
     clear zsz z4
     subst ha0
     simp only [slotsQfeFf6, putAll, h0, h1, h2, h3, h4, Act.put, List.setIfInBounds_toArray, List.set_cons_zero, List.set_cons_succ]
     clear h0 h1 h2 h3 h4
     have HP6 := Lib.hid (HP.out.cells.keep hS)
     have HX6 := Lib.hid (HX2.out.keepB hS)
     have HB6 := Lib.hid (HB.out.trans (hS.mono HB.out.size))
     clear HP HX2 HB hS
     refine tl_store rfl (by kernel_rfl) 30 (.tmp 2) (.tmp 32) rfl g2 [.slice none 0 0, .slice none 0 0, .int .u64 (s : Int), vL] _ rfl rfl _ HX6.out (by kernel_rfl) rfl (rs_ones rfl rfl _ HP6.out.oneC) ?_
     intro u7 hp hbl hot
     have HX2 := Lib.hid hp
     have HP7 := Lib.hid (HP6.out.off fun j hj => hot j ((HP6.out.blkT j hj).ne HX6.out.blkT (by decide)))
     have HB := Lib.hid (HB6.out.trans (hbl _ HGg2.out))
     clear hp hbl hot HX6 HP6 HB6
     try simp only [Act.put]
     refine tl_pure rfl (by kernel_rfl) (.int .i64 10) (ex_assign _ rfl rfl) ?_
     refine tl_nil ?_
     try simp only [Act.put, List.setIfInBounds_toArray, List.set_cons_zero, List.set_cons_succ]
     have HNO : Hid (okP (peelP s L) = false) := Lib.hid (by rw [← HPQ.out]; unfold okP; rw [HZT.out]; rfl)
     go_wp2_with fail
     (try simp only [Exit.inBlock, Exit.then])
     refine bodyPost_ret (v := .tuple #[.agg #[.slice none 0 0, .slice none 0 0, .int .u64 (s : Int), vL], .int .i64 10]) ?_ rfl ⟨⟨_, rfl, _, _, _, by rw [(resQ_f HNO.out).1], by rw [(resQ_f HNO.out).2.1]; exact OwnU.nil _ _ _, by rw [(resQ_f HNO.out).2.2]; exact OwnU.nil _ _ _, by rw [← HPQ.out]; exact HP7.out.less HQL.out⟩, HB.out⟩
     exact results_twoT rfl _ _ g2 30 _ (0, 0) rfl HX2.out _ rfl Tryd.underlying30 (by kernel_rfl)
    ·cases dt
     ·go_upto_region 5 with fail
      refine wp_act (fun a0 ha0 => ?_)
      have zsz : a0.tmps.size = 48 := by rw [ha0]; rfl
      have z4 : a0.eval (.tmp 4) = .pointer (some ⟨g, 0, none⟩) := by rw [ha0]; rfl
      refine wrO [] slotsQfeG5 waitQfeG5 [Fct.val Flz 0 (.pointer (some ⟨g, 0, none⟩)), Fct.val Flz 1 (.pointer (some ⟨g, 0, none⟩)), Fct.val Flz 2 (.pointer (some ⟨g, 0, none⟩)), Fct.val Flz 3 (.agg #[.int .u64 (s : Int), vL]), Fct.val Flz 4 (.bool true), Fct.val Flz 5 (.bool false), Fct.val Flz 6 (.bool false), Fct.val Flz 7 (.pointer (some ⟨g, 0, none⟩)), Fct.val Flz 8 (.bool false), Fct.val Flz 9 (.bool false)] (fun w' => Below u5.heap.size u5 w') _ 10 0 chkQfeG5 (by kernel_rfl) (by kernel_rfl) (by kernel_rfl) (by decide) (Below.refl _ _) ?_ ?_
      ·refine lt_s (lt_s (lt_s (lt_s (lt_s (lt_s (lt_s (lt_s (lt_s (lt_s (lt_0) ?_) ?_) ?_) ?_) ?_) ?_) ?_) ?_) ?_) ?_
       ·intro f w1 hS hf aA hA
        have r4 := qO 4 hA z4
        exact fV rfl rfl _ (ex_move (.tmp 4) rfl r4) hS uS
       ·intro f w1 hS hf aA hA
        have r18 := qA 18 0 hA sbQfeG5 zsz (hf 0 (by decide))
        exact fV rfl rfl _ (ex_nil (.tmp 18) rfl g 0 r18) hS uS
       ·intro f w1 hS hf aA hA
        have r19 := qA 19 1 hA sbQfeG5 zsz (hf 1 (by decide))
        exact fV rfl rfl _ (fldP0 (.tmp 19) rfl g r19) hS uS
       ·intro f w1 hS hf aA hA
        have r20 := qA 20 2 hA sbQfeG5 zsz (hf 2 (by decide))
        exact fV rfl rfl _ (ex_loadR 28 (.tmp 20) rfl ⟨g, 0, none⟩ r20 (fun _ => by kernel_rfl) [.int .u64 (s : Int), vL] (by kernel_rfl) ((HP.out.box.keepB hS).part [.int .u64 (s : Int), vL] 0 (fun j u hu => pe_two j u hu))) hS uS
       ·intro f w1 hS hf aA hA
        have r21 := qA 21 3 hA sbQfeG5 zsz (hf 3 (by decide))
        exact fC rfl rfl 16 #[(.tmp 21)] _ rfl #[.agg #[.int .u64 (s : Int), vL]] (mp1 r21) (fun w => by kernel_rfl) _ (as_any (zeroT_any s _ Lq w1 HLM.out (HP.out.cells.keep hS).cs) (congrArg Value.bool HZT.out)) hS (fun _ _ h => uS.trans h)
       ·intro f w1 hS hf aA hA
        have r22 := qA 22 4 hA sbQfeG5 zsz (hf 4 (by decide))
        exact fV rfl rfl _ (ex_not _ (.tmp 22) rfl r22) hS uS
       ·intro f w1 hS hf aA hA
        have r23 := qA 23 5 hA sbQfeG5 zsz (hf 5 (by decide))
        exact fV rfl rfl _ (ex_move (.tmp 23) rfl r23) hS uS
       ·intro f w1 hS hf aA hA
        have t24 := qG 24 6 hA sbQfeG5 zsz (hf 6 (by decide))
        have r4 := qO 4 hA z4
        exact fV rfl ((wanted_of rfl 24 rfl t24).trans rfl) _ (ex_move (.tmp 4) rfl r4) hS uS
       ·intro f w1 hS hf aA hA
        have t24 := qG 24 6 hA sbQfeG5 zsz (hf 6 (by decide))
        have r25 := qA 25 7 hA sbQfeG5 zsz (hf 7 (by decide))
        exact fC rfl ((wanted_of rfl 24 rfl t24).trans rfl) 29 #[(.tmp 25)] _ rfl #[.pointer (some ⟨g, 0, none⟩)] (mp1 r25) (fun w => by kernel_rfl) _ (as_any (twiceP_any u2.heap.size g s Lq (aloneL s Lq) Pq Mq vL vA vP vM w1 (HP.out.keep hS) (by have := HO.out; omega)) (congrArg Value.bool HDT.out)) hS (fun _ _ h => uS.trans h)
       ·intro f w1 hS hf aA hA
        have r24 := qA 24 6 hA sbQfeG5 zsz (hf 6 (by decide))
        have r26 := qA 26 8 hA sbQfeG5 zsz (hf 8 (by decide))
        exact fV rfl rfl (.bool false) (ex_pick (.tmp 24) _ (.tmp 26) rfl false r24 ((if_neg (by decide)).trans r26)) hS uS
      intro f u5 hS hf hap
      have h0 := eqL (hf 0 (by decide)) rfl
      have h1 := eqL (hf 1 (by decide)) rfl
      have h2 := eqL (hf 2 (by decide)) rfl
      have h3 := eqL (hf 3 (by decide)) rfl
      have h4 := eqL (hf 4 (by decide)) rfl
      have h5 := eqL (hf 5 (by decide)) rfl
      have h6 := eqL (hf 6 (by decide)) rfl
      have h7 := eqL (hf 7 (by decide)) rfl
      have h8 := eqL (hf 8 (by decide)) rfl
      have h9 := eqL (hf 9 (by decide)) rfl
      clear hf hap
      clear zsz z4
      subst ha0
      simp only [slotsQfeG5, putAll, h0, h1, h2, h3, h4, h5, h6, h7, h8, h9, Act.put, List.setIfInBounds_toArray, List.set_cons_zero, List.set_cons_succ]
      clear h0 h1 h2 h3 h4 h5 h6 h7 h8 h9
      refine tl_nil ?_
      replace HP := Lib.hid (HP.out.keep hS)
      replace HX2 := Lib.hid (HX2.out.keepB hS)
      replace HB := Lib.hid (HB.out.trans (hS.mono HB.out.size))
      clear hS
      have HBQ : Hid (w.heap.size ≤ u5.drew.heap.size) := Lib.hid HB.out.size
      go_upto_region 7 with fail
      have HST : Hid (Below u5.heap.size u5 u5.drew) := Lib.hid (Below.refl _ _).drew
      replace HP := Lib.hid (HP.out.keep HST.out)
      replace HX2 := Lib.hid (HX2.out.keepB HST.out)
      replace HB := Lib.hid (HB.out.trans (HST.out.mono HB.out.size))
      clear HST
      refine wp_act (fun a0 ha0 => ?_)
      have zsz : a0.tmps.size = 48 := by rw [ha0]; rfl
      have z4 : a0.eval (.tmp 4) = .pointer (some ⟨g, 0, none⟩) := by rw [ha0]; rfl
      refine wrD [] slotsQfeG7 waitQfeG7 [Fct.val Flz 0 (.pointer (some ⟨g, 0, none⟩)), Fct.val Flz 1 (.pointer (some ⟨g, 0, none⟩)), Fct.val Flz 2 (.pointer (some ⟨g, 3, none⟩)), Fct.val Flz 3 (vP), Fct.obj 4 (fun v w => ∃ zz, v = zz ∧ RowS u5.drew.heap.size w zz (srt (Pq))) (fun _ _ _ ⟨zz, a, b⟩ he => ⟨zz, a, b.flz he⟩), Fct.val Flz 5 (.pointer (some ⟨g, 0, none⟩)), Fct.val Flz 6 (.pointer (some ⟨g, 0, none⟩)), Fct.val Flz 7 (.pointer (some ⟨g, 4, none⟩)), Fct.val Flz 8 (vM), Fct.obj 9 (fun v w => ∃ zz, v = zz ∧ RowS u5.drew.heap.size w zz (srt (Mq))) (fun _ _ _ ⟨zz, a, b⟩ he => ⟨zz, a, b.flz he⟩), Fct.val Flz 10 (.pointer (some ⟨g, 0, none⟩)), Fct.val Flz 11 (.pointer (some ⟨g, 0, none⟩)), Fct.val Flz 12 (.pointer (some ⟨g, 0, none⟩)), Fct.val Flz 13 (.agg #[.int .u64 (s : Int), vL])] (fun w' => Below u5.drew.heap.size u5.drew w') _ 14 3 chkQfeG7 (by kernel_rfl) (by kernel_rfl) (by kernel_rfl) (by kernel_rfl) (by decide) (Below.refl _ _) ?_ ?_
      ·refine lt_s (lt_s (lt_s (lt_s (lt_s (lt_s (lt_s (lt_s (lt_s (lt_s (lt_s (lt_s (lt_s (lt_s (lt_0) ?_) ?_) ?_) ?_) ?_) ?_) ?_) ?_) ?_) ?_) ?_) ?_) ?_) ?_
       ·intro f w1 hS hf aA hA
        have r4 := qO 4 hA z4
        exact fV rfl rfl _ (ex_move (.tmp 4) rfl r4) hS uS
       ·intro f w1 hS hf aA hA
        have r33 := qA 33 0 hA sbQfeG7 zsz (hf 0 (by decide))
        exact fV rfl rfl _ (ex_nil (.tmp 33) rfl g 0 r33) hS uS
       ·intro f w1 hS hf aA hA
        have r34 := qA 34 1 hA sbQfeG7 zsz (hf 1 (by decide))
        exact fV rfl rfl _ (fldP2 (.tmp 34) rfl g r34) hS uS
       ·intro f w1 hS hf aA hA
        have r35 := qA 35 2 hA sbQfeG7 zsz (hf 2 (by decide))
        exact fV rfl rfl _ (ex_load1 23 (.tmp 35) rfl ⟨g, 3, none⟩ r35 (fun _ => by kernel_rfl) ((HP.out.box.keepB hS).cellv rfl)) hS uS
       ·intro f w1 hS hf aA hA
        have r36 := qA 36 3 hA sbQfeG7 zsz (hf 3 (by decide))
        exact fC rfl rfl 30 #[(.tmp 36)] _ rfl #[vP] (mp1 r36) (fun w => by kernel_rfl) _ (us_ofS (OwnU.us (HP.out.plus.keep hS)) (by have := HO.out; omega) u5.drew.heap.size hS.size) hS (fun _ _ ⟨zz, a, b⟩ => ⟨zz, uS.trans a, b⟩)
       ·intro f w1 hS hf aA hA
        have r4 := qO 4 hA z4
        exact fV rfl rfl _ (ex_move (.tmp 4) rfl r4) hS uS
       ·intro f w1 hS hf aA hA
        have r38 := qA 38 5 hA sbQfeG7 zsz (hf 5 (by decide))
        exact fV rfl rfl _ (ex_nil (.tmp 38) rfl g 0 r38) hS uS
       ·intro f w1 hS hf aA hA
        have r39 := qA 39 6 hA sbQfeG7 zsz (hf 6 (by decide))
        exact fV rfl rfl _ (fldP3 (.tmp 39) rfl g r39) hS uS
       ·intro f w1 hS hf aA hA
        have r40 := qA 40 7 hA sbQfeG7 zsz (hf 7 (by decide))
        exact fV rfl rfl _ (ex_load1 23 (.tmp 40) rfl ⟨g, 4, none⟩ r40 (fun _ => by kernel_rfl) ((HP.out.box.keepB hS).cellv rfl)) hS uS
       ·intro f w1 hS hf aA hA
        have r41 := qA 41 8 hA sbQfeG7 zsz (hf 8 (by decide))
        exact fC rfl rfl 30 #[(.tmp 41)] _ rfl #[vM] (mp1 r41) (fun w => by kernel_rfl) _ (us_ofS (OwnU.us (HP.out.minus.keep hS)) (by have := HO.out; omega) u5.drew.heap.size hS.size) hS (fun _ _ ⟨zz, a, b⟩ => ⟨zz, uS.trans a, b⟩)
       ·intro f w1 hS hf aA hA
        have r4 := qO 4 hA z4
        exact fV rfl rfl _ (ex_move (.tmp 4) rfl r4) hS uS
       ·intro f w1 hS hf aA hA
        have r43 := qA 43 10 hA sbQfeG7 zsz (hf 10 (by decide))
        exact fV rfl rfl _ (ex_nil (.tmp 43) rfl g 0 r43) hS uS
       ·intro f w1 hS hf aA hA
        have r44 := qA 44 11 hA sbQfeG7 zsz (hf 11 (by decide))
        exact fV rfl rfl _ (fldP0 (.tmp 44) rfl g r44) hS uS
       ·intro f w1 hS hf aA hA
        have r45 := qA 45 12 hA sbQfeG7 zsz (hf 12 (by decide))
        exact fV rfl rfl _ (ex_loadR 28 (.tmp 45) rfl ⟨g, 0, none⟩ r45 (fun _ => by kernel_rfl) [.int .u64 (s : Int), vL] (by kernel_rfl) ((HP.out.box.keepB hS).part [.int .u64 (s : Int), vL] 0 (fun j u hu => pe_two j u hu))) hS uS
      intro f u6 hS hf hap
      have h0 := eqL (hf 0 (by decide)) rfl
      have h1 := eqL (hf 1 (by decide)) rfl
      have h2 := eqL (hf 2 (by decide)) rfl
      have h3 := eqL (hf 3 (by decide)) rfl
      obtain ⟨v7_4, h4, hu4⟩ := hf 4 (by decide)
      have HU7_4 := Lib.hid hu4
      clear hu4
      have h5 := eqL (hf 5 (by decide)) rfl
      have h6 := eqL (hf 6 (by decide)) rfl
      have h7 := eqL (hf 7 (by decide)) rfl
      have h8 := eqL (hf 8 (by decide)) rfl
      obtain ⟨v7_9, h9, hu9⟩ := hf 9 (by decide)
      have HU7_9 := Lib.hid hu9
      clear hu9
      have h10 := eqL (hf 10 (by decide)) rfl
      have h11 := eqL (hf 11 (by decide)) rfl
      have h12 := eqL (hf 12 (by decide)) rfl
      have h13 := eqL (hf 13 (by decide)) rfl
      clear hf hap
      clear zsz z4
      subst ha0
      simp only [slotsQfeG7, putAll, h0, h1, h2, h3, h4, h5, h6, h7, h8, h9, h10, h11, h12, h13, Act.put, List.setIfInBounds_toArray, List.set_cons_zero, List.set_cons_succ]
      clear h0 h1 h2 h3 h4 h5 h6 h7 h8 h9 h10 h11 h12 h13
      have HP6 := Lib.hid (HP.out.cells.keep hS)
      have HX6 := Lib.hid (HX2.out.keepB hS)
      have HB6 := Lib.hid (HB.out.trans (hS.mono HB.out.size))
      clear HP HX2 HB hS
      refine tl_pure rfl (by kernel_rfl) (.agg #[v7_4, v7_9, .int .u64 (s : Int), vL]) (ex_build 30 _ rfl #[v7_4, v7_9, .int .u64 (s : Int), vL] [(0, v7_4), (1, v7_9), (2, .agg #[.int .u64 (s : Int), vL])] (by kernel_rfl) (builtG3 (s : Int) HU7_4.out.cs_sl HU7_9.out.cs_sl HP6.out.sl)) ?_
      try simp only [Act.put, List.setIfInBounds_toArray, List.set_cons_zero, List.set_cons_succ]
      refine tl_store rfl (by kernel_rfl) 30 (.tmp 2) (.tmp 47) rfl g2 [v7_4, v7_9, .int .u64 (s : Int), vL] _ rfl rfl _ HX6.out (by kernel_rfl) rfl (rs_ones HU7_4.out.oneC HU7_9.out.oneC _ HP6.out.oneC) ?_
      intro u7 hp hbl hot
      have HX2 := Lib.hid hp
      have HP7 := Lib.hid (HP6.out.off fun j hj => hot j ((HP6.out.blkT j hj).ne HX6.out.blkT (by decide)))
      have HV7 := Lib.hid (HU7_4.out.off fun j hj => hot j ((HU7_4.out.blkT j hj).ne HX6.out.blkT (by decide)))
      have HW7 := Lib.hid (HU7_9.out.off fun j hj => hot j ((HU7_9.out.blkT j hj).ne HX6.out.blkT (by decide)))
      have HB5 : Hid (w.heap.size ≤ u5.drew.heap.size) := HBQ
      have HB := Lib.hid (HB6.out.trans (hbl _ HGg2.out))
      clear hp hbl hot HX6 HP6 HB6 HU7_4 HU7_9
      try simp only [Act.put]
      refine tl_pure rfl (by kernel_rfl) (.int .i64 0) (ex_assign _ rfl rfl) ?_
      refine tl_nilN ?_
      try simp only [Act.put, List.setIfInBounds_toArray, List.set_cons_zero, List.set_cons_succ]
      have HNO : Hid (okP (peelP s L) = true) := Lib.hid (by rw [← HPQ.out]; unfold okP; rw [HDT.out]; exact (Bool.and_true _).trans HZT.out)
      go_wp2_with fail
      (try simp only [Exit.inBlock, Exit.then])
      refine bodyPost_ret (v := .tuple #[.agg #[v7_4, v7_9, .int .u64 (s : Int), vL], .int .i64 0]) ?_ rfl ⟨⟨_, rfl, _, _, _, by rw [(resQ_t HNO.out).1], by rw [(resQ_t HNO.out).2.1, ← HPQ.out]; exact HV7.out.less HB5.out, by rw [(resQ_t HNO.out).2.2, ← HPQ.out]; exact HW7.out.less HB5.out, by rw [← HPQ.out]; exact HP7.out.less HQL.out⟩, HB.out⟩
      exact results_twoT rfl _ _ g2 30 _ (0, 0) rfl HX2.out _ rfl Tryd.underlying30 (by kernel_rfl)
     ·go_upto_region 5 with fail
      refine wp_act (fun a0 ha0 => ?_)
      have zsz : a0.tmps.size = 48 := by rw [ha0]; rfl
      have z4 : a0.eval (.tmp 4) = .pointer (some ⟨g, 0, none⟩) := by rw [ha0]; rfl
      refine wrO [] slotsQfeG5 waitQfeG5 [Fct.val Flz 0 (.pointer (some ⟨g, 0, none⟩)), Fct.val Flz 1 (.pointer (some ⟨g, 0, none⟩)), Fct.val Flz 2 (.pointer (some ⟨g, 0, none⟩)), Fct.val Flz 3 (.agg #[.int .u64 (s : Int), vL]), Fct.val Flz 4 (.bool true), Fct.val Flz 5 (.bool false), Fct.val Flz 6 (.bool false), Fct.val Flz 7 (.pointer (some ⟨g, 0, none⟩)), Fct.val Flz 8 (.bool true), Fct.val Flz 9 (.bool true)] (fun w' => Below u5.heap.size u5 w') _ 10 0 chkQfeG5 (by kernel_rfl) (by kernel_rfl) (by kernel_rfl) (by decide) (Below.refl _ _) ?_ ?_
      ·refine lt_s (lt_s (lt_s (lt_s (lt_s (lt_s (lt_s (lt_s (lt_s (lt_s (lt_0) ?_) ?_) ?_) ?_) ?_) ?_) ?_) ?_) ?_) ?_
       ·intro f w1 hS hf aA hA
        have r4 := qO 4 hA z4
        exact fV rfl rfl _ (ex_move (.tmp 4) rfl r4) hS uS
       ·intro f w1 hS hf aA hA
        have r18 := qA 18 0 hA sbQfeG5 zsz (hf 0 (by decide))
        exact fV rfl rfl _ (ex_nil (.tmp 18) rfl g 0 r18) hS uS
       ·intro f w1 hS hf aA hA
        have r19 := qA 19 1 hA sbQfeG5 zsz (hf 1 (by decide))
        exact fV rfl rfl _ (fldP0 (.tmp 19) rfl g r19) hS uS
       ·intro f w1 hS hf aA hA
        have r20 := qA 20 2 hA sbQfeG5 zsz (hf 2 (by decide))
        exact fV rfl rfl _ (ex_loadR 28 (.tmp 20) rfl ⟨g, 0, none⟩ r20 (fun _ => by kernel_rfl) [.int .u64 (s : Int), vL] (by kernel_rfl) ((HP.out.box.keepB hS).part [.int .u64 (s : Int), vL] 0 (fun j u hu => pe_two j u hu))) hS uS
       ·intro f w1 hS hf aA hA
        have r21 := qA 21 3 hA sbQfeG5 zsz (hf 3 (by decide))
        exact fC rfl rfl 16 #[(.tmp 21)] _ rfl #[.agg #[.int .u64 (s : Int), vL]] (mp1 r21) (fun w => by kernel_rfl) _ (as_any (zeroT_any s _ Lq w1 HLM.out (HP.out.cells.keep hS).cs) (congrArg Value.bool HZT.out)) hS (fun _ _ h => uS.trans h)
       ·intro f w1 hS hf aA hA
        have r22 := qA 22 4 hA sbQfeG5 zsz (hf 4 (by decide))
        exact fV rfl rfl _ (ex_not _ (.tmp 22) rfl r22) hS uS
       ·intro f w1 hS hf aA hA
        have r23 := qA 23 5 hA sbQfeG5 zsz (hf 5 (by decide))
        exact fV rfl rfl _ (ex_move (.tmp 23) rfl r23) hS uS
       ·intro f w1 hS hf aA hA
        have t24 := qG 24 6 hA sbQfeG5 zsz (hf 6 (by decide))
        have r4 := qO 4 hA z4
        exact fV rfl ((wanted_of rfl 24 rfl t24).trans rfl) _ (ex_move (.tmp 4) rfl r4) hS uS
       ·intro f w1 hS hf aA hA
        have t24 := qG 24 6 hA sbQfeG5 zsz (hf 6 (by decide))
        have r25 := qA 25 7 hA sbQfeG5 zsz (hf 7 (by decide))
        exact fC rfl ((wanted_of rfl 24 rfl t24).trans rfl) 29 #[(.tmp 25)] _ rfl #[.pointer (some ⟨g, 0, none⟩)] (mp1 r25) (fun w => by kernel_rfl) _ (as_any (twiceP_any u2.heap.size g s Lq (aloneL s Lq) Pq Mq vL vA vP vM w1 (HP.out.keep hS) (by have := HO.out; omega)) (congrArg Value.bool HDT.out)) hS (fun _ _ h => uS.trans h)
       ·intro f w1 hS hf aA hA
        have r24 := qA 24 6 hA sbQfeG5 zsz (hf 6 (by decide))
        have r26 := qA 26 8 hA sbQfeG5 zsz (hf 8 (by decide))
        exact fV rfl rfl (.bool true) (ex_pick (.tmp 24) _ (.tmp 26) rfl false r24 ((if_neg (by decide)).trans r26)) hS uS
      intro f u5 hS hf hap
      have h0 := eqL (hf 0 (by decide)) rfl
      have h1 := eqL (hf 1 (by decide)) rfl
      have h2 := eqL (hf 2 (by decide)) rfl
      have h3 := eqL (hf 3 (by decide)) rfl
      have h4 := eqL (hf 4 (by decide)) rfl
      have h5 := eqL (hf 5 (by decide)) rfl
      have h6 := eqL (hf 6 (by decide)) rfl
      have h7 := eqL (hf 7 (by decide)) rfl
      have h8 := eqL (hf 8 (by decide)) rfl
      have h9 := eqL (hf 9 (by decide)) rfl
      clear hf hap
      clear zsz z4
      subst ha0
      simp only [slotsQfeG5, putAll, h0, h1, h2, h3, h4, h5, h6, h7, h8, h9, Act.put, List.setIfInBounds_toArray, List.set_cons_zero, List.set_cons_succ]
      clear h0 h1 h2 h3 h4 h5 h6 h7 h8 h9
      refine tl_nil ?_
      replace HP := Lib.hid (HP.out.keep hS)
      replace HX2 := Lib.hid (HX2.out.keepB hS)
      replace HB := Lib.hid (HB.out.trans (hS.mono HB.out.size))
      clear hS
      go_upto_region 6 with fail
      refine wp_act (fun a0 ha0 => ?_)
      have zsz : a0.tmps.size = 48 := by rw [ha0]; rfl
      have z4 : a0.eval (.tmp 4) = .pointer (some ⟨g, 0, none⟩) := by rw [ha0]; rfl
      refine wrO [] slotsQfeFf6 waitQfeFf6 [Fct.val Flz 0 (.pointer (some ⟨g, 0, none⟩)), Fct.val Flz 1 (.pointer (some ⟨g, 0, none⟩)), Fct.val Flz 2 (.pointer (some ⟨g, 0, none⟩)), Fct.val Flz 3 (.agg #[.int .u64 (s : Int), vL]), Fct.val Flz 4 (.agg #[.slice none 0 0, .slice none 0 0, .int .u64 (s : Int), vL])] (fun w' => Below u5.heap.size u5 w') _ 5 2 chkQfeFf6 (by kernel_rfl) (by kernel_rfl) (by kernel_rfl) (by decide) (Below.refl _ _) ?_ ?_
      ·refine lt_s (lt_s (lt_s (lt_s (lt_s (lt_0) ?_) ?_) ?_) ?_) ?_
       ·intro f w1 hS hf aA hA
        have r4 := qO 4 hA z4
        exact fV rfl rfl _ (ex_move (.tmp 4) rfl r4) hS uS
       ·intro f w1 hS hf aA hA
        have r28 := qA 28 0 hA sbQfeFf6 zsz (hf 0 (by decide))
        exact fV rfl rfl _ (ex_nil (.tmp 28) rfl g 0 r28) hS uS
       ·intro f w1 hS hf aA hA
        have r29 := qA 29 1 hA sbQfeFf6 zsz (hf 1 (by decide))
        exact fV rfl rfl _ (fldP0 (.tmp 29) rfl g r29) hS uS
       ·intro f w1 hS hf aA hA
        have r30 := qA 30 2 hA sbQfeFf6 zsz (hf 2 (by decide))
        exact fV rfl rfl _ (ex_loadR 28 (.tmp 30) rfl ⟨g, 0, none⟩ r30 (fun _ => by kernel_rfl) [.int .u64 (s : Int), vL] (by kernel_rfl) ((HP.out.box.keepB hS).part [.int .u64 (s : Int), vL] 0 (fun j u hu => pe_two j u hu))) hS uS
       ·intro f w1 hS hf aA hA
        have r31 := qA 31 3 hA sbQfeFf6 zsz (hf 3 (by decide))
        exact fV rfl rfl _ (ex_build 30 _ rfl #[.slice none 0 0, .slice none 0 0, .int .u64 (s : Int), vL] [(2, .agg #[.int .u64 (s : Int), vL])] (by simp only [List.map_toArray, List.map_cons, List.map_nil, r31]) (builtG1 _ (HP.out.cells.keep hS).sl)) hS uS
      intro f u6 hS hf hap
      have h0 := eqL (hf 0 (by decide)) rfl
      have h1 := eqL (hf 1 (by decide)) rfl
      have h2 := eqL (hf 2 (by decide)) rfl
      have h3 := eqL (hf 3 (by decide)) rfl
      have h4 := eqL (hf 4 (by decide)) rfl
      clear hf hap
      clear zsz z4
      subst ha0
      simp only [slotsQfeFf6, putAll, h0, h1, h2, h3, h4, Act.put, List.setIfInBounds_toArray, List.set_cons_zero, List.set_cons_succ]
      clear h0 h1 h2 h3 h4
      have HP6 := Lib.hid (HP.out.cells.keep hS)
      have HX6 := Lib.hid (HX2.out.keepB hS)
      have HB6 := Lib.hid (HB.out.trans (hS.mono HB.out.size))
      clear HP HX2 HB hS
      refine tl_store rfl (by kernel_rfl) 30 (.tmp 2) (.tmp 32) rfl g2 [.slice none 0 0, .slice none 0 0, .int .u64 (s : Int), vL] _ rfl rfl _ HX6.out (by kernel_rfl) rfl (rs_ones rfl rfl _ HP6.out.oneC) ?_
      intro u7 hp hbl hot
      have HX2 := Lib.hid hp
      have HP7 := Lib.hid (HP6.out.off fun j hj => hot j ((HP6.out.blkT j hj).ne HX6.out.blkT (by decide)))
      have HB := Lib.hid (HB6.out.trans (hbl _ HGg2.out))
      clear hp hbl hot HX6 HP6 HB6
      try simp only [Act.put]
      refine tl_pure rfl (by kernel_rfl) (.int .i64 10) (ex_assign _ rfl rfl) ?_
      refine tl_nil ?_
      try simp only [Act.put, List.setIfInBounds_toArray, List.set_cons_zero, List.set_cons_succ]
      have HNO : Hid (okP (peelP s L) = false) := Lib.hid (by rw [← HPQ.out]; unfold okP; rw [HDT.out]; simp)
      go_wp2_with fail
      (try simp only [Exit.inBlock, Exit.then])
      refine bodyPost_ret (v := .tuple #[.agg #[.slice none 0 0, .slice none 0 0, .int .u64 (s : Int), vL], .int .i64 10]) ?_ rfl ⟨⟨_, rfl, _, _, _, by rw [(resQ_f HNO.out).1], by rw [(resQ_f HNO.out).2.1]; exact OwnU.nil _ _ _, by rw [(resQ_f HNO.out).2.2]; exact OwnU.nil _ _ _, by rw [← HPQ.out]; exact HP7.out.less HQL.out⟩, HB.out⟩
      exact results_twoT rfl _ _ g2 30 _ (0, 0) rfl HX2.out _ rfl Tryd.underlying30 (by kernel_rfl)
   ·rename_i q1
    obtain ⟨L1, P1, M1⟩ := q1
    have HP : Hid (PeS u2.heap.size u5 g s L1 (aloneL s L1) P1 M1 vL vA vP vM) := Lib.hid hp
    have HO1 : Hid (P1.length + M1.length = Pq.length + Mq.length + 1) := Lib.hid (stepP_out HSP.out)
    have HL1 : Hid (L1.length = Lq.length) := Lib.hid (stepP_len HSP.out)
    clear hp
    refine tl_pure rfl (by kernel_rfl) (.bool true) (ex_pick (.tmp 14) (.tmp 16) _ rfl true rfl ((if_pos rfl).trans rfl)) ?_
    refine tl_nil ?_
    try simp only [Act.put, List.setIfInBounds_toArray, List.set_cons_zero, List.set_cons_succ]
    have h9 := of_decide_eq_true hlt2
    have h8 := HO1.out
    have HR1 : Hid (runP s (1025 - (P1.length + M1.length)) (L1, P1, M1) = peelP s L) := Lib.hid (by
     have h3 := HR.out
     rw [show 1025 - (Pq.length + Mq.length) = (1025 - (P1.length + M1.length)) + 1 by omega, runP_more HSP.out] at h3
     exact h3)
    have HOM1 := Lib.hid HP.out.outM
    go_wp2_with fail
    go_roundw
    case rel => exact ⟨⟨(L1, P1, M1), vL, vA, vP, vM, (show P1.length + M1.length ≤ 1025 by omega), HR1.out, (show L1.length = L.length by rw [HL1.out, HLQ.out]), HP.out⟩, HBW.out⟩
    case measure => rw [HOM.out, HOM1.out]; omega
end Go.Proofs.YtnkcehmgagpadaaDoor
