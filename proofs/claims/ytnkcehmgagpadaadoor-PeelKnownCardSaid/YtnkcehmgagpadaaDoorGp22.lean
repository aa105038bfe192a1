/- Contract: package peel's Own. Conditions: the sums' tables are laid; a seed of 64 bits; a good table, a good set (or: not). -/
import Derived.Test.YtnkcehmgagpadaaDoorSq
import Derived.Test.YtnkcehmgagpadaaDoorQf
import Derived.Test.YtnkcehmgagpadaaDoorGp15
import Derived.Test.YtnkcehmgagpadaaDoorGp5
import Derived.Test.YtnkcehmgagpadaaDoorTi
import Derived.Test.YtnkcehmgagpadaaDoorGp16
import Derived.Test.YtnkcehmgagpadaaDoorGp6
namespace Go.Proofs.YtnkcehmgagpadaaDoor
open Go.RowKit
/-- Values handed on as one. -/
def fl (x : Value) (i : Nat) : Value := match x with
 | .tuple a => a.getD i undef
 | _ => undef
/-- What a result's rows hold. -/
structure ResR (A B : List Su) (C : List Ce) (w : World) (x : Value) : Prop where
 p : RowS 0 w (fl x 0) A
 m : RowS 0 w (fl x 1) B
 l : RowO 0 47 w (fl x 2) C
theorem ResR.flz {A B : List Su} {C : List Ce} {w w' : World} {x : Value} (h : ResR A B C w x) (he : Flz w w') : ResR A B C w' x := ⟨h.p.flz he, h.m.flz he, h.l.flz he⟩
theorem ResR.keep {A B : List Su} {C : List Ce} {w w' : World} {x : Value} (h : ResR A B C w x) (hb : Below w.heap.size w w') : ResR A B C w' x := h.flz (Flz.of hb)
theorem ResR.hotr {A B : List Su} {C : List Ce} {w w' : World} {x : Value} (h : ResR A B C w x) {g : Nat} {l : List Value} (hh : Has w g 30 l) (hot : ∀ k, k ≠ g → w'.heap[k]? = w.heap[k]?) : ResR A B C w' x :=
 ⟨h.p.off fun j hj => hot j ((h.p.blkT j hj).ne hh.blkT (by decide)), h.m.off fun j hj => hot j ((h.m.blkT j hj).ne hh.blkT (by decide)), h.l.off fun j hj => hot j ((h.l.blkT j hj).ne hh.blkT (by decide))⟩
structure OwnR (A B : List Su) (w : World) (x : Value) : Prop where
 p : Us w (fl x 0) A
 m : Us w (fl x 1) B
theorem OwnR.flz {A B : List Su} {w w' : World} {x : Value} (h : OwnR A B w x) (he : Flz w w') : OwnR A B w' x := ⟨h.p.flz he, h.m.flz he⟩
theorem OwnR.keep {A B : List Su} {w w' : World} {x : Value} (h : OwnR A B w x) (hb : Below w.heap.size w w') : OwnR A B w' x := h.flz (Flz.of hb)
theorem allQ (ok : Bool) (e : Int) (A B : List Su) (s : Nat) (v : Value) (L : List Ce) (q : Pst) (hq : peelP s L = q) (hok : okP q = ok) (he : e = if ok = true then 0 else 10) (hA : A = if ok = true then srt q.2.1 else []) (hB : B = if ok = true then srt q.2.2 else []) (w : World) (hs : s < 18446744073709551616) (hL : Laid w) (hM : L.length ≤ 1000000) (hg : goodN (L.length : Int) = true) (hC : Cs w v L) :
  Calls Tryd.prog 9 #[.agg #[.int .u64 (s : Int), v]] w fun e' w' => (∃ v, e' = .returned v ∧ ∃ x, v = .tuple #[.agg #[fl x 0, fl x 1, .int .u64 (s : Int), fl x 2], .int .i64 e] ∧ ResR A B q.1 w' x) ∧ Below w.heap.size w w' := by
 refine Calls.mono (allP_good s v L w hs hL hM hC hg) ?_
 rintro e' w' ⟨⟨v, rfl, vP, vM, vL, rfl, h1, h2, h3⟩, h4⟩
 rw [hq] at h1 h2 h3 ⊢
 refine ⟨⟨_, rfl, .tuple #[vP, vM, vL], ?_, ?_⟩, h4⟩
 ·rw [he]; unfold errQ; rw [hok]; rfl
 ·unfold plusQ at h1; unfold minusQ at h2
  rw [hok, ← hA] at h1
  rw [hok, ← hB] at h2
  exact ⟨h1.less (Nat.zero_le _), h2.less (Nat.zero_le _), h3.less (Nat.zero_le _)⟩
theorem ofA_t (s : Nat) (n : Int) (m : Nat) (v : Value) (A : List Su) (hg : goodN n = true) (hm : n = m) (hA : AscU A) (w : World) (hs : s < 18446744073709551616) (hL : Laid w) (hn : A.length ≤ 10000) (hU : Us w v A) : Calls Tryd.prog 11 #[.int .u64 (s : Int), .int .i64 n, v] w fun e w' => (∃ v, e = .returned v ∧ ∃ zz, v = .tuple #[.agg #[.int .u64 (s : Int), zz], .int .i64 0] ∧ Cs w' zz (tabP s m A)) ∧ Below w.heap.size w w' := by
 have e : ofT s n A = (s, tabP s m A, 0) := by unfold ofT tabP; rw [if_pos hg, hm, srt_asc hA]; rfl
 refine Calls.mono (ofT_any s n v A w hs hL hn hU) fun e' w' ⟨⟨v, h1, x, h2, h3⟩, h4⟩ => ?_
 rw [e] at h2 h3
 exact ⟨⟨v, h1, x, h2, h3⟩, h4⟩
theorem minusS_t (s : Nat) (u : Value) (A : List Ce) (v : Value) (B : List Ce) (hg : goodN (A.length : Int) = true) (hq : A.length = B.length) (w : World) (hM : A.length ≤ 1000000) (hA : Cs w u A) (hV : Cs w v B) : Calls Tryd.prog 22 #[.agg #[.int .u64 (s : Int), u], .agg #[.int .u64 (s : Int), v]] w fun e w' => (∃ v, e = .returned v ∧ ∃ zz, v = .tuple #[.agg #[.int .u64 (s : Int), zz], .int .i64 0] ∧ Cs w' zz (List.zipWith minusC A B)) ∧ Below w.heap.size w w' := by
 have hk : okM s s A B = true := okM_of _ _ _ _ hg (by rw [← hq]; exact hg) rfl hq
 have e : minusT s A s B = (s, List.zipWith minusC A B, 0) := by unfold minusT; rw [if_pos hk]
 refine Calls.mono (minusT_any s u A s v B w rfl hq hM hA hV) fun e' w' ⟨⟨v, h1, x, h2, h3⟩, h4⟩ => ?_
 rw [e] at h2 h3
 exact ⟨⟨v, h1, x, h2, h3⟩, h4⟩
def errO (B : List Su) (q : Pst) : Int := if ownB B q = true then 0 else 10
def plusO (B : List Su) (q : Pst) : List Su := if ownB B q = true then srt q.2.1 else []
def minusO (B : List Su) (q : Pst) : List Su := if ownB B q = true then srt q.2.2 else []
theorem resO_t {B : List Su} {q : Pst} (h : ownB B q = true) : errO B q = 0 ∧ plusO B q = srt q.2.1 ∧ minusO B q = srt q.2.2 := by unfold errO plusO minusO; rw [h]; exact ⟨rfl, rfl, rfl⟩
theorem resO_f {B : List Su} {q : Pst} (h : ownB B q = false) : errO B q = 10 ∧ plusO B q = [] ∧ minusO B q = [] := by unfold errO plusO minusO; rw [h]; exact ⟨rfl, rfl, rfl⟩
theorem results_tmp3 {fn : Func} {a b c : Tmp} (h : fn.results = #[.tmp a, .tmp b, .tmp c]) (tmps : Array Value) (w : World) {x y z : Value} (hx : tmps.getD a undef = x) (hy : tmps.getD b undef = y) (hz : tmps.getD c undef = z) :
  (results fn tmps).run Tryd.prog w = .ok (.tuple #[x, y, z]) w := by
 have hx' : tmps[a]?.getD undef = x := by simpa using hx
 have hy' : tmps[b]?.getD undef = y := by simpa using hy
 have hz' : tmps[c]?.getD undef = z := by simpa using hz
 simp [results, h, hx', hy', hz']
theorem pos_dec (n : Nat) : decide ((n : Int) > 0) = !decide (n = 0) := by
 by_cases h : n = 0
 ·subst h; rfl
 ·rw [decide_eq_false h, decide_eq_true (show (n : Int) > 0 by omega)]; rfl
theorem goodU_parts {B : List Su} (h : goodU B = true) : B.length ≤ 512 ∧ AscU B := by
 unfold goodU at h
 rw [Bool.and_eq_true] at h
 exact ⟨of_decide_eq_true h.1, of_decide_eq_true h.2⟩
def waitQgb1 (i : Nat) : List Nat := ([[], [0], [1], [2], [3], [3, 4], [3, 5], [3, 6]] : List (List Nat)).getD i []
def slotsQgb1 : List (Nat × Nat) := [(12, 0), (13, 1), (14, 2), (15, 3), (16, 4), (17, 5), (18, 6), (19, 7)]
theorem sbQgb1 : slotsB slotsQgb1 = true := by kernel_rfl
theorem chkQgb1 : flwO slotsQgb1 waitQgb1 8 (regOf Tryd.f13.body 1) = true := by kernel_rfl
set_option maxHeartbeats 32000000 in
set_option maxRecDepth 100000 in
theorem ownP_bad (s : Nat) (v : Value) (T : List Ce) (u : Value) (B : List Su) (w : World) (hs : s < 18446744073709551616) (hL : Laid w) (hM : T.length ≤ 1000000) (hn : B.length ≤ 1000) (hC : Cs w v T) (hU : Us w u B) (hg : goodN (T.length : Int) = true) (hb : goodU B = false) :
  Calls Tryd.prog 13 #[.agg #[.int .u64 (s : Int), v], u] w fun e w' => (e = .returned (.tuple #[.slice none 0 0, .slice none 0 0, .int .i64 1])) ∧ Below w.heap.size w w' := by
 have HL := Lib.hid hL
 have HSZ := Lib.hid hL.size
 have HSD := Lib.hid hs
 have HTM := Lib.hid hM
 have HBN := Lib.hid hn
 have HC := Lib.hid hC
 have HU := Lib.hid hU
 have HG := Lib.hid hg
 have HGU := Lib.hid hb
 clear hg hb
 clear hL hs hM hC hU
 obtain ⟨w0, hw0⟩ : ∃ w0, w0 = w := ⟨_, rfl⟩
 rw [show (Calls Tryd.prog 13 #[.agg #[.int .u64 (s : Int), v], u] w : (Ending → World → Prop) → Prop) = Calls Tryd.prog 13 #[.agg #[.int .u64 (s : Int), v], u] w0 by rw [hw0]]
 have HB : Hid (Below w.heap.size w w0) := Lib.hid (by rw [hw0]; exact Below.refl _ _)
 clear hw0
 go_enter Tryd.func13, Tryd.ntmps13
 go_upto_region 0 with fail
 refine wp_region_lit ?_
 try simp only [Act.put, List.setIfInBounds_toArray, List.set_cons_zero, List.set_cons_succ]
 refine lp_step rfl (fun K hK => wp_box_row 28 (.tmp 0) rfl (.agg #[.int .u64 (s : Int), v]) rfl (hK _ _ ?_))
 try simp only [Act.put, List.setIfInBounds_toArray, List.set_cons_zero, List.set_cons_succ]
 show wpList _ _ _ _ _ (w0.alloc (.cells (([.int .u64 (s : Int), v] : List Value)).toArray 28))
 have HST : Hid (Below w0.heap.size w0 (w0.alloc (.cells (([.int .u64 (s : Int), v] : List Value)).toArray 28))) := Lib.hid ((Below.refl _ _).alloc (Nat.le_refl _) _)
 have HX1 : Hid (Has (w0.alloc (.cells (([.int .u64 (s : Int), v] : List Value)).toArray 28)) w0.heap.size 28 ([.int .u64 (s : Int), v])) := Lib.hid (Has.made' _ _ _ _ rfl)
 have HGg1 : Hid (w.heap.size ≤ w0.heap.size) := Lib.hid HB.out.size
 replace HB := Lib.hid (HB.out.trans (HST.out.mono HB.out.size))
 clear HST
 generalize w0.alloc (.cells (([.int .u64 (s : Int), v] : List Value)).toArray 28) = w1 at *
 generalize w0.heap.size = g1 at *
 refine lp_pure (v := .slice none 0 0) rfl (ex_assign _ rfl rfl) ?_
 try simp only [Act.put, List.setIfInBounds_toArray, List.set_cons_zero, List.set_cons_succ]
 refine lp_pure (v := .slice none 0 0) rfl (ex_assign _ rfl rfl) ?_
 try simp only [Act.put, List.setIfInBounds_toArray, List.set_cons_zero, List.set_cons_succ]
 refine lp_pure (v := .int .i64 0) rfl (ex_assign _ rfl rfl) ?_
 try simp only [Act.put, List.setIfInBounds_toArray, List.set_cons_zero, List.set_cons_succ]
 refine wpList_nil ?_
 obtain ⟨y1, hz1⟩ : ∃ z, z = w1 := ⟨_, rfl⟩
 subst hz1
 go_upto_region 1 with fail
 refine wp_act (fun a0 ha0 => ?_)
 have zsz : a0.tmps.size = 62 := by rw [ha0]; rfl
 have z2 : a0.eval (.tmp 2) = .pointer (some ⟨g1, 0, none⟩) := by rw [ha0]; rfl
 have z1 : a0.eval (.tmp 1) = u := by rw [ha0]; rfl
 refine wrO [] slotsQgb1 waitQgb1 [Fct.val Flz 0 (.agg #[.int .u64 (s : Int), v]), Fct.val Flz 1 (.bool true), Fct.val Flz 2 (.bool false), Fct.val Flz 3 (.bool false), Fct.val Flz 4 (u), Fct.val Flz 5 (.bool false), Fct.val Flz 6 (.bool true), Fct.val Flz 7 (.bool true)] (fun w' => Below y1.heap.size y1 w') _ 8 0 chkQgb1 (by kernel_rfl) (by kernel_rfl) (by kernel_rfl) (by decide) (Below.refl _ _) ?_ ?_
 ·refine lt_s (lt_s (lt_s (lt_s (lt_s (lt_s (lt_s (lt_s (lt_0) ?_) ?_) ?_) ?_) ?_) ?_) ?_) ?_
  ·intro f w1 hS hf aA hA
   have r2 := qO 2 hA z2
   exact fV rfl rfl _ (ex_loadR 28 (.tmp 2) rfl ⟨g1, 0, none⟩ r2 (fun _ => by kernel_rfl) [.int .u64 (s : Int), v] (by kernel_rfl) ((HX1.out.keepB hS).part [.int .u64 (s : Int), v] 0 (fun j u hu => by rw [Nat.zero_add]; exact hu))) hS uS
  ·intro f w1 hS hf aA hA
   have r12 := qA 12 0 hA sbQgb1 zsz (hf 0 (by decide))
   exact fC rfl rfl 25 #[(.tmp 12)] _ rfl #[.agg #[.int .u64 (s : Int), v]] (mp1 r12) (fun w => by kernel_rfl) _ (as_any (goodT_any _ _ _ w1 (HC.out.keep (HB.out.trans (hS.mono HB.out.size)))) (congrArg Value.bool HG.out)) hS (fun _ _ h => uS.trans h)
  ·intro f w1 hS hf aA hA
   have r13 := qA 13 1 hA sbQgb1 zsz (hf 1 (by decide))
   exact fV rfl rfl _ (ex_not _ (.tmp 13) rfl r13) hS uS
  ·intro f w1 hS hf aA hA
   have r14 := qA 14 2 hA sbQgb1 zsz (hf 2 (by decide))
   exact fV rfl rfl _ (ex_move (.tmp 14) rfl r14) hS uS
  ·intro f w1 hS hf aA hA
   have t15 := qG 15 3 hA sbQgb1 zsz (hf 3 (by decide))
   have r1 := qO 1 hA z1
   exact fV rfl ((wanted_of rfl 15 rfl t15).trans rfl) _ (ex_move (.tmp 1) rfl r1) hS uS
  ·intro f w1 hS hf aA hA
   have t15 := qG 15 3 hA sbQgb1 zsz (hf 3 (by decide))
   have r16 := qA 16 4 hA sbQgb1 zsz (hf 4 (by decide))
   exact fC rfl ((wanted_of rfl 15 rfl t15).trans rfl) 34 #[(.tmp 16)] _ rfl #[u] (mp1 r16) (fun w => by kernel_rfl) _ (as_any (us_good (HU.out.keep (HB.out.trans (hS.mono HB.out.size))) (Nat.le_of_lt (Nat.lt_of_le_of_lt HBN.out (by decide)))) (congrArg Value.bool HGU.out)) hS (fun _ _ h => uS.trans h)
  ·intro f w1 hS hf aA hA
   have t15 := qG 15 3 hA sbQgb1 zsz (hf 3 (by decide))
   have r17 := qA 17 5 hA sbQgb1 zsz (hf 5 (by decide))
   exact fV rfl ((wanted_of rfl 15 rfl t15).trans rfl) _ (ex_not _ (.tmp 17) rfl r17) hS uS
  ·intro f w1 hS hf aA hA
   have r15 := qA 15 3 hA sbQgb1 zsz (hf 3 (by decide))
   have r18 := qA 18 6 hA sbQgb1 zsz (hf 6 (by decide))
   exact fV rfl rfl (.bool true) (ex_pick (.tmp 15) _ (.tmp 18) rfl false r15 ((if_neg (by decide)).trans r18)) hS uS
 intro f u1 hS hf hap
 have h0 := eqL (hf 0 (by decide)) rfl
 have h1 := eqL (hf 1 (by decide)) rfl
 have h2 := eqL (hf 2 (by decide)) rfl
 have h3 := eqL (hf 3 (by decide)) rfl
 have h4 : f 4 = u := hf 4 (by decide)
 have h5 := eqL (hf 5 (by decide)) rfl
 have h6 := eqL (hf 6 (by decide)) rfl
 have h7 := eqL (hf 7 (by decide)) rfl
 clear hf hap
 clear zsz z2 z1
 subst ha0
 simp only [slotsQgb1, putAll, h0, h1, h2, h3, h4, h5, h6, h7, Act.put, List.setIfInBounds_toArray, List.set_cons_zero, List.set_cons_succ]
 clear h0 h1 h2 h3 h4 h5 h6 h7
 refine tl_nil ?_
 replace HX1 := Lib.hid (HX1.out.keepB hS)
 replace HB := Lib.hid (HB.out.trans (hS.mono HB.out.size))
 clear hS
 go_wp2_with fail
 (try simp only [Exit.inBlock, Exit.then])
 refine bodyPost_ret (v := .tuple #[.slice none 0 0, .slice none 0 0, .int .i64 1]) ?_ rfl ⟨rfl, HB.out⟩
 exact results_tmp3 rfl _ _ rfl rfl rfl
def waitQgg3 (i : Nat) : List Nat := ([[], [0], [], [2], [3], [], [1, 4, 5], [6], [7], [7], [], [0, 1, 2, 3, 4, 5, 6, 7, 8, 9, 10], [0, 1, 2, 3, 4, 5, 6, 7, 8, 9, 10, 11]] : List (List Nat)).getD i []
def slotsQgg3 : List (Nat × Nat) := [(21, 0), (22, 1), (23, 2), (24, 3), (25, 4), (26, 5), (27, 6), (20, 7), (28, 8), (29, 9), (7, 10), (8, 12)]
theorem sbQgg3 : slotsB slotsQgg3 = true := by kernel_rfl
theorem chkQgg3 : flwO slotsQgg3 waitQgg3 11 (regOf Tryd.f13.body 3) = true := by kernel_rfl
def waitQgg4 (i : Nat) : List Nat := ([[], [], [0, 1], [2], [3], [3], [], [0, 1, 2, 3, 4, 5, 6], [0, 1, 2, 3, 4, 5, 6, 7]] : List (List Nat)).getD i []
def slotsQgg4 : List (Nat × Nat) := [(31, 0), (32, 1), (33, 2), (30, 3), (34, 4), (35, 5), (9, 6), (10, 8)]
theorem sbQgg4 : slotsB slotsQgg4 = true := by kernel_rfl
theorem chkQgg4 : flwO slotsQgg4 waitQgg4 7 (regOf Tryd.f13.body 4) = true := by kernel_rfl
def waitQgf5 (i : Nat) : List Nat := ([[], [0], [1], [2], [2], [], [0, 1, 2, 3, 4, 5], [0, 1, 2, 3, 4, 5, 6]] : List (List Nat)).getD i []
def slotsQgf5 : List (Nat × Nat) := [(37, 0), (38, 1), (36, 2), (39, 3), (40, 4), (11, 5), (6, 7)]
theorem sbQgf5 : slotsB slotsQgf5 = true := by kernel_rfl
theorem chkQgf5 : flwO slotsQgf5 waitQgf5 6 (regOf Tryd.f13.body 5) = true := by kernel_rfl
def waitQgf6 (i : Nat) : List Nat := ([[], [0]] : List (List Nat)).getD i []
def slotsQgf6 : List (Nat × Nat) := [(41, 0), (42, 1)]
theorem sbQgf6 : slotsB slotsQgf6 = true := by kernel_rfl
theorem chkQgf6 : flwO slotsQgf6 waitQgf6 2 (regOf Tryd.f13.body 6) = true := by kernel_rfl
def waitQgt008 (i : Nat) : List Nat := ([[], [0], [], [1, 2], [3], [4], [5], [6], [6], [6], [6], [6], [6], [6, 12]] : List (List Nat)).getD i []
def slotsQgt008 : List (Nat × Nat) := [(44, 0), (45, 1), (46, 2), (47, 3), (48, 4), (49, 5), (50, 6), (51, 7), (52, 8), (53, 9), (54, 10), (55, 11), (56, 12), (57, 13)]
theorem sbQgt008 : slotsB slotsQgt008 = true := by kernel_rfl
theorem chkQgt008 : flwO slotsQgt008 waitQgt008 14 (regOf Tryd.f13.body 8) = true := by kernel_rfl
def waitQgt108 (i : Nat) : List Nat := ([[], [0], [], [1, 2], [3], [4], [5], [6], [6, 7], [6], [6, 8, 9], [6, 10], [6, 11], [6, 12]] : List (List Nat)).getD i []
def slotsQgt108 : List (Nat × Nat) := [(44, 0), (45, 1), (46, 2), (47, 3), (48, 4), (49, 5), (50, 6), (51, 7), (52, 8), (53, 9), (54, 10), (55, 11), (56, 12), (57, 13)]
theorem sbQgt108 : slotsB slotsQgt108 = true := by kernel_rfl
theorem chkQgt108 : flwO slotsQgt108 waitQgt108 14 (regOf Tryd.f13.body 8) = true := by kernel_rfl
def waitQgt1110 (i : Nat) : List Nat := ([[], [0], [], [2], [1], [3], []] : List (List Nat)).getD i []
def slotsQgt1110 : List (Nat × Nat) := [(58, 0), (59, 1), (60, 2), (61, 3), (4, 4), (5, 5), (6, 6)]
theorem sbQgt1110 : slotsB slotsQgt1110 = true := by kernel_rfl
theorem chkQgt1110 : flwB slotsQgt1110 waitQgt1110 7 (regOf Tryd.f13.body 10) = true := by kernel_rfl
set_option maxHeartbeats 32000000 in
set_option maxRecDepth 100000 in
theorem ownP_good (s : Nat) (v : Value) (T : List Ce) (u : Value) (B : List Su) (w : World) (hs : s < 18446744073709551616) (hL : Laid w) (hM : T.length ≤ 1000000) (hn : B.length ≤ 1000) (hC : Cs w v T) (hU : Us w u B) (hg : goodN (T.length : Int) = true) (hb : goodU B = true) :
  Calls Tryd.prog 13 #[.agg #[.int .u64 (s : Int), v], u] w fun e w' => (∃ v, e = .returned v ∧ ∃ x, v = .tuple #[fl x 0, fl x 1, .int .i64 (errO B (ownQ s T B))] ∧ OwnR (plusO B (ownQ s T B)) (minusO B (ownQ s T B)) w' x) ∧ Below w.heap.size w w' := by
 have HL := Lib.hid hL
 have HSZ := Lib.hid hL.size
 have HSD := Lib.hid hs
 have HTM := Lib.hid hM
 have HBN := Lib.hid hn
 have HC := Lib.hid hC
 have HU := Lib.hid hU
 have HG := Lib.hid hg
 have HGU := Lib.hid hb
 have HBA := Lib.hid (goodU_parts hb).2
 have HBT : Hid (B.length ≤ 10000) := Lib.hid (by omega)
 have HTL : Hid (T.length = (tabP s T.length B).length) := Lib.hid (tabP_len _ _ _).symm
 obtain ⟨q, hq⟩ : ∃ q, ownQ s T B = q := ⟨_, rfl⟩
 rw [hq]
 have HOQ := Lib.hid hq
 clear hg hb hq
 clear hL hs hM hC hU
 obtain ⟨w0, hw0⟩ : ∃ w0, w0 = w := ⟨_, rfl⟩
 rw [show (Calls Tryd.prog 13 #[.agg #[.int .u64 (s : Int), v], u] w : (Ending → World → Prop) → Prop) = Calls Tryd.prog 13 #[.agg #[.int .u64 (s : Int), v], u] w0 by rw [hw0]]
 have HB : Hid (Below w.heap.size w w0) := Lib.hid (by rw [hw0]; exact Below.refl _ _)
 clear hw0
 go_enter Tryd.func13, Tryd.ntmps13
 go_upto_region 0 with fail
 refine wp_region_lit ?_
 try simp only [Act.put, List.setIfInBounds_toArray, List.set_cons_zero, List.set_cons_succ]
 refine lp_step rfl (fun K hK => wp_box_row 28 (.tmp 0) rfl (.agg #[.int .u64 (s : Int), v]) rfl (hK _ _ ?_))
 try simp only [Act.put, List.setIfInBounds_toArray, List.set_cons_zero, List.set_cons_succ]
 show wpList _ _ _ _ _ (w0.alloc (.cells (([.int .u64 (s : Int), v] : List Value)).toArray 28))
 have HST : Hid (Below w0.heap.size w0 (w0.alloc (.cells (([.int .u64 (s : Int), v] : List Value)).toArray 28))) := Lib.hid ((Below.refl _ _).alloc (Nat.le_refl _) _)
 have HX1 : Hid (Has (w0.alloc (.cells (([.int .u64 (s : Int), v] : List Value)).toArray 28)) w0.heap.size 28 ([.int .u64 (s : Int), v])) := Lib.hid (Has.made' _ _ _ _ rfl)
 have HGg1 : Hid (w.heap.size ≤ w0.heap.size) := Lib.hid HB.out.size
 replace HB := Lib.hid (HB.out.trans (HST.out.mono HB.out.size))
 clear HST
 generalize w0.alloc (.cells (([.int .u64 (s : Int), v] : List Value)).toArray 28) = w1 at *
 generalize w0.heap.size = g1 at *
 refine lp_pure (v := .slice none 0 0) rfl (ex_assign _ rfl rfl) ?_
 try simp only [Act.put, List.setIfInBounds_toArray, List.set_cons_zero, List.set_cons_succ]
 refine lp_pure (v := .slice none 0 0) rfl (ex_assign _ rfl rfl) ?_
 try simp only [Act.put, List.setIfInBounds_toArray, List.set_cons_zero, List.set_cons_succ]
 refine lp_pure (v := .int .i64 0) rfl (ex_assign _ rfl rfl) ?_
 try simp only [Act.put, List.setIfInBounds_toArray, List.set_cons_zero, List.set_cons_succ]
 refine wpList_nil ?_
 obtain ⟨y1, hz1⟩ : ∃ z, z = w1 := ⟨_, rfl⟩
 subst hz1
 go_upto_region 1 with fail
 refine wp_act (fun a0 ha0 => ?_)
 have zsz : a0.tmps.size = 62 := by rw [ha0]; rfl
 have z2 : a0.eval (.tmp 2) = .pointer (some ⟨g1, 0, none⟩) := by rw [ha0]; rfl
 have z1 : a0.eval (.tmp 1) = u := by rw [ha0]; rfl
 refine wrO [] slotsQgb1 waitQgb1 [Fct.val Flz 0 (.agg #[.int .u64 (s : Int), v]), Fct.val Flz 1 (.bool true), Fct.val Flz 2 (.bool false), Fct.val Flz 3 (.bool false), Fct.val Flz 4 (u), Fct.val Flz 5 (.bool true), Fct.val Flz 6 (.bool false), Fct.val Flz 7 (.bool false)] (fun w' => Below y1.heap.size y1 w') _ 8 0 chkQgb1 (by kernel_rfl) (by kernel_rfl) (by kernel_rfl) (by decide) (Below.refl _ _) ?_ ?_
 ·refine lt_s (lt_s (lt_s (lt_s (lt_s (lt_s (lt_s (lt_s (lt_0) ?_) ?_) ?_) ?_) ?_) ?_) ?_) ?_
  ·intro f w1 hS hf aA hA
   have r2 := qO 2 hA z2
   exact fV rfl rfl _ (ex_loadR 28 (.tmp 2) rfl ⟨g1, 0, none⟩ r2 (fun _ => by kernel_rfl) [.int .u64 (s : Int), v] (by kernel_rfl) ((HX1.out.keepB hS).part [.int .u64 (s : Int), v] 0 (fun j u hu => by rw [Nat.zero_add]; exact hu))) hS uS
  ·intro f w1 hS hf aA hA
   have r12 := qA 12 0 hA sbQgb1 zsz (hf 0 (by decide))
   exact fC rfl rfl 25 #[(.tmp 12)] _ rfl #[.agg #[.int .u64 (s : Int), v]] (mp1 r12) (fun w => by kernel_rfl) _ (as_any (goodT_any _ _ _ w1 (HC.out.keep (HB.out.trans (hS.mono HB.out.size)))) (congrArg Value.bool HG.out)) hS (fun _ _ h => uS.trans h)
  ·intro f w1 hS hf aA hA
   have r13 := qA 13 1 hA sbQgb1 zsz (hf 1 (by decide))
   exact fV rfl rfl _ (ex_not _ (.tmp 13) rfl r13) hS uS
  ·intro f w1 hS hf aA hA
   have r14 := qA 14 2 hA sbQgb1 zsz (hf 2 (by decide))
   exact fV rfl rfl _ (ex_move (.tmp 14) rfl r14) hS uS
  ·intro f w1 hS hf aA hA
   have t15 := qG 15 3 hA sbQgb1 zsz (hf 3 (by decide))
   have r1 := qO 1 hA z1
   exact fV rfl ((wanted_of rfl 15 rfl t15).trans rfl) _ (ex_move (.tmp 1) rfl r1) hS uS
  ·intro f w1 hS hf aA hA
   have t15 := qG 15 3 hA sbQgb1 zsz (hf 3 (by decide))
   have r16 := qA 16 4 hA sbQgb1 zsz (hf 4 (by decide))
   exact fC rfl ((wanted_of rfl 15 rfl t15).trans rfl) 34 #[(.tmp 16)] _ rfl #[u] (mp1 r16) (fun w => by kernel_rfl) _ (as_any (us_good (HU.out.keep (HB.out.trans (hS.mono HB.out.size))) (Nat.le_of_lt (Nat.lt_of_le_of_lt HBN.out (by decide)))) (congrArg Value.bool HGU.out)) hS (fun _ _ h => uS.trans h)
  ·intro f w1 hS hf aA hA
   have t15 := qG 15 3 hA sbQgb1 zsz (hf 3 (by decide))
   have r17 := qA 17 5 hA sbQgb1 zsz (hf 5 (by decide))
   exact fV rfl ((wanted_of rfl 15 rfl t15).trans rfl) _ (ex_not _ (.tmp 17) rfl r17) hS uS
  ·intro f w1 hS hf aA hA
   have r15 := qA 15 3 hA sbQgb1 zsz (hf 3 (by decide))
   have r18 := qA 18 6 hA sbQgb1 zsz (hf 6 (by decide))
   exact fV rfl rfl (.bool false) (ex_pick (.tmp 15) _ (.tmp 18) rfl false r15 ((if_neg (by decide)).trans r18)) hS uS
 intro f u1 hS hf hap
 have h0 := eqL (hf 0 (by decide)) rfl
 have h1 := eqL (hf 1 (by decide)) rfl
 have h2 := eqL (hf 2 (by decide)) rfl
 have h3 := eqL (hf 3 (by decide)) rfl
 have h4 : f 4 = u := hf 4 (by decide)
 have h5 := eqL (hf 5 (by decide)) rfl
 have h6 := eqL (hf 6 (by decide)) rfl
 have h7 := eqL (hf 7 (by decide)) rfl
 clear hf hap
 clear zsz z2 z1
 subst ha0
 simp only [slotsQgb1, putAll, h0, h1, h2, h3, h4, h5, h6, h7, Act.put, List.setIfInBounds_toArray, List.set_cons_zero, List.set_cons_succ]
 clear h0 h1 h2 h3 h4 h5 h6 h7
 refine tl_nil ?_
 replace HX1 := Lib.hid (HX1.out.keepB hS)
 replace HB := Lib.hid (HB.out.trans (hS.mono HB.out.size))
 clear hS
 go_upto_region 3 with fail
 refine wp_act (fun a0 ha0 => ?_)
 have zsz : a0.tmps.size = 62 := by rw [ha0]; rfl
 have z2 : a0.eval (.tmp 2) = .pointer (some ⟨g1, 0, none⟩) := by rw [ha0]; rfl
 have z1 : a0.eval (.tmp 1) = u := by rw [ha0]; rfl
 refine wrO [] slotsQgg3 waitQgg3 [Fct.val Flz 0 (.pointer (some ⟨g1, 0, none⟩)), Fct.val Flz 1 (.int .u64 (s : Int)), Fct.val Flz 2 (.pointer (some ⟨g1, 1, none⟩)), Fct.val Flz 3 (v), Fct.val Flz 4 (.int .i64 (((T).length : Int))), Fct.val Flz 5 (u), Fct.obj 6 (fun v w => ∃ zz, v = .tuple #[.agg #[.int .u64 (s : Int), zz], .int .i64 0] ∧ Cs w zz (tabP s T.length B)) (fun _ _ _ ⟨zz, a, b⟩ he => ⟨zz, a, b.flz he⟩), Fct.obj 7 (fun v w => ∃ zz, v = .tuple #[.agg #[.int .u64 (s : Int), zz], .int .i64 0] ∧ Cs w zz (tabP s T.length B)) (fun _ _ _ ⟨zz, a, b⟩ he => ⟨zz, a, b.flz he⟩), Fct.obj 8 (fun v w => ∃ zz, v = .agg #[.int .u64 (s : Int), zz] ∧ Cs w zz (tabP s T.length B)) (fun _ _ _ ⟨zz, a, b⟩ he => ⟨zz, a, b.flz he⟩), Fct.val Flz 9 (.int .i64 0), Fct.obj 10 (fun v w => ∃ g, v = .pointer (some ⟨g, 0, none⟩) ∧ u1.heap.size ≤ g ∧ Has w g 28 ([.int .u64 0, .slice none 0 0])) (fun _ _ _ ⟨g, a, b, c⟩ he => ⟨g, a, b, c.flz he (by decide)⟩)] (fun w' => Below u1.heap.size u1 w') _ 11 2 chkQgg3 (by kernel_rfl) (by kernel_rfl) (by kernel_rfl) (by decide) (Below.refl _ _) ?_ ?_
 ·refine lt_s (lt_s (lt_s (lt_s (lt_s (lt_s (lt_s (lt_s (lt_s (lt_s (lt_s (lt_0) ?_) ?_) ?_) ?_) ?_) ?_) ?_) ?_) ?_) ?_) ?_
  ·intro f w1 hS hf aA hA
   have r2 := qO 2 hA z2
   exact fV rfl rfl _ (fldT0 28 (Or.inl rfl) (.tmp 2) rfl g1 r2) hS uS
  ·intro f w1 hS hf aA hA
   have r21 := qA 21 0 hA sbQgg3 zsz (hf 0 (by decide))
   exact fV rfl rfl _ (ex_load1 25 (.tmp 21) rfl ⟨g1, 0, none⟩ r21 (fun _ => by kernel_rfl) ((HX1.out.keepB hS).cellv rfl)) hS uS
  ·intro f w1 hS hf aA hA
   have r2 := qO 2 hA z2
   exact fV rfl rfl _ (fldT1 28 (Or.inl rfl) (.tmp 2) rfl g1 r2) hS uS
  ·intro f w1 hS hf aA hA
   have r23 := qA 23 2 hA sbQgg3 zsz (hf 2 (by decide))
   exact fV rfl rfl _ (ex_load1 26 (.tmp 23) rfl ⟨g1, 1, none⟩ r23 (fun _ => by kernel_rfl) ((HX1.out.keepB hS).cellv rfl)) hS uS
  ·intro f w1 hS hf aA hA
   have r24 := qA 24 3 hA sbQgg3 zsz (hf 3 (by decide))
   obtain ⟨q9, c9, hv9, _⟩ := (HC.out.keep (HB.out.trans (hS.mono HB.out.size)))
   exact fV rfl rfl _ (ex_len 26 47 (.tmp 24) rfl (by kernel_rfl) q9 (T).length c9 (r24.trans hv9)) hS uS
  ·intro f w1 hS hf aA hA
   have r1 := qO 1 hA z1
   exact fV rfl rfl _ (ex_move (.tmp 1) rfl r1) hS uS
  ·intro f w1 hS hf aA hA
   have r22 := qA 22 1 hA sbQgg3 zsz (hf 1 (by decide))
   have r25 := qA 25 4 hA sbQgg3 zsz (hf 4 (by decide))
   have r26 := qA 26 5 hA sbQgg3 zsz (hf 5 (by decide))
   exact fC rfl rfl 11 #[(.tmp 22), (.tmp 25), (.tmp 26)] _ rfl #[.int .u64 (s : Int), .int .i64 (((T).length : Int)), u] (mp3 r22 r25 r26) (fun w => by kernel_rfl) _ (ofA_t s (((T).length : Int)) T.length _ B HG.out rfl HBA.out w1 HSD.out (HL.out.keep (HB.out.trans (hS.mono HB.out.size)) HSZ.out) HBT.out (HU.out.keep (HB.out.trans (hS.mono HB.out.size)))) hS (fun _ _ ⟨zz, a, b⟩ => ⟨zz, uS.trans a, b⟩)
  ·intro f w1 hS hf aA hA
   obtain ⟨x27, hx27, hr27⟩ := hf 6 (by decide)
   have e27 := pA 27 6 hA sbQgg3 (by kernel_rfl) zsz rfl hx27
   exact flw_val rfl rfl (.tuple #[.agg #[.int .u64 (s : Int), x27], .int .i64 0]) (ex_move (.tmp 27) rfl e27) hS (Flz.refl _) ⟨x27, uS, hr27⟩
  ·intro f w1 hS hf aA hA
   obtain ⟨x20, hx20, hr20⟩ := hf 7 (by decide)
   have e20 := pA 20 7 hA sbQgg3 (by kernel_rfl) zsz rfl hx20
   exact flw_val rfl rfl (.agg #[.int .u64 (s : Int), x20]) (ex_extract (.tmp 20) 0 rfl e20 rfl) hS (Flz.refl _) ⟨x20, uS, hr20⟩
  ·intro f w1 hS hf aA hA
   obtain ⟨x20, hx20, hr20⟩ := hf 7 (by decide)
   have e20 := pA 20 7 hA sbQgg3 (by kernel_rfl) zsz rfl hx20
   exact fV rfl rfl _ (ex_extract (.tmp 20) 1 rfl e20 rfl) hS uS
  ·intro f w1 hS hf aA hA
   exact flw_wp rfl rfl (fun K hK => wp_alloc_row 28 rfl (.agg #[.int .u64 0, .slice none 0 0]) (fun w => by kernel_rfl) (hK _ _ (hS.alloc hS.size _) (Flz.al _ _) ⟨_, uS, hS.size, Has.made' _ _ _ _ rfl⟩))
 intro f u2 hS hf hap
 have h0 := eqL (hf 0 (by decide)) rfl
 have h1 := eqL (hf 1 (by decide)) rfl
 have h2 := eqL (hf 2 (by decide)) rfl
 have h3 : f 3 = v := hf 3 (by decide)
 have h4 := eqL (hf 4 (by decide)) rfl
 have h5 : f 5 = u := hf 5 (by decide)
 obtain ⟨v3_6, h6, -⟩ := hf 6 (by decide)
 obtain ⟨v3_7, h7, -⟩ := hf 7 (by decide)
 obtain ⟨v3_8, h8, hu8⟩ := hf 8 (by decide)
 have HU3_8 := Lib.hid hu8
 clear hu8
 have h9 := eqL (hf 9 (by decide)) rfl
 obtain ⟨b3_10, h10, hgb10, hhb10⟩ := hf 10 (by decide)
 clear hf hap
 clear zsz z2 z1
 subst ha0
 simp only [slotsQgg3, putAll, h0, h1, h2, h3, h4, h5, h6, h7, h8, h9, h10, Act.put, List.setIfInBounds_toArray, List.set_cons_zero, List.set_cons_succ]
 clear h0 h1 h2 h3 h4 h5 h6 h7 h8 h9 h10
 refine tl_store rfl (by kernel_rfl) 28 (.tmp 7) (.tmp 28) rfl b3_10 ([.int .u64 (s : Int), v3_8]) _ rfl rfl _ hhb10 (by kernel_rfl) rfl (tb_ones _ HU3_8.out.one) ?_
 intro u3 hp10 hbl hot
 replace hS := hS.trans (hbl _ hgb10)
 replace HU3_8 := Lib.hid (HU3_8.out.hotb hhb10 ⟨_, _, _, rfl⟩ (by decide) (hbl 0 (Nat.zero_le _)).size hot)
 clear hbl hot hhb10
 try simp only [Act.put]
 refine tl_pure rfl (by kernel_rfl) (.int .i64 0) (ex_assign (.tmp 29) rfl rfl) ?_
 try simp only [Act.put, List.setIfInBounds_toArray, List.set_cons_zero, List.set_cons_succ]
 refine tl_nil ?_
 replace HX1 := Lib.hid (HX1.out.keepB hS)
 have HBW := Lib.hid HB.out.size
 replace HB := Lib.hid (HB.out.trans (hS.mono HB.out.size))
 clear hS
 have HGb3_10 : Hid (w.heap.size ≤ b3_10) := Lib.hid (Nat.le_trans HBW.out hgb10)
 have HX_b3_10 : Hid (Has u3 b3_10 28 ([.int .u64 (s : Int), v3_8])) := Lib.hid hp10
 clear hp10 hgb10
 clear HBW
 go_upto_region 4 with fail
 refine wp_act (fun a0 ha0 => ?_)
 have zsz : a0.tmps.size = 62 := by rw [ha0]; rfl
 have z2 : a0.eval (.tmp 2) = .pointer (some ⟨g1, 0, none⟩) := by rw [ha0]; rfl
 have z7 : a0.eval (.tmp 7) = .pointer (some ⟨b3_10, 0, none⟩) := by rw [ha0]; rfl
 refine wrO [] slotsQgg4 waitQgg4 [Fct.val Flz 0 (.agg #[.int .u64 (s : Int), v]), Fct.val Flz 1 (.agg #[.int .u64 (s : Int), v3_8]), Fct.obj 2 (fun v w => ∃ zz, v = .tuple #[.agg #[.int .u64 (s : Int), zz], .int .i64 0] ∧ Cs w zz (List.zipWith minusC (T) (tabP s T.length B))) (fun _ _ _ ⟨zz, a, b⟩ he => ⟨zz, a, b.flz he⟩), Fct.obj 3 (fun v w => ∃ zz, v = .tuple #[.agg #[.int .u64 (s : Int), zz], .int .i64 0] ∧ Cs w zz (List.zipWith minusC (T) (tabP s T.length B))) (fun _ _ _ ⟨zz, a, b⟩ he => ⟨zz, a, b.flz he⟩), Fct.obj 4 (fun v w => ∃ zz, v = .agg #[.int .u64 (s : Int), zz] ∧ Cs w zz (List.zipWith minusC (T) (tabP s T.length B))) (fun _ _ _ ⟨zz, a, b⟩ he => ⟨zz, a, b.flz he⟩), Fct.val Flz 5 (.int .i64 0), Fct.obj 6 (fun v w => ∃ g, v = .pointer (some ⟨g, 0, none⟩) ∧ u3.heap.size ≤ g ∧ Has w g 28 ([.int .u64 0, .slice none 0 0])) (fun _ _ _ ⟨g, a, b, c⟩ he => ⟨g, a, b, c.flz he (by decide)⟩)] (fun w' => Below u3.heap.size u3 w') _ 7 2 chkQgg4 (by kernel_rfl) (by kernel_rfl) (by kernel_rfl) (by decide) (Below.refl _ _) ?_ ?_
 ·refine lt_s (lt_s (lt_s (lt_s (lt_s (lt_s (lt_s (lt_0) ?_) ?_) ?_) ?_) ?_) ?_) ?_
  ·intro f w1 hS hf aA hA
   have r2 := qO 2 hA z2
   exact fV rfl rfl _ (ex_loadR 28 (.tmp 2) rfl ⟨g1, 0, none⟩ r2 (fun _ => by kernel_rfl) [.int .u64 (s : Int), v] (by kernel_rfl) ((HX1.out.keepB hS).part [.int .u64 (s : Int), v] 0 (fun j u hu => by rw [Nat.zero_add]; exact hu))) hS uS
  ·intro f w1 hS hf aA hA
   have r7 := qO 7 hA z7
   exact fV rfl rfl _ (ex_loadR 28 (.tmp 7) rfl ⟨b3_10, 0, none⟩ r7 (fun _ => by kernel_rfl) [.int .u64 (s : Int), v3_8] (by kernel_rfl) ((HX_b3_10.out.keepB hS).part [.int .u64 (s : Int), v3_8] 0 (fun j u hu => by rw [Nat.zero_add]; exact hu))) hS uS
  ·intro f w1 hS hf aA hA
   have r31 := qA 31 0 hA sbQgg4 zsz (hf 0 (by decide))
   have r32 := qA 32 1 hA sbQgg4 zsz (hf 1 (by decide))
   exact fC rfl rfl 22 #[(.tmp 31), (.tmp 32)] _ rfl #[.agg #[.int .u64 (s : Int), v], .agg #[.int .u64 (s : Int), v3_8]] (mp2 r31 r32) (fun w => by kernel_rfl) _ (minusS_t s _ _ _ _ HG.out HTL.out w1 HTM.out (HC.out.keep (HB.out.trans (hS.mono HB.out.size))) (HU3_8.out.keep hS)) hS (fun _ _ ⟨zz, a, b⟩ => ⟨zz, uS.trans a, b⟩)
  ·intro f w1 hS hf aA hA
   obtain ⟨x33, hx33, hr33⟩ := hf 2 (by decide)
   have e33 := pA 33 2 hA sbQgg4 (by kernel_rfl) zsz rfl hx33
   exact flw_val rfl rfl (.tuple #[.agg #[.int .u64 (s : Int), x33], .int .i64 0]) (ex_move (.tmp 33) rfl e33) hS (Flz.refl _) ⟨x33, uS, hr33⟩
  ·intro f w1 hS hf aA hA
   obtain ⟨x30, hx30, hr30⟩ := hf 3 (by decide)
   have e30 := pA 30 3 hA sbQgg4 (by kernel_rfl) zsz rfl hx30
   exact flw_val rfl rfl (.agg #[.int .u64 (s : Int), x30]) (ex_extract (.tmp 30) 0 rfl e30 rfl) hS (Flz.refl _) ⟨x30, uS, hr30⟩
  ·intro f w1 hS hf aA hA
   obtain ⟨x30, hx30, hr30⟩ := hf 3 (by decide)
   have e30 := pA 30 3 hA sbQgg4 (by kernel_rfl) zsz rfl hx30
   exact fV rfl rfl _ (ex_extract (.tmp 30) 1 rfl e30 rfl) hS uS
  ·intro f w1 hS hf aA hA
   exact flw_wp rfl rfl (fun K hK => wp_alloc_row 28 rfl (.agg #[.int .u64 0, .slice none 0 0]) (fun w => by kernel_rfl) (hK _ _ (hS.alloc hS.size _) (Flz.al _ _) ⟨_, uS, hS.size, Has.made' _ _ _ _ rfl⟩))
 intro f u4 hS hf hap
 have h0 := eqL (hf 0 (by decide)) rfl
 have h1 := eqL (hf 1 (by decide)) rfl
 obtain ⟨v4_2, h2, -⟩ := hf 2 (by decide)
 obtain ⟨v4_3, h3, -⟩ := hf 3 (by decide)
 obtain ⟨v4_4, h4, hu4⟩ := hf 4 (by decide)
 have HU4_4 := Lib.hid hu4
 clear hu4
 have h5 := eqL (hf 5 (by decide)) rfl
 obtain ⟨b4_6, h6, hgb6, hhb6⟩ := hf 6 (by decide)
 clear hf hap
 clear zsz z2 z7
 subst ha0
 simp only [slotsQgg4, putAll, h0, h1, h2, h3, h4, h5, h6, Act.put, List.setIfInBounds_toArray, List.set_cons_zero, List.set_cons_succ]
 clear h0 h1 h2 h3 h4 h5 h6
 refine tl_store rfl (by kernel_rfl) 28 (.tmp 9) (.tmp 34) rfl b4_6 ([.int .u64 (s : Int), v4_4]) _ rfl rfl _ hhb6 (by kernel_rfl) rfl (tb_ones _ HU4_4.out.one) ?_
 intro u5 hp6 hbl hot
 replace hS := hS.trans (hbl _ hgb6)
 replace HU4_4 := Lib.hid (HU4_4.out.hotb hhb6 ⟨_, _, _, rfl⟩ (by decide) (hbl 0 (Nat.zero_le _)).size hot)
 clear hbl hot hhb6
 try simp only [Act.put]
 refine tl_pure rfl (by kernel_rfl) (.int .i64 0) (ex_assign (.tmp 35) rfl rfl) ?_
 try simp only [Act.put, List.setIfInBounds_toArray, List.set_cons_zero, List.set_cons_succ]
 refine tl_nil ?_
 replace HX1 := Lib.hid (HX1.out.keepB hS)
 replace HX_b3_10 := Lib.hid (HX_b3_10.out.keepB hS)
 replace HU3_8 := Lib.hid (HU3_8.out.keep hS)
 have HBW := Lib.hid HB.out.size
 replace HB := Lib.hid (HB.out.trans (hS.mono HB.out.size))
 clear hS
 have HGb4_6 : Hid (w.heap.size ≤ b4_6) := Lib.hid (Nat.le_trans HBW.out hgb6)
 have HX_b4_6 : Hid (Has u5 b4_6 28 ([.int .u64 (s : Int), v4_4])) := Lib.hid hp6
 clear hp6 hgb6
 clear HBW
 have HQQ : Hid (peelP s (List.zipWith minusC (T) (tabP s T.length B)) = q) := Lib.hid HOQ.out
 have HP1 : Hid (q.2.1.length ≤ 1025) := Lib.hid (by rw [← HOQ.out]; exact plus_le)
 have HP2 : Hid (q.2.2.length ≤ 1025) := Lib.hid (by rw [← HOQ.out]; exact minus_le)
 have HDL : Hid ((List.zipWith minusC (T) (tabP s T.length B)).length = T.length) := Lib.hid (by rw [List.length_zipWith, tabP_len]; omega)
 have HDM : Hid ((List.zipWith minusC (T) (tabP s T.length B)).length ≤ 1000000) := Lib.hid (by rw [HDL.out]; exact HTM.out)
 have HDG : Hid (goodN ((List.zipWith minusC (T) (tabP s T.length B)).length : Int) = true) := Lib.hid (by rw [HDL.out]; exact HG.out)
 obtain ⟨ok, hok⟩ : ∃ ok, okP q = ok := ⟨_, rfl⟩
 have HOK := Lib.hid hok
 clear hok
 cases ok
 ·go_upto_region 5 with fail
  refine wp_act (fun a0 ha0 => ?_)
  have zsz : a0.tmps.size = 62 := by rw [ha0]; rfl
  have z9 : a0.eval (.tmp 9) = .pointer (some ⟨b4_6, 0, none⟩) := by rw [ha0]; rfl
  refine wrO [] slotsQgf5 waitQgf5 [Fct.val Flz 0 (.agg #[.int .u64 (s : Int), v4_4]), Fct.obj 1 (fun v w => ∃ zz, v = .tuple #[.agg #[(fl zz 0), (fl zz 1), .int .u64 (s : Int), (fl zz 2)], .int .i64 10] ∧ ResR (([] : List Su)) (([] : List Su)) q.1 w zz) (fun _ _ _ ⟨zz, a, b⟩ he => ⟨zz, a, b.flz he⟩), Fct.obj 2 (fun v w => ∃ zz, v = .tuple #[.agg #[(fl zz 0), (fl zz 1), .int .u64 (s : Int), (fl zz 2)], .int .i64 10] ∧ ResR (([] : List Su)) (([] : List Su)) q.1 w zz) (fun _ _ _ ⟨zz, a, b⟩ he => ⟨zz, a, b.flz he⟩), Fct.obj 3 (fun v w => ∃ zz, v = .agg #[(fl zz 0), (fl zz 1), .int .u64 (s : Int), (fl zz 2)] ∧ ResR (([] : List Su)) (([] : List Su)) q.1 w zz) (fun _ _ _ ⟨zz, a, b⟩ he => ⟨zz, a, b.flz he⟩), Fct.val Flz 4 (.int .i64 10), Fct.obj 5 (fun v w => ∃ g, v = .pointer (some ⟨g, 0, none⟩) ∧ u5.heap.size ≤ g ∧ Has w g 30 ([.slice none 0 0, .slice none 0 0, .int .u64 0, .slice none 0 0])) (fun _ _ _ ⟨g, a, b, c⟩ he => ⟨g, a, b, c.flz he (by decide)⟩)] (fun w' => Below u5.heap.size u5 w') _ 6 2 chkQgf5 (by kernel_rfl) (by kernel_rfl) (by kernel_rfl) (by decide) (Below.refl _ _) ?_ ?_
  ·refine lt_s (lt_s (lt_s (lt_s (lt_s (lt_s (lt_0) ?_) ?_) ?_) ?_) ?_) ?_
   ·intro f w1 hS hf aA hA
    have r9 := qO 9 hA z9
    exact fV rfl rfl _ (ex_loadR 28 (.tmp 9) rfl ⟨b4_6, 0, none⟩ r9 (fun _ => by kernel_rfl) [.int .u64 (s : Int), v4_4] (by kernel_rfl) ((HX_b4_6.out.keepB hS).part [.int .u64 (s : Int), v4_4] 0 (fun j u hu => by rw [Nat.zero_add]; exact hu))) hS uS
   ·intro f w1 hS hf aA hA
    have r37 := qA 37 0 hA sbQgf5 zsz (hf 0 (by decide))
    exact fC rfl rfl 9 #[(.tmp 37)] _ rfl #[.agg #[.int .u64 (s : Int), v4_4]] (mp1 r37) (fun w => by kernel_rfl) _ (allQ false 10 (([] : List Su)) (([] : List Su)) s _ (List.zipWith minusC (T) (tabP s T.length B)) q HQQ.out HOK.out rfl rfl rfl w1 HSD.out (HL.out.keep (HB.out.trans (hS.mono HB.out.size)) HSZ.out) HDM.out HDG.out (HU4_4.out.keep hS)) hS (fun _ _ ⟨zz, a, b⟩ => ⟨zz, uS.trans a, b⟩)
   ·intro f w1 hS hf aA hA
    obtain ⟨x38, hx38, hr38⟩ := hf 1 (by decide)
    have e38 := pA 38 1 hA sbQgf5 (by kernel_rfl) zsz rfl hx38
    exact flw_val rfl rfl (.tuple #[.agg #[(fl x38 0), (fl x38 1), .int .u64 (s : Int), (fl x38 2)], .int .i64 10]) (ex_move (.tmp 38) rfl e38) hS (Flz.refl _) ⟨x38, uS, hr38⟩
   ·intro f w1 hS hf aA hA
    obtain ⟨x36, hx36, hr36⟩ := hf 2 (by decide)
    have e36 := pA 36 2 hA sbQgf5 (by kernel_rfl) zsz rfl hx36
    exact flw_val rfl rfl (.agg #[(fl x36 0), (fl x36 1), .int .u64 (s : Int), (fl x36 2)]) (ex_extract (.tmp 36) 0 rfl e36 rfl) hS (Flz.refl _) ⟨x36, uS, hr36⟩
   ·intro f w1 hS hf aA hA
    obtain ⟨x36, hx36, hr36⟩ := hf 2 (by decide)
    have e36 := pA 36 2 hA sbQgf5 (by kernel_rfl) zsz rfl hx36
    exact fV rfl rfl _ (ex_extract (.tmp 36) 1 rfl e36 rfl) hS uS
   ·intro f w1 hS hf aA hA
    exact flw_wp rfl rfl (fun K hK => wp_alloc_row 30 rfl (.agg #[.slice none 0 0, .slice none 0 0, .int .u64 0, .slice none 0 0]) (fun w => by kernel_rfl) (hK _ _ (hS.alloc hS.size _) (Flz.al _ _) ⟨_, uS, hS.size, Has.made' _ _ _ _ rfl⟩))
  intro f u6 hS hf hap
  have h0 := eqL (hf 0 (by decide)) rfl
  obtain ⟨v5_1, h1, -⟩ := hf 1 (by decide)
  obtain ⟨v5_2, h2, -⟩ := hf 2 (by decide)
  obtain ⟨v5_3, h3, hu3⟩ := hf 3 (by decide)
  have HU5_3 := Lib.hid hu3
  clear hu3
  have h4 := eqL (hf 4 (by decide)) rfl
  obtain ⟨b5_5, h5, hgb5, hhb5⟩ := hf 5 (by decide)
  clear hf hap
  clear zsz z9
  subst ha0
  simp only [slotsQgf5, putAll, h0, h1, h2, h3, h4, h5, Act.put, List.setIfInBounds_toArray, List.set_cons_zero, List.set_cons_succ]
  clear h0 h1 h2 h3 h4 h5
  refine tl_store rfl (by kernel_rfl) 30 (.tmp 11) (.tmp 39) rfl b5_5 ([(fl v5_3 0), (fl v5_3 1), .int .u64 ((s : Int)), (fl v5_3 2)]) _ rfl rfl _ hhb5 (by kernel_rfl) rfl (rs_ones HU5_3.out.p.oneC HU5_3.out.m.oneC _ HU5_3.out.l.oneC) ?_
  intro u7 hp5 hbl hot
  replace hS := hS.trans (hbl _ hgb5)
  replace HU5_3 := Lib.hid (HU5_3.out.hotr hhb5 hot)
  clear hbl hot hhb5
  try simp only [Act.put]
  refine tl_pure rfl (by kernel_rfl) (.int .i64 10) (ex_assign (.tmp 40) rfl rfl) ?_
  try simp only [Act.put, List.setIfInBounds_toArray, List.set_cons_zero, List.set_cons_succ]
  refine tl_nil ?_
  replace HX1 := Lib.hid (HX1.out.keepB hS)
  replace HX_b3_10 := Lib.hid (HX_b3_10.out.keepB hS)
  replace HU3_8 := Lib.hid (HU3_8.out.keep hS)
  replace HX_b4_6 := Lib.hid (HX_b4_6.out.keepB hS)
  replace HU4_4 := Lib.hid (HU4_4.out.keep hS)
  have HBW := Lib.hid HB.out.size
  replace HB := Lib.hid (HB.out.trans (hS.mono HB.out.size))
  clear hS
  have HGb5_5 : Hid (w.heap.size ≤ b5_5) := Lib.hid (Nat.le_trans HBW.out hgb5)
  have HX_b5_5 : Hid (Has u7 b5_5 30 ([(fl v5_3 0), (fl v5_3 1), .int .u64 ((s : Int)), (fl v5_3 2)])) := Lib.hid hp5
  clear hp5 hgb5
  clear HBW
  go_upto_region 6 with fail
  refine wp_act (fun a0 ha0 => ?_)
  have zsz : a0.tmps.size = 62 := by rw [ha0]; rfl
  have z6 : a0.eval (.tmp 6) = .int .i64 10 := by rw [ha0]; rfl
  refine wrO [] slotsQgf6 waitQgf6 [Fct.val Flz 0 (.int .i64 10), Fct.val Flz 1 (.bool true)] (fun w' => Below u7.heap.size u7 w') _ 2 0 chkQgf6 (by kernel_rfl) (by kernel_rfl) (by kernel_rfl) (by decide) (Below.refl _ _) ?_ ?_
  ·refine lt_s (lt_s (lt_0) ?_) ?_
   ·intro f w1 hS hf aA hA
    have r6 := qO 6 hA z6
    exact fV rfl rfl _ (ex_move (.tmp 6) rfl r6) hS uS
   ·intro f w1 hS hf aA hA
    have r41 := qA 41 0 hA sbQgf6 zsz (hf 0 (by decide))
    exact fV rfl rfl _ (Eq.trans (ex_int .neq _ _ (.tmp 41) _ rfl .i64 10 0 r41 rfl (.bool ((10 : Int) != (0 : Int))) (fun _ => rfl)) (by rw [(by decide : ((10 : Int) != (0 : Int)) = true)])) hS uS
  intro f u8 hS hf hap
  have h0 := eqL (hf 0 (by decide)) rfl
  have h1 := eqL (hf 1 (by decide)) rfl
  clear hf hap
  clear zsz z6
  subst ha0
  simp only [slotsQgf6, putAll, h0, h1, Act.put, List.setIfInBounds_toArray, List.set_cons_zero, List.set_cons_succ]
  clear h0 h1
  refine tl_nil ?_
  replace HX1 := Lib.hid (HX1.out.keepB hS)
  replace HX_b3_10 := Lib.hid (HX_b3_10.out.keepB hS)
  replace HU3_8 := Lib.hid (HU3_8.out.keep hS)
  replace HX_b4_6 := Lib.hid (HX_b4_6.out.keepB hS)
  replace HU4_4 := Lib.hid (HU4_4.out.keep hS)
  replace HX_b5_5 := Lib.hid (HX_b5_5.out.keepB hS)
  replace HU5_3 := Lib.hid (HU5_3.out.keep hS)
  replace HB := Lib.hid (HB.out.trans (hS.mono HB.out.size))
  clear hS
  have HOB : Hid (ownB B q = false) := Lib.hid (by unfold ownB; rw [HOK.out]; rfl)
  go_wp2_with fail
  (try simp only [Exit.inBlock, Exit.then])
  refine bodyPost_ret (v := .tuple #[.slice none 0 0, .slice none 0 0, .int .i64 10]) ?_ rfl ⟨⟨_, rfl, .tuple #[.slice none 0 0, .slice none 0 0], by rw [(resO_f HOB.out).1]; rfl, by rw [(resO_f HOB.out).2.1, (resO_f HOB.out).2.2]; exact ⟨Us.nil _, Us.nil _⟩⟩, HB.out⟩
  exact results_tmp3 rfl _ _ rfl rfl rfl
 ·go_upto_region 5 with fail
  refine wp_act (fun a0 ha0 => ?_)
  have zsz : a0.tmps.size = 62 := by rw [ha0]; rfl
  have z9 : a0.eval (.tmp 9) = .pointer (some ⟨b4_6, 0, none⟩) := by rw [ha0]; rfl
  refine wrO [] slotsQgf5 waitQgf5 [Fct.val Flz 0 (.agg #[.int .u64 (s : Int), v4_4]), Fct.obj 1 (fun v w => ∃ zz, v = .tuple #[.agg #[(fl zz 0), (fl zz 1), .int .u64 (s : Int), (fl zz 2)], .int .i64 0] ∧ ResR (srt q.2.1) (srt q.2.2) q.1 w zz) (fun _ _ _ ⟨zz, a, b⟩ he => ⟨zz, a, b.flz he⟩), Fct.obj 2 (fun v w => ∃ zz, v = .tuple #[.agg #[(fl zz 0), (fl zz 1), .int .u64 (s : Int), (fl zz 2)], .int .i64 0] ∧ ResR (srt q.2.1) (srt q.2.2) q.1 w zz) (fun _ _ _ ⟨zz, a, b⟩ he => ⟨zz, a, b.flz he⟩), Fct.obj 3 (fun v w => ∃ zz, v = .agg #[(fl zz 0), (fl zz 1), .int .u64 (s : Int), (fl zz 2)] ∧ ResR (srt q.2.1) (srt q.2.2) q.1 w zz) (fun _ _ _ ⟨zz, a, b⟩ he => ⟨zz, a, b.flz he⟩), Fct.val Flz 4 (.int .i64 0), Fct.obj 5 (fun v w => ∃ g, v = .pointer (some ⟨g, 0, none⟩) ∧ u5.heap.size ≤ g ∧ Has w g 30 ([.slice none 0 0, .slice none 0 0, .int .u64 0, .slice none 0 0])) (fun _ _ _ ⟨g, a, b, c⟩ he => ⟨g, a, b, c.flz he (by decide)⟩)] (fun w' => Below u5.heap.size u5 w') _ 6 2 chkQgf5 (by kernel_rfl) (by kernel_rfl) (by kernel_rfl) (by decide) (Below.refl _ _) ?_ ?_
  ·refine lt_s (lt_s (lt_s (lt_s (lt_s (lt_s (lt_0) ?_) ?_) ?_) ?_) ?_) ?_
   ·intro f w1 hS hf aA hA
    have r9 := qO 9 hA z9
    exact fV rfl rfl _ (ex_loadR 28 (.tmp 9) rfl ⟨b4_6, 0, none⟩ r9 (fun _ => by kernel_rfl) [.int .u64 (s : Int), v4_4] (by kernel_rfl) ((HX_b4_6.out.keepB hS).part [.int .u64 (s : Int), v4_4] 0 (fun j u hu => by rw [Nat.zero_add]; exact hu))) hS uS
   ·intro f w1 hS hf aA hA
    have r37 := qA 37 0 hA sbQgf5 zsz (hf 0 (by decide))
    exact fC rfl rfl 9 #[(.tmp 37)] _ rfl #[.agg #[.int .u64 (s : Int), v4_4]] (mp1 r37) (fun w => by kernel_rfl) _ (allQ true 0 (srt q.2.1) (srt q.2.2) s _ (List.zipWith minusC (T) (tabP s T.length B)) q HQQ.out HOK.out rfl rfl rfl w1 HSD.out (HL.out.keep (HB.out.trans (hS.mono HB.out.size)) HSZ.out) HDM.out HDG.out (HU4_4.out.keep hS)) hS (fun _ _ ⟨zz, a, b⟩ => ⟨zz, uS.trans a, b⟩)
   ·intro f w1 hS hf aA hA
    obtain ⟨x38, hx38, hr38⟩ := hf 1 (by decide)
    have e38 := pA 38 1 hA sbQgf5 (by kernel_rfl) zsz rfl hx38
    exact flw_val rfl rfl (.tuple #[.agg #[(fl x38 0), (fl x38 1), .int .u64 (s : Int), (fl x38 2)], .int .i64 0]) (ex_move (.tmp 38) rfl e38) hS (Flz.refl _) ⟨x38, uS, hr38⟩
   ·intro f w1 hS hf aA hA
    obtain ⟨x36, hx36, hr36⟩ := hf 2 (by decide)
    have e36 := pA 36 2 hA sbQgf5 (by kernel_rfl) zsz rfl hx36
    exact flw_val rfl rfl (.agg #[(fl x36 0), (fl x36 1), .int .u64 (s : Int), (fl x36 2)]) (ex_extract (.tmp 36) 0 rfl e36 rfl) hS (Flz.refl _) ⟨x36, uS, hr36⟩
   ·intro f w1 hS hf aA hA
    obtain ⟨x36, hx36, hr36⟩ := hf 2 (by decide)
    have e36 := pA 36 2 hA sbQgf5 (by kernel_rfl) zsz rfl hx36
    exact fV rfl rfl _ (ex_extract (.tmp 36) 1 rfl e36 rfl) hS uS
   ·intro f w1 hS hf aA hA
    exact flw_wp rfl rfl (fun K hK => wp_alloc_row 30 rfl (.agg #[.slice none 0 0, .slice none 0 0, .int .u64 0, .slice none 0 0]) (fun w => by kernel_rfl) (hK _ _ (hS.alloc hS.size _) (Flz.al _ _) ⟨_, uS, hS.size, Has.made' _ _ _ _ rfl⟩))
  intro f u6 hS hf hap
  have h0 := eqL (hf 0 (by decide)) rfl
  obtain ⟨v5_1, h1, -⟩ := hf 1 (by decide)
  obtain ⟨v5_2, h2, -⟩ := hf 2 (by decide)
  obtain ⟨v5_3, h3, hu3⟩ := hf 3 (by decide)
  have HU5_3 := Lib.hid hu3
  clear hu3
  have h4 := eqL (hf 4 (by decide)) rfl
  obtain ⟨b5_5, h5, hgb5, hhb5⟩ := hf 5 (by decide)
  clear hf hap
  clear zsz z9
  subst ha0
  simp only [slotsQgf5, putAll, h0, h1, h2, h3, h4, h5, Act.put, List.setIfInBounds_toArray, List.set_cons_zero, List.set_cons_succ]
  clear h0 h1 h2 h3 h4 h5
  refine tl_store rfl (by kernel_rfl) 30 (.tmp 11) (.tmp 39) rfl b5_5 ([(fl v5_3 0), (fl v5_3 1), .int .u64 ((s : Int)), (fl v5_3 2)]) _ rfl rfl _ hhb5 (by kernel_rfl) rfl (rs_ones HU5_3.out.p.oneC HU5_3.out.m.oneC _ HU5_3.out.l.oneC) ?_
  intro u7 hp5 hbl hot
  replace hS := hS.trans (hbl _ hgb5)
  replace HU5_3 := Lib.hid (HU5_3.out.hotr hhb5 hot)
  clear hbl hot hhb5
  try simp only [Act.put]
  refine tl_pure rfl (by kernel_rfl) (.int .i64 0) (ex_assign (.tmp 40) rfl rfl) ?_
  try simp only [Act.put, List.setIfInBounds_toArray, List.set_cons_zero, List.set_cons_succ]
  refine tl_nil ?_
  replace HX1 := Lib.hid (HX1.out.keepB hS)
  replace HX_b3_10 := Lib.hid (HX_b3_10.out.keepB hS)
  replace HU3_8 := Lib.hid (HU3_8.out.keep hS)
  replace HX_b4_6 := Lib.hid (HX_b4_6.out.keepB hS)
  replace HU4_4 := Lib.hid (HU4_4.out.keep hS)
  have HBW := Lib.hid HB.out.size
  replace HB := Lib.hid (HB.out.trans (hS.mono HB.out.size))
  clear hS
  have HGb5_5 : Hid (w.heap.size ≤ b5_5) := Lib.hid (Nat.le_trans HBW.out hgb5)
  have HX_b5_5 : Hid (Has u7 b5_5 30 ([(fl v5_3 0), (fl v5_3 1), .int .u64 ((s : Int)), (fl v5_3 2)])) := Lib.hid hp5
  clear hp5 hgb5
  clear HBW
  go_upto_region 6 with fail
  refine wp_act (fun a0 ha0 => ?_)
  have zsz : a0.tmps.size = 62 := by rw [ha0]; rfl
  have z6 : a0.eval (.tmp 6) = .int .i64 0 := by rw [ha0]; rfl
  refine wrO [] slotsQgf6 waitQgf6 [Fct.val Flz 0 (.int .i64 0), Fct.val Flz 1 (.bool false)] (fun w' => Below u7.heap.size u7 w') _ 2 0 chkQgf6 (by kernel_rfl) (by kernel_rfl) (by kernel_rfl) (by decide) (Below.refl _ _) ?_ ?_
  ·refine lt_s (lt_s (lt_0) ?_) ?_
   ·intro f w1 hS hf aA hA
    have r6 := qO 6 hA z6
    exact fV rfl rfl _ (ex_move (.tmp 6) rfl r6) hS uS
   ·intro f w1 hS hf aA hA
    have r41 := qA 41 0 hA sbQgf6 zsz (hf 0 (by decide))
    exact fV rfl rfl _ (Eq.trans (ex_int .neq _ _ (.tmp 41) _ rfl .i64 0 0 r41 rfl (.bool ((0 : Int) != (0 : Int))) (fun _ => rfl)) (by rw [(by decide : ((0 : Int) != (0 : Int)) = false)])) hS uS
  intro f u8 hS hf hap
  have h0 := eqL (hf 0 (by decide)) rfl
  have h1 := eqL (hf 1 (by decide)) rfl
  clear hf hap
  clear zsz z6
  subst ha0
  simp only [slotsQgf6, putAll, h0, h1, Act.put, List.setIfInBounds_toArray, List.set_cons_zero, List.set_cons_succ]
  clear h0 h1
  refine tl_nil ?_
  replace HX1 := Lib.hid (HX1.out.keepB hS)
  replace HX_b3_10 := Lib.hid (HX_b3_10.out.keepB hS)
  replace HU3_8 := Lib.hid (HU3_8.out.keep hS)
  replace HX_b4_6 := Lib.hid (HX_b4_6.out.keepB hS)
  replace HU4_4 := Lib.hid (HU4_4.out.keep hS)
  replace HX_b5_5 := Lib.hid (HX_b5_5.out.keepB hS)
  replace HU5_3 := Lib.hid (HU5_3.out.keep hS)
  replace HB := Lib.hid (HB.out.trans (hS.mono HB.out.size))
  clear hS
  have HM1 : Hid ((srt q.2.1).length ≤ 10000) := Lib.hid (Nat.le_trans (len_srt_le _) (Nat.le_trans HP1.out (by decide)))
  have HM2 : Hid ((srt q.2.2).length ≤ 10000) := Lib.hid (Nat.le_trans (len_srt_le _) (Nat.le_trans HP2.out (by decide)))
  obtain ⟨d1, hd1⟩ : ∃ d, decide ((minU (srt q.2.2) B).length = 0) = d := ⟨_, rfl⟩
  obtain ⟨d2, hd2⟩ : ∃ d, decide ((botU (srt q.2.1) B).length = 0) = d := ⟨_, rfl⟩
  have HD1 := Lib.hid hd1
  have HD2 := Lib.hid hd2
  have HE1 : Hid (decide (((minU (srt q.2.2) B).length : Int) > 0) = !d1) := Lib.hid (by rw [← hd1]; exact pos_dec _)
  have HE2 : Hid (decide (((botU (srt q.2.1) B).length : Int) > 0) = !d2) := Lib.hid (by rw [← hd2]; exact pos_dec _)
  clear hd1 hd2
  cases d1
  ·replace HE1 : Hid (decide (((minU (srt q.2.2) B).length : Int) > 0) = true) := Lib.hid HE1.out
   go_upto_region 8 with fail
   refine wp_act (fun a0 ha0 => ?_)
   have zsz : a0.tmps.size = 62 := by rw [ha0]; rfl
   have z11 : a0.eval (.tmp 11) = .pointer (some ⟨b5_5, 0, none⟩) := by rw [ha0]; rfl
   have z1 : a0.eval (.tmp 1) = u := by rw [ha0]; rfl
   refine wrO [] slotsQgt008 waitQgt008 [Fct.val Flz 0 (.pointer (some ⟨b5_5, 1, none⟩)), Fct.val Flz 1 ((fl v5_3 1)), Fct.val Flz 2 (u), Fct.obj 3 (fun v w => Us w v (minU (srt q.2.2) B)) (fun _ _ _ h he => h.flz he), Fct.val Flz 4 (.int .i64 (((minU (srt q.2.2) B).length : Int))), Fct.val Flz 5 (.bool true), Fct.val Flz 6 (.bool true), Fct.val Flz 7 (undef), Fct.val Flz 8 (undef), Fct.val Flz 9 (undef), Fct.val Flz 10 (undef), Fct.val Flz 11 (undef), Fct.val Flz 12 (undef), Fct.val Flz 13 (.bool true)] (fun w' => Below u8.heap.size u8 w') _ 14 0 chkQgt008 (by kernel_rfl) (by kernel_rfl) (by kernel_rfl) (by decide) (Below.refl _ _) ?_ ?_
   ·refine lt_s (lt_s (lt_s (lt_s (lt_s (lt_s (lt_s (lt_s (lt_s (lt_s (lt_s (lt_s (lt_s (lt_s (lt_0) ?_) ?_) ?_) ?_) ?_) ?_) ?_) ?_) ?_) ?_) ?_) ?_) ?_) ?_
    ·intro f w1 hS hf aA hA
     have r11 := qO 11 hA z11
     exact fV rfl rfl _ (fldR1 (.tmp 11) rfl b5_5 r11) hS uS
    ·intro f w1 hS hf aA hA
     have r44 := qA 44 0 hA sbQgt008 zsz (hf 0 (by decide))
     exact fV rfl rfl _ (ex_load1 24 (.tmp 44) rfl ⟨b5_5, 1, none⟩ r44 (fun _ => by kernel_rfl) ((HX_b5_5.out.keepB hS).cellv rfl)) hS uS
    ·intro f w1 hS hf aA hA
     have r1 := qO 1 hA z1
     exact fV rfl rfl _ (ex_move (.tmp 1) rfl r1) hS uS
    ·intro f w1 hS hf aA hA
     have r45 := qA 45 1 hA sbQgt008 zsz (hf 1 (by decide))
     have r46 := qA 46 2 hA sbQgt008 zsz (hf 2 (by decide))
     exact flw_call rfl rfl 20 #[(.tmp 45), (.tmp 46)] _ rfl #[(fl v5_3 1), u] (mp2 r45 r46) (fun w => by kernel_rfl) (fun v w' => Us w' v (minU (srt q.2.2) B)) (us_minus (OwnU.us (HU5_3.out.m.keep hS)) (HU.out.keep (HB.out.trans (hS.mono HB.out.size))) HM2.out HBT.out) (fun v w' hr hb => ⟨hS.trans (hb.mono hS.size), Flz.of hb, (show Us w' (updF f 3 v 3) (minU (srt q.2.2) B) by rw [updF_self]; exact hr)⟩)
    ·intro f w1 hS hf aA hA
     have hu3 : Us w1 (f 3) (minU (srt q.2.2) B) := (hf 3 (by decide))
     have e47 := pA 47 3 hA sbQgt008 (by kernel_rfl) zsz rfl rfl
     obtain ⟨q9, c9, hv9, _⟩ := hu3
     exact fV rfl rfl _ (ex_len 24 42 (.tmp 47) rfl (by kernel_rfl) q9 (minU (srt q.2.2) B).length c9 (e47.trans hv9)) hS uS
    ·intro f w1 hS hf aA hA
     have r48 := qA 48 4 hA sbQgt008 zsz (hf 4 (by decide))
     exact fV rfl rfl _ (Eq.trans (ex_int .gtr _ _ (.tmp 48) _ rfl .i64 (((minU (srt q.2.2) B).length : Int)) 0 r48 rfl (.bool (decide ((((minU (srt q.2.2) B).length : Int)) > (0 : Int)))) (fun _ => rfl)) (by rw [HE1.out])) hS uS
    ·intro f w1 hS hf aA hA
     have r49 := qA 49 5 hA sbQgt008 zsz (hf 5 (by decide))
     exact fV rfl rfl _ (ex_move (.tmp 49) rfl r49) hS uS
    ·intro f w1 hS hf aA hA
     have t50 := qG 50 6 hA sbQgt008 zsz (hf 6 (by decide))
     exact flw_skip rfl ((wanted_of rfl 50 rfl t50).trans rfl) hS (Flz.refl _) uS
    ·intro f w1 hS hf aA hA
     have t50 := qG 50 6 hA sbQgt008 zsz (hf 6 (by decide))
     exact flw_skip rfl ((wanted_of rfl 50 rfl t50).trans rfl) hS (Flz.refl _) uS
    ·intro f w1 hS hf aA hA
     have t50 := qG 50 6 hA sbQgt008 zsz (hf 6 (by decide))
     exact flw_skip rfl ((wanted_of rfl 50 rfl t50).trans rfl) hS (Flz.refl _) uS
    ·intro f w1 hS hf aA hA
     have t50 := qG 50 6 hA sbQgt008 zsz (hf 6 (by decide))
     exact flw_skip rfl ((wanted_of rfl 50 rfl t50).trans rfl) hS (Flz.refl _) uS
    ·intro f w1 hS hf aA hA
     have t50 := qG 50 6 hA sbQgt008 zsz (hf 6 (by decide))
     exact flw_skip rfl ((wanted_of rfl 50 rfl t50).trans rfl) hS (Flz.refl _) uS
    ·intro f w1 hS hf aA hA
     have t50 := qG 50 6 hA sbQgt008 zsz (hf 6 (by decide))
     exact flw_skip rfl ((wanted_of rfl 50 rfl t50).trans rfl) hS (Flz.refl _) uS
    ·intro f w1 hS hf aA hA
     have r50 := qA 50 6 hA sbQgt008 zsz (hf 6 (by decide))
     exact fV rfl rfl (.bool true) (ex_pick (.tmp 50) _ (.tmp 56) rfl true r50 ((if_pos rfl).trans rfl)) hS uS
   intro f u9 hS hf hap
   have h0 := eqL (hf 0 (by decide)) rfl
   have h1 := eqL (hf 1 (by decide)) rfl
   have h2 : f 2 = u := hf 2 (by decide)
   obtain ⟨v8_3, h3, hu3⟩ : ∃ v, f 3 = v ∧ Us u9 v (minU (srt q.2.2) B) := ⟨_, rfl, (hf 3 (by decide))⟩
   clear hu3
   have h4 := eqL (hf 4 (by decide)) rfl
   have h5 := eqL (hf 5 (by decide)) rfl
   have h6 := eqL (hf 6 (by decide)) rfl
   have h7 := eqL (hf 7 (by decide)) rfl
   have h8 := eqL (hf 8 (by decide)) rfl
   have h9 := eqL (hf 9 (by decide)) rfl
   have h10 := eqL (hf 10 (by decide)) rfl
   have h11 := eqL (hf 11 (by decide)) rfl
   have h12 := eqL (hf 12 (by decide)) rfl
   have h13 := eqL (hf 13 (by decide)) rfl
   clear hf hap
   clear zsz z11 z1
   subst ha0
   simp only [slotsQgt008, putAll, h0, h1, h2, h3, h4, h5, h6, h7, h8, h9, h10, h11, h12, h13, Act.put, List.setIfInBounds_toArray, List.set_cons_zero, List.set_cons_succ]
   clear h0 h1 h2 h3 h4 h5 h6 h7 h8 h9 h10 h11 h12 h13
   refine tl_nil ?_
   replace HX1 := Lib.hid (HX1.out.keepB hS)
   replace HX_b3_10 := Lib.hid (HX_b3_10.out.keepB hS)
   replace HU3_8 := Lib.hid (HU3_8.out.keep hS)
   replace HX_b4_6 := Lib.hid (HX_b4_6.out.keepB hS)
   replace HU4_4 := Lib.hid (HU4_4.out.keep hS)
   replace HX_b5_5 := Lib.hid (HX_b5_5.out.keepB hS)
   replace HU5_3 := Lib.hid (HU5_3.out.keep hS)
   replace HB := Lib.hid (HB.out.trans (hS.mono HB.out.size))
   clear hS
   have HOB : Hid (ownB B q = false) := Lib.hid (by unfold ownB; rw [HOK.out, HD1.out]; rfl)
   go_wp2_with fail
   (try simp only [Exit.inBlock, Exit.then])
   refine bodyPost_ret (v := .tuple #[.slice none 0 0, .slice none 0 0, .int .i64 10]) ?_ rfl ⟨⟨_, rfl, .tuple #[.slice none 0 0, .slice none 0 0], by rw [(resO_f HOB.out).1]; rfl, by rw [(resO_f HOB.out).2.1, (resO_f HOB.out).2.2]; exact ⟨Us.nil _, Us.nil _⟩⟩, HB.out⟩
   exact results_tmp3 rfl _ _ rfl rfl rfl
  ·cases d2
   ·replace HE1 : Hid (decide (((minU (srt q.2.2) B).length : Int) > 0) = false) := Lib.hid HE1.out
    replace HE2 : Hid (decide (((botU (srt q.2.1) B).length : Int) > 0) = true) := Lib.hid HE2.out
    go_upto_region 8 with fail
    refine wp_act (fun a0 ha0 => ?_)
    have zsz : a0.tmps.size = 62 := by rw [ha0]; rfl
    have z11 : a0.eval (.tmp 11) = .pointer (some ⟨b5_5, 0, none⟩) := by rw [ha0]; rfl
    have z1 : a0.eval (.tmp 1) = u := by rw [ha0]; rfl
    refine wrO [] slotsQgt108 waitQgt108 [Fct.val Flz 0 (.pointer (some ⟨b5_5, 1, none⟩)), Fct.val Flz 1 ((fl v5_3 1)), Fct.val Flz 2 (u), Fct.obj 3 (fun v w => Us w v (minU (srt q.2.2) B)) (fun _ _ _ h he => h.flz he), Fct.val Flz 4 (.int .i64 (((minU (srt q.2.2) B).length : Int))), Fct.val Flz 5 (.bool false), Fct.val Flz 6 (.bool false), Fct.val Flz 7 (.pointer (some ⟨b5_5, 0, none⟩)), Fct.val Flz 8 ((fl v5_3 0)), Fct.val Flz 9 (u), Fct.obj 10 (fun v w => Us w v (botU (srt q.2.1) B)) (fun _ _ _ h he => h.flz he), Fct.val Flz 11 (.int .i64 (((botU (srt q.2.1) B).length : Int))), Fct.val Flz 12 (.bool true), Fct.val Flz 13 (.bool true)] (fun w' => Below u8.heap.size u8 w') _ 14 0 chkQgt108 (by kernel_rfl) (by kernel_rfl) (by kernel_rfl) (by decide) (Below.refl _ _) ?_ ?_
    ·refine lt_s (lt_s (lt_s (lt_s (lt_s (lt_s (lt_s (lt_s (lt_s (lt_s (lt_s (lt_s (lt_s (lt_s (lt_0) ?_) ?_) ?_) ?_) ?_) ?_) ?_) ?_) ?_) ?_) ?_) ?_) ?_) ?_
     ·intro f w1 hS hf aA hA
      have r11 := qO 11 hA z11
      exact fV rfl rfl _ (fldR1 (.tmp 11) rfl b5_5 r11) hS uS
     ·intro f w1 hS hf aA hA
      have r44 := qA 44 0 hA sbQgt108 zsz (hf 0 (by decide))
      exact fV rfl rfl _ (ex_load1 24 (.tmp 44) rfl ⟨b5_5, 1, none⟩ r44 (fun _ => by kernel_rfl) ((HX_b5_5.out.keepB hS).cellv rfl)) hS uS
     ·intro f w1 hS hf aA hA
      have r1 := qO 1 hA z1
      exact fV rfl rfl _ (ex_move (.tmp 1) rfl r1) hS uS
     ·intro f w1 hS hf aA hA
      have r45 := qA 45 1 hA sbQgt108 zsz (hf 1 (by decide))
      have r46 := qA 46 2 hA sbQgt108 zsz (hf 2 (by decide))
      exact flw_call rfl rfl 20 #[(.tmp 45), (.tmp 46)] _ rfl #[(fl v5_3 1), u] (mp2 r45 r46) (fun w => by kernel_rfl) (fun v w' => Us w' v (minU (srt q.2.2) B)) (us_minus (OwnU.us (HU5_3.out.m.keep hS)) (HU.out.keep (HB.out.trans (hS.mono HB.out.size))) HM2.out HBT.out) (fun v w' hr hb => ⟨hS.trans (hb.mono hS.size), Flz.of hb, (show Us w' (updF f 3 v 3) (minU (srt q.2.2) B) by rw [updF_self]; exact hr)⟩)
     ·intro f w1 hS hf aA hA
      have hu3 : Us w1 (f 3) (minU (srt q.2.2) B) := (hf 3 (by decide))
      have e47 := pA 47 3 hA sbQgt108 (by kernel_rfl) zsz rfl rfl
      obtain ⟨q9, c9, hv9, _⟩ := hu3
      exact fV rfl rfl _ (ex_len 24 42 (.tmp 47) rfl (by kernel_rfl) q9 (minU (srt q.2.2) B).length c9 (e47.trans hv9)) hS uS
     ·intro f w1 hS hf aA hA
      have r48 := qA 48 4 hA sbQgt108 zsz (hf 4 (by decide))
      exact fV rfl rfl _ (Eq.trans (ex_int .gtr _ _ (.tmp 48) _ rfl .i64 (((minU (srt q.2.2) B).length : Int)) 0 r48 rfl (.bool (decide ((((minU (srt q.2.2) B).length : Int)) > (0 : Int)))) (fun _ => rfl)) (by rw [HE1.out])) hS uS
     ·intro f w1 hS hf aA hA
      have r49 := qA 49 5 hA sbQgt108 zsz (hf 5 (by decide))
      exact fV rfl rfl _ (ex_move (.tmp 49) rfl r49) hS uS
     ·intro f w1 hS hf aA hA
      have t50 := qG 50 6 hA sbQgt108 zsz (hf 6 (by decide))
      have r11 := qO 11 hA z11
      exact fV rfl ((wanted_of rfl 50 rfl t50).trans rfl) _ (fldR0 (.tmp 11) rfl b5_5 r11) hS uS
     ·intro f w1 hS hf aA hA
      have t50 := qG 50 6 hA sbQgt108 zsz (hf 6 (by decide))
      have r51 := qA 51 7 hA sbQgt108 zsz (hf 7 (by decide))
      exact fV rfl ((wanted_of rfl 50 rfl t50).trans rfl) _ (ex_load1 24 (.tmp 51) rfl ⟨b5_5, 0, none⟩ r51 (fun _ => by kernel_rfl) ((HX_b5_5.out.keepB hS).cellv rfl)) hS uS
     ·intro f w1 hS hf aA hA
      have t50 := qG 50 6 hA sbQgt108 zsz (hf 6 (by decide))
      have r1 := qO 1 hA z1
      exact fV rfl ((wanted_of rfl 50 rfl t50).trans rfl) _ (ex_move (.tmp 1) rfl r1) hS uS
     ·intro f w1 hS hf aA hA
      have t50 := qG 50 6 hA sbQgt108 zsz (hf 6 (by decide))
      have r52 := qA 52 8 hA sbQgt108 zsz (hf 8 (by decide))
      have r53 := qA 53 9 hA sbQgt108 zsz (hf 9 (by decide))
      exact flw_call rfl ((wanted_of rfl 50 rfl t50).trans rfl) 21 #[(.tmp 52), (.tmp 53)] _ rfl #[(fl v5_3 0), u] (mp2 r52 r53) (fun w => by kernel_rfl) (fun v w' => Us w' v (botU (srt q.2.1) B)) (us_both (OwnU.us (HU5_3.out.p.keep hS)) (HU.out.keep (HB.out.trans (hS.mono HB.out.size))) HM1.out HBT.out) (fun v w' hr hb => ⟨hS.trans (hb.mono hS.size), Flz.of hb, (show Us w' (updF f 10 v 10) (botU (srt q.2.1) B) by rw [updF_self]; exact hr)⟩)
     ·intro f w1 hS hf aA hA
      have t50 := qG 50 6 hA sbQgt108 zsz (hf 6 (by decide))
      have hu10 : Us w1 (f 10) (botU (srt q.2.1) B) := (hf 10 (by decide))
      have e54 := pA 54 10 hA sbQgt108 (by kernel_rfl) zsz rfl rfl
      obtain ⟨q9, c9, hv9, _⟩ := hu10
      exact fV rfl ((wanted_of rfl 50 rfl t50).trans rfl) _ (ex_len 24 42 (.tmp 54) rfl (by kernel_rfl) q9 (botU (srt q.2.1) B).length c9 (e54.trans hv9)) hS uS
     ·intro f w1 hS hf aA hA
      have t50 := qG 50 6 hA sbQgt108 zsz (hf 6 (by decide))
      have r55 := qA 55 11 hA sbQgt108 zsz (hf 11 (by decide))
      exact fV rfl ((wanted_of rfl 50 rfl t50).trans rfl) _ (Eq.trans (ex_int .gtr _ _ (.tmp 55) _ rfl .i64 (((botU (srt q.2.1) B).length : Int)) 0 r55 rfl (.bool (decide ((((botU (srt q.2.1) B).length : Int)) > (0 : Int)))) (fun _ => rfl)) (by rw [HE2.out])) hS uS
     ·intro f w1 hS hf aA hA
      have r50 := qA 50 6 hA sbQgt108 zsz (hf 6 (by decide))
      have r56 := qA 56 12 hA sbQgt108 zsz (hf 12 (by decide))
      exact fV rfl rfl (.bool true) (ex_pick (.tmp 50) _ (.tmp 56) rfl false r50 ((if_neg (by decide)).trans r56)) hS uS
    intro f u9 hS hf hap
    have h0 := eqL (hf 0 (by decide)) rfl
    have h1 := eqL (hf 1 (by decide)) rfl
    have h2 : f 2 = u := hf 2 (by decide)
    obtain ⟨v8_3, h3, hu3⟩ : ∃ v, f 3 = v ∧ Us u9 v (minU (srt q.2.2) B) := ⟨_, rfl, (hf 3 (by decide))⟩
    clear hu3
    have h4 := eqL (hf 4 (by decide)) rfl
    have h5 := eqL (hf 5 (by decide)) rfl
    have h6 := eqL (hf 6 (by decide)) rfl
    have h7 := eqL (hf 7 (by decide)) rfl
    have h8 := eqL (hf 8 (by decide)) rfl
    have h9 : f 9 = u := hf 9 (by decide)
    obtain ⟨v8_10, h10, hu10⟩ : ∃ v, f 10 = v ∧ Us u9 v (botU (srt q.2.1) B) := ⟨_, rfl, (hf 10 (by decide))⟩
    clear hu10
    have h11 := eqL (hf 11 (by decide)) rfl
    have h12 := eqL (hf 12 (by decide)) rfl
    have h13 := eqL (hf 13 (by decide)) rfl
    clear hf hap
    clear zsz z11 z1
    subst ha0
    simp only [slotsQgt108, putAll, h0, h1, h2, h3, h4, h5, h6, h7, h8, h9, h10, h11, h12, h13, Act.put, List.setIfInBounds_toArray, List.set_cons_zero, List.set_cons_succ]
    clear h0 h1 h2 h3 h4 h5 h6 h7 h8 h9 h10 h11 h12 h13
    refine tl_nil ?_
    replace HX1 := Lib.hid (HX1.out.keepB hS)
    replace HX_b3_10 := Lib.hid (HX_b3_10.out.keepB hS)
    replace HU3_8 := Lib.hid (HU3_8.out.keep hS)
    replace HX_b4_6 := Lib.hid (HX_b4_6.out.keepB hS)
    replace HU4_4 := Lib.hid (HU4_4.out.keep hS)
    replace HX_b5_5 := Lib.hid (HX_b5_5.out.keepB hS)
    replace HU5_3 := Lib.hid (HU5_3.out.keep hS)
    replace HB := Lib.hid (HB.out.trans (hS.mono HB.out.size))
    clear hS
    have HOB : Hid (ownB B q = false) := Lib.hid (by unfold ownB; rw [HD2.out]; simp)
    go_wp2_with fail
    (try simp only [Exit.inBlock, Exit.then])
    refine bodyPost_ret (v := .tuple #[.slice none 0 0, .slice none 0 0, .int .i64 10]) ?_ rfl ⟨⟨_, rfl, .tuple #[.slice none 0 0, .slice none 0 0], by rw [(resO_f HOB.out).1]; rfl, by rw [(resO_f HOB.out).2.1, (resO_f HOB.out).2.2]; exact ⟨Us.nil _, Us.nil _⟩⟩, HB.out⟩
    exact results_tmp3 rfl _ _ rfl rfl rfl
   ·replace HE1 : Hid (decide (((minU (srt q.2.2) B).length : Int) > 0) = false) := Lib.hid HE1.out
    replace HE2 : Hid (decide (((botU (srt q.2.1) B).length : Int) > 0) = false) := Lib.hid HE2.out
    go_upto_region 8 with fail
    refine wp_act (fun a0 ha0 => ?_)
    have zsz : a0.tmps.size = 62 := by rw [ha0]; rfl
    have z11 : a0.eval (.tmp 11) = .pointer (some ⟨b5_5, 0, none⟩) := by rw [ha0]; rfl
    have z1 : a0.eval (.tmp 1) = u := by rw [ha0]; rfl
    refine wrO [] slotsQgt108 waitQgt108 [Fct.val Flz 0 (.pointer (some ⟨b5_5, 1, none⟩)), Fct.val Flz 1 ((fl v5_3 1)), Fct.val Flz 2 (u), Fct.obj 3 (fun v w => Us w v (minU (srt q.2.2) B)) (fun _ _ _ h he => h.flz he), Fct.val Flz 4 (.int .i64 (((minU (srt q.2.2) B).length : Int))), Fct.val Flz 5 (.bool false), Fct.val Flz 6 (.bool false), Fct.val Flz 7 (.pointer (some ⟨b5_5, 0, none⟩)), Fct.val Flz 8 ((fl v5_3 0)), Fct.val Flz 9 (u), Fct.obj 10 (fun v w => Us w v (botU (srt q.2.1) B)) (fun _ _ _ h he => h.flz he), Fct.val Flz 11 (.int .i64 (((botU (srt q.2.1) B).length : Int))), Fct.val Flz 12 (.bool false), Fct.val Flz 13 (.bool false)] (fun w' => Below u8.heap.size u8 w') _ 14 0 chkQgt108 (by kernel_rfl) (by kernel_rfl) (by kernel_rfl) (by decide) (Below.refl _ _) ?_ ?_
    ·refine lt_s (lt_s (lt_s (lt_s (lt_s (lt_s (lt_s (lt_s (lt_s (lt_s (lt_s (lt_s (lt_s (lt_s (lt_0) ?_) ?_) ?_) ?_) ?_) ?_) ?_) ?_) ?_) ?_) ?_) ?_) ?_) ?_
     ·intro f w1 hS hf aA hA
      have r11 := qO 11 hA z11
      exact fV rfl rfl _ (fldR1 (.tmp 11) rfl b5_5 r11) hS uS
     ·intro f w1 hS hf aA hA
      have r44 := qA 44 0 hA sbQgt108 zsz (hf 0 (by decide))
      exact fV rfl rfl _ (ex_load1 24 (.tmp 44) rfl ⟨b5_5, 1, none⟩ r44 (fun _ => by kernel_rfl) ((HX_b5_5.out.keepB hS).cellv rfl)) hS uS
     ·intro f w1 hS hf aA hA
      have r1 := qO 1 hA z1
      exact fV rfl rfl _ (ex_move (.tmp 1) rfl r1) hS uS
     ·intro f w1 hS hf aA hA
      have r45 := qA 45 1 hA sbQgt108 zsz (hf 1 (by decide))
      have r46 := qA 46 2 hA sbQgt108 zsz (hf 2 (by decide))
      exact flw_call rfl rfl 20 #[(.tmp 45), (.tmp 46)] _ rfl #[(fl v5_3 1), u] (mp2 r45 r46) (fun w => by kernel_rfl) (fun v w' => Us w' v (minU (srt q.2.2) B)) (us_minus (OwnU.us (HU5_3.out.m.keep hS)) (HU.out.keep (HB.out.trans (hS.mono HB.out.size))) HM2.out HBT.out) (fun v w' hr hb => ⟨hS.trans (hb.mono hS.size), Flz.of hb, (show Us w' (updF f 3 v 3) (minU (srt q.2.2) B) by rw [updF_self]; exact hr)⟩)
     ·intro f w1 hS hf aA hA
      have hu3 : Us w1 (f 3) (minU (srt q.2.2) B) := (hf 3 (by decide))
      have e47 := pA 47 3 hA sbQgt108 (by kernel_rfl) zsz rfl rfl
      obtain ⟨q9, c9, hv9, _⟩ := hu3
      exact fV rfl rfl _ (ex_len 24 42 (.tmp 47) rfl (by kernel_rfl) q9 (minU (srt q.2.2) B).length c9 (e47.trans hv9)) hS uS
     ·intro f w1 hS hf aA hA
      have r48 := qA 48 4 hA sbQgt108 zsz (hf 4 (by decide))
      exact fV rfl rfl _ (Eq.trans (ex_int .gtr _ _ (.tmp 48) _ rfl .i64 (((minU (srt q.2.2) B).length : Int)) 0 r48 rfl (.bool (decide ((((minU (srt q.2.2) B).length : Int)) > (0 : Int)))) (fun _ => rfl)) (by rw [HE1.out])) hS uS
     ·intro f w1 hS hf aA hA
      have r49 := qA 49 5 hA sbQgt108 zsz (hf 5 (by decide))
      exact fV rfl rfl _ (ex_move (.tmp 49) rfl r49) hS uS
     ·intro f w1 hS hf aA hA
      have t50 := qG 50 6 hA sbQgt108 zsz (hf 6 (by decide))
      have r11 := qO 11 hA z11
      exact fV rfl ((wanted_of rfl 50 rfl t50).trans rfl) _ (fldR0 (.tmp 11) rfl b5_5 r11) hS uS
     ·intro f w1 hS hf aA hA
      have t50 := qG 50 6 hA sbQgt108 zsz (hf 6 (by decide))
      have r51 := qA 51 7 hA sbQgt108 zsz (hf 7 (by decide))
      exact fV rfl ((wanted_of rfl 50 rfl t50).trans rfl) _ (ex_load1 24 (.tmp 51) rfl ⟨b5_5, 0, none⟩ r51 (fun _ => by kernel_rfl) ((HX_b5_5.out.keepB hS).cellv rfl)) hS uS
     ·intro f w1 hS hf aA hA
      have t50 := qG 50 6 hA sbQgt108 zsz (hf 6 (by decide))
      have r1 := qO 1 hA z1
      exact fV rfl ((wanted_of rfl 50 rfl t50).trans rfl) _ (ex_move (.tmp 1) rfl r1) hS uS
     ·intro f w1 hS hf aA hA
      have t50 := qG 50 6 hA sbQgt108 zsz (hf 6 (by decide))
      have r52 := qA 52 8 hA sbQgt108 zsz (hf 8 (by decide))
      have r53 := qA 53 9 hA sbQgt108 zsz (hf 9 (by decide))
      exact flw_call rfl ((wanted_of rfl 50 rfl t50).trans rfl) 21 #[(.tmp 52), (.tmp 53)] _ rfl #[(fl v5_3 0), u] (mp2 r52 r53) (fun w => by kernel_rfl) (fun v w' => Us w' v (botU (srt q.2.1) B)) (us_both (OwnU.us (HU5_3.out.p.keep hS)) (HU.out.keep (HB.out.trans (hS.mono HB.out.size))) HM1.out HBT.out) (fun v w' hr hb => ⟨hS.trans (hb.mono hS.size), Flz.of hb, (show Us w' (updF f 10 v 10) (botU (srt q.2.1) B) by rw [updF_self]; exact hr)⟩)
     ·intro f w1 hS hf aA hA
      have t50 := qG 50 6 hA sbQgt108 zsz (hf 6 (by decide))
      have hu10 : Us w1 (f 10) (botU (srt q.2.1) B) := (hf 10 (by decide))
      have e54 := pA 54 10 hA sbQgt108 (by kernel_rfl) zsz rfl rfl
      obtain ⟨q9, c9, hv9, _⟩ := hu10
      exact fV rfl ((wanted_of rfl 50 rfl t50).trans rfl) _ (ex_len 24 42 (.tmp 54) rfl (by kernel_rfl) q9 (botU (srt q.2.1) B).length c9 (e54.trans hv9)) hS uS
     ·intro f w1 hS hf aA hA
      have t50 := qG 50 6 hA sbQgt108 zsz (hf 6 (by decide))
      have r55 := qA 55 11 hA sbQgt108 zsz (hf 11 (by decide))
      exact fV rfl ((wanted_of rfl 50 rfl t50).trans rfl) _ (Eq.trans (ex_int .gtr _ _ (.tmp 55) _ rfl .i64 (((botU (srt q.2.1) B).length : Int)) 0 r55 rfl (.bool (decide ((((botU (srt q.2.1) B).length : Int)) > (0 : Int)))) (fun _ => rfl)) (by rw [HE2.out])) hS uS
     ·intro f w1 hS hf aA hA
      have r50 := qA 50 6 hA sbQgt108 zsz (hf 6 (by decide))
      have r56 := qA 56 12 hA sbQgt108 zsz (hf 12 (by decide))
      exact fV rfl rfl (.bool false) (ex_pick (.tmp 50) _ (.tmp 56) rfl false r50 ((if_neg (by decide)).trans r56)) hS uS
    intro f u9 hS hf hap
    have h0 := eqL (hf 0 (by decide)) rfl
    have h1 := eqL (hf 1 (by decide)) rfl
    have h2 : f 2 = u := hf 2 (by decide)
    obtain ⟨v8_3, h3, hu3⟩ : ∃ v, f 3 = v ∧ Us u9 v (minU (srt q.2.2) B) := ⟨_, rfl, (hf 3 (by decide))⟩
    clear hu3
    have h4 := eqL (hf 4 (by decide)) rfl
    have h5 := eqL (hf 5 (by decide)) rfl
    have h6 := eqL (hf 6 (by decide)) rfl
    have h7 := eqL (hf 7 (by decide)) rfl
    have h8 := eqL (hf 8 (by decide)) rfl
    have h9 : f 9 = u := hf 9 (by decide)
    obtain ⟨v8_10, h10, hu10⟩ : ∃ v, f 10 = v ∧ Us u9 v (botU (srt q.2.1) B) := ⟨_, rfl, (hf 10 (by decide))⟩
    clear hu10
    have h11 := eqL (hf 11 (by decide)) rfl
    have h12 := eqL (hf 12 (by decide)) rfl
    have h13 := eqL (hf 13 (by decide)) rfl
    clear hf hap
    clear zsz z11 z1
    subst ha0
    simp only [slotsQgt108, putAll, h0, h1, h2, h3, h4, h5, h6, h7, h8, h9, h10, h11, h12, h13, Act.put, List.setIfInBounds_toArray, List.set_cons_zero, List.set_cons_succ]
    clear h0 h1 h2 h3 h4 h5 h6 h7 h8 h9 h10 h11 h12 h13
    refine tl_nil ?_
    replace HX1 := Lib.hid (HX1.out.keepB hS)
    replace HX_b3_10 := Lib.hid (HX_b3_10.out.keepB hS)
    replace HU3_8 := Lib.hid (HU3_8.out.keep hS)
    replace HX_b4_6 := Lib.hid (HX_b4_6.out.keepB hS)
    replace HU4_4 := Lib.hid (HU4_4.out.keep hS)
    replace HX_b5_5 := Lib.hid (HX_b5_5.out.keepB hS)
    replace HU5_3 := Lib.hid (HU5_3.out.keep hS)
    replace HB := Lib.hid (HB.out.trans (hS.mono HB.out.size))
    clear hS
    go_upto_region 10 with fail
    have HST : Hid (Below u9.heap.size u9 u9.drew) := Lib.hid (Below.refl _ _).drew
    replace HX1 := Lib.hid (HX1.out.keepB HST.out)
    replace HX_b3_10 := Lib.hid (HX_b3_10.out.keepB HST.out)
    replace HU3_8 := Lib.hid (HU3_8.out.keep HST.out)
    replace HX_b4_6 := Lib.hid (HX_b4_6.out.keepB HST.out)
    replace HU4_4 := Lib.hid (HU4_4.out.keep HST.out)
    replace HX_b5_5 := Lib.hid (HX_b5_5.out.keepB HST.out)
    replace HU5_3 := Lib.hid (HU5_3.out.keep HST.out)
    replace HB := Lib.hid (HB.out.trans (HST.out.mono HB.out.size))
    clear HST
    refine wp_act (fun a0 ha0 => ?_)
    have zsz : a0.tmps.size = 62 := by rw [ha0]; rfl
    have z11 : a0.eval (.tmp 11) = .pointer (some ⟨b5_5, 0, none⟩) := by rw [ha0]; rfl
    refine wrD [] slotsQgt1110 waitQgt1110 [Fct.val Flz 0 (.pointer (some ⟨b5_5, 0, none⟩)), Fct.val Flz 1 ((fl v5_3 0)), Fct.val Flz 2 (.pointer (some ⟨b5_5, 1, none⟩)), Fct.val Flz 3 ((fl v5_3 1)), Fct.val Flz 4 ((fl v5_3 0)), Fct.val Flz 5 ((fl v5_3 1)), Fct.val Flz 6 (.int .i64 0)] (fun w' => Below u9.drew.heap.size u9.drew w') _ 7 0 chkQgt1110 (by kernel_rfl) (by kernel_rfl) (by kernel_rfl) (by kernel_rfl) (by decide) (Below.refl _ _) ?_ ?_
    ·refine lt_s (lt_s (lt_s (lt_s (lt_s (lt_s (lt_s (lt_0) ?_) ?_) ?_) ?_) ?_) ?_) ?_
     ·intro f w1 hS hf aA hA
      have r11 := qO 11 hA z11
      exact fV rfl rfl _ (fldR0 (.tmp 11) rfl b5_5 r11) hS uS
     ·intro f w1 hS hf aA hA
      have r58 := qA 58 0 hA sbQgt1110 zsz (hf 0 (by decide))
      exact fV rfl rfl _ (ex_load1 24 (.tmp 58) rfl ⟨b5_5, 0, none⟩ r58 (fun _ => by kernel_rfl) ((HX_b5_5.out.keepB hS).cellv rfl)) hS uS
     ·intro f w1 hS hf aA hA
      have r11 := qO 11 hA z11
      exact fV rfl rfl _ (fldR1 (.tmp 11) rfl b5_5 r11) hS uS
     ·intro f w1 hS hf aA hA
      have r60 := qA 60 2 hA sbQgt1110 zsz (hf 2 (by decide))
      exact fV rfl rfl _ (ex_load1 24 (.tmp 60) rfl ⟨b5_5, 1, none⟩ r60 (fun _ => by kernel_rfl) ((HX_b5_5.out.keepB hS).cellv rfl)) hS uS
     ·intro f w1 hS hf aA hA
      have r59 := qA 59 1 hA sbQgt1110 zsz (hf 1 (by decide))
      exact fV rfl rfl _ (ex_assign (.tmp 59) rfl r59) hS uS
     ·intro f w1 hS hf aA hA
      have r61 := qA 61 3 hA sbQgt1110 zsz (hf 3 (by decide))
      exact fV rfl rfl _ (ex_assign (.tmp 61) rfl r61) hS uS
     ·intro f w1 hS hf aA hA
      exact fV rfl rfl (.int .i64 0) (ex_assign _ rfl rfl) hS uS
    intro f u10 hS hf hap
    have h0 := eqL (hf 0 (by decide)) rfl
    have h1 := eqL (hf 1 (by decide)) rfl
    have h2 := eqL (hf 2 (by decide)) rfl
    have h3 := eqL (hf 3 (by decide)) rfl
    have h4 := eqL (hf 4 (by decide)) rfl
    have h5 := eqL (hf 5 (by decide)) rfl
    have h6 := eqL (hf 6 (by decide)) rfl
    clear hf hap
    clear zsz z11
    subst ha0
    simp only [slotsQgt1110, putAll, h0, h1, h2, h3, h4, h5, h6, Act.put, List.setIfInBounds_toArray, List.set_cons_zero, List.set_cons_succ]
    clear h0 h1 h2 h3 h4 h5 h6
    refine tl_nilN ?_
    replace HX1 := Lib.hid (HX1.out.keepB hS)
    replace HX_b3_10 := Lib.hid (HX_b3_10.out.keepB hS)
    replace HU3_8 := Lib.hid (HU3_8.out.keep hS)
    replace HX_b4_6 := Lib.hid (HX_b4_6.out.keepB hS)
    replace HU4_4 := Lib.hid (HU4_4.out.keep hS)
    replace HX_b5_5 := Lib.hid (HX_b5_5.out.keepB hS)
    replace HU5_3 := Lib.hid (HU5_3.out.keep hS)
    replace HB := Lib.hid (HB.out.trans (hS.mono HB.out.size))
    clear hS
    have HOB : Hid (ownB B q = true) := Lib.hid (by unfold ownB; rw [HOK.out, HD1.out, HD2.out]; rfl)
    have HRR := Lib.hid (HU5_3.out)
    go_wp2_with fail
    (try simp only [Exit.inBlock, Exit.then])
    refine bodyPost_ret (v := .tuple #[fl v5_3 0, fl v5_3 1, .int .i64 0]) ?_ rfl ⟨⟨_, rfl, v5_3, by rw [(resO_t HOB.out).1], by rw [(resO_t HOB.out).2.1, (resO_t HOB.out).2.2]; exact ⟨OwnU.us HRR.out.p, OwnU.us HRR.out.m⟩⟩, HB.out⟩
    exact results_tmp3 rfl _ _ rfl rfl rfl
end Go.Proofs.YtnkcehmgagpadaaDoor
/- The calls of the laws of package peel, as a walk wants them. Condition: the sums' tables are laid. -/
namespace Go.Proofs.YtnkcehmgagpadaaDoor
open Go.RowKit
theorem ownR_t (A A2 : List Su) (s : Nat) (v : Value) (T : List Ce) (u : Value) (B : List Su) (q : Pst) (hq : ownQ s T B = q) (hok : ownB B q = true) (hA : A = srt q.2.1) (hA2 : A2 = srt q.2.2) (w : World) (hs : s < 18446744073709551616) (hL : Laid w) (hM : T.length ≤ 1000000) (hn : B.length ≤ 1000) (hC : Cs w v T) (hU : Us w u B) (hg : goodN (T.length : Int) = true) (hb : goodU B = true) :
    Calls Tryd.prog 13 #[.agg #[.int .u64 (s : Int), v], u] w fun e w' => (∃ v, e = .returned v ∧ ∃ x, v = .tuple #[fl x 0, fl x 1, .int .i64 0] ∧ OwnR A A2 w' x) ∧ Below w.heap.size w w' := by
  refine Calls.mono (ownP_good s v T u B w hs hL hM hn hC hU hg hb) ?_
  rintro e' w' ⟨⟨v, rfl, x, h1, h2⟩, h4⟩
  rw [hq] at h1 h2
  obtain ⟨r1, r2, r3⟩ := resO_t hok
  rw [r1] at h1
  rw [r2, r3, ← hA, ← hA2] at h2
  exact ⟨⟨_, rfl, x, h1, h2⟩, h4⟩
theorem ownR_f (s : Nat) (v : Value) (T : List Ce) (u : Value) (B : List Su) (hok : ownB B (ownQ s T B) = false) (w : World) (hs : s < 18446744073709551616) (hL : Laid w) (hM : T.length ≤ 1000000) (hn : B.length ≤ 1000) (hC : Cs w v T) (hU : Us w u B) (hg : goodN (T.length : Int) = true) (hb : goodU B = true) :
    Calls Tryd.prog 13 #[.agg #[.int .u64 (s : Int), v], u] w fun e w' => (∃ v, e = .returned v ∧ ∃ x, v = .tuple #[fl x 0, fl x 1, .int .i64 10] ∧ OwnR [] [] w' x) ∧ Below w.heap.size w w' := by
  refine Calls.mono (ownP_good s v T u B w hs hL hM hn hC hU hg hb) ?_
  rintro e' w' ⟨⟨v, rfl, x, h1, h2⟩, h4⟩
  obtain ⟨r1, r2, r3⟩ := resO_f hok
  rw [r1] at h1
  rw [r2, r3] at h2
  exact ⟨⟨_, rfl, x, h1, h2⟩, h4⟩
theorem few16_us (v : Value) (l : List Int) (w : World) (hL : Laid w) (hn : l.length ≤ 1000) (hI : Ins w v l) : Calls Tryd.prog 12 #[v] w fun e w' => (∃ v, e = .returned v ∧ Us w' v (srt (l.map fewS))) ∧ Below w.heap.size w w' :=
  Calls.mono (few16_any v l w hL hn hI) fun _ _ ⟨⟨u, h1, _, h2, h3⟩, h4⟩ => ⟨⟨u, h1, h2 ▸ h3⟩, h4⟩
theorem sameT_eq (s : Nat) (u : Value) (A : List Ce) (v : Value) (B : List Ce) (h : A = B) (w : World) (hM : A.length ≤ 100000) (hA : Cs w u A) (hV : Cs w v B) : Calls Tryd.prog 17 #[.agg #[.int .u64 (s : Int), u], .agg #[.int .u64 (s : Int), v]] w fun e w' => (∃ v, e = .returned v ∧ v = .bool true) ∧ Below w.heap.size w w' := by
  subst h; exact sameT_any s u A v w (by omega) hA hV
theorem asc_few (l : List Int) : AscU (srt (l.map fewS)) := asc_srt _
theorem len_few (l : List Int) (n : Nat) (h : l.length ≤ n) : (srt (l.map fewS)).length ≤ n := by have := len_srt_le (l.map fewS); rw [List.length_map] at this; omega
theorem good_few (l : List Int) (h : l.length ≤ 512) : goodU (srt (l.map fewS)) = true := by unfold goodU; rw [decide_eq_true (len_few l 512 h), decide_eq_true (asc_few l)]; rfl
theorem tabP_good {s m : Nat} {A : List Su} (h : goodN (m : Int) = true) : goodN ((tabP s m A).length : Int) = true := by rw [tabP_len]; exact h
theorem tabP_small {s m : Nat} {A : List Su} (n : Nat) (h : m ≤ n) : (tabP s m A).length ≤ n := by rw [tabP_len]; exact h
theorem wp_lit_ints9 {o : Oper} {a : Act} {w : World} {K : Act → World → Prop} {Q : Exit → Act → World → Prop} (n : Nat) (parts : Array (Nat × Operand)) (ho : o.op = .buildSlice 38 n parts) (cs : Array Value) (h0 : n ≠ 0) (h9 : n ≤ 16777216)
    (hf : Instr.fill (fun i => some (i * 1, 1)) ((Array.range (n * 1)).map ((Value.int .i64 0).cells[· % (Value.int .i64 0).cells.size]!)) (parts.map fun (i, x) => (i, a.eval x)).toList = some cs)
    (h : K (a.put o.dst (.slice (some ⟨w.heap.size, 0, none⟩) n n)) (w.alloc (.cells cs 3))) : o.wp Tryd.prog a w K Q := by
  obtain ⟨i8x, hi8, hz8, hs8, _⟩ := info_parts (show (Tryd.prog.info? 3).map (fun i => (i.zero, i.size, i.bytes)) = some (some (.int .i64 0), 1, 8) by kernel_rfl)
  refine wp_buildSlice 38 3 n parts ho cs i8x _ Tryd.underlying38 hi8 hz8 (by rw [hs8]; omega) (by rw [hs8]; omega) ?_ h
  rw [hs8]; exact hf
theorem Ins.litE9 (w : World) (l : List Int) (n : Nat) (hn : l.length = n) : Ins (w.alloc (.cells (l.map fun n => Value.int .i64 n).toArray 3)) (.slice (some ⟨w.heap.size, 0, .none⟩) n n) l := Ins.has (Has.made' _ _ _ _ rfl) hn
theorem same_set {A : List Su} (h : goodU A = true) : (goodU A && decide (A = A)) = true := by rw [h]; simp
end Go.Proofs.YtnkcehmgagpadaaDoor
