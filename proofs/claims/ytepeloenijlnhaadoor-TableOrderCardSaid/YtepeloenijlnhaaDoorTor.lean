/- The law TableOrder: it answers true. Conditions: the sums' tables are laid; a seed of 64 bits; what comes in lies in memory. -/
import Derived.Test.YtepeloenijlnhaaDoorTa
namespace Go.Proofs.YtepeloenijlnhaaDoor
open Go.RowKit
theorem same_tv (s : Nat) {L M : List Ce} (h : L = M) : (decide (s = s) && decide (L = M)) = true := by rw [h]; simp
theorem add_nat9 (T : TypeId) (a b : Nat) (h : a + b < 9223372036854775808) (w : World) : (binOp .add T (.int .i64 (a : Int)) (.int .i64 (b : Int))).run Tryd.prog w = .ok (.int .i64 ((a + b : Nat) : Int)) w := by
  have h1 : IntKind.i64.wrap ((a : Int) + (b : Int)) = ((a + b : Nat) : Int) := by rw [IntKind.wrap_i64]; omega
  show Result.ok (Value.int .i64 (IntKind.i64.wrap ((a : Int) + (b : Int)))) w = _
  rw [h1]
theorem srt_pos {L : List Su} (h : 0 < L.length) : 0 < (srt L).length := by
  obtain ⟨x, hx⟩ := List.exists_mem_of_length_pos h
  exact List.length_pos_iff.2 (List.ne_nil_of_mem (mem_srt.2 hx))
def waitOr0 (i : Nat) : List Nat := ([[]] : List (List Nat)).getD i []
def slotsOr0 : List (Nat × Nat) := [(8, 0)]
theorem sbOr0 : slotsB slotsOr0 = true := by kernel_rfl
theorem chkOr0 : flwO slotsOr0 waitOr0 1 (regOf Tryd.f6.body 0) = true := by kernel_rfl
def waitOr1 (i : Nat) : List Nat := ([[], [0]] : List (List Nat)).getD i []
def slotsOr1 : List (Nat × Nat) := [(16, 0), (17, 1)]
theorem sbOr1 : slotsB slotsOr1 = true := by kernel_rfl
theorem chkOr1 : flwO slotsOr1 waitOr1 2 (regOf Tryd.f6.body 1) = true := by kernel_rfl
def waitOrf5 (i : Nat) : List Nat := ([[], [], [0, 1], [2], [3], [3], [], [0, 1, 2, 3, 4, 5, 6], [0, 1, 2, 3, 4, 5, 6, 7]] : List (List Nat)).getD i []
def slotsOrf5 : List (Nat × Nat) := [(35, 0), (36, 1), (37, 2), (34, 3), (38, 4), (39, 5), (9, 6), (10, 8)]
theorem sbOrf5 : slotsB slotsOrf5 = true := by kernel_rfl
theorem chkOrf5 : flwO slotsOrf5 waitOrf5 7 (regOf Tryd.f6.body 5) = true := by kernel_rfl
def waitOrf6 (i : Nat) : List Nat := ([[], [0]] : List (List Nat)).getD i []
def slotsOrf6 : List (Nat × Nat) := [(40, 0), (41, 1)]
theorem sbOrf6 : slotsB slotsOrf6 = true := by kernel_rfl
theorem chkOrf6 : flwO slotsOrf6 waitOrf6 2 (regOf Tryd.f6.body 6) = true := by kernel_rfl
def waitOrt5 (i : Nat) : List Nat := ([[], [], [0, 1], [2], [3], [3], [], [0, 1, 2, 3, 4, 5, 6], [0, 1, 2, 3, 4, 5, 6, 7]] : List (List Nat)).getD i []
def slotsOrt5 : List (Nat × Nat) := [(35, 0), (36, 1), (37, 2), (34, 3), (38, 4), (39, 5), (9, 6), (10, 8)]
theorem sbOrt5 : slotsB slotsOrt5 = true := by kernel_rfl
theorem chkOrt5 : flwO slotsOrt5 waitOrt5 7 (regOf Tryd.f6.body 5) = true := by kernel_rfl
def waitOrt6 (i : Nat) : List Nat := ([[], [0]] : List (List Nat)).getD i []
def slotsOrt6 : List (Nat × Nat) := [(40, 0), (41, 1)]
theorem sbOrt6 : slotsB slotsOrt6 = true := by kernel_rfl
theorem chkOrt6 : flwO slotsOrt6 waitOrt6 2 (regOf Tryd.f6.body 6) = true := by kernel_rfl
def waitOrt8 (i : Nat) : List Nat := ([[], [0], [1]] : List (List Nat)).getD i []
def slotsOrt8 : List (Nat × Nat) := [(42, 0), (43, 1), (11, 2)]
theorem sbOrt8 : slotsB slotsOrt8 = true := by kernel_rfl
theorem chkOrt8 : flwO slotsOrt8 waitOrt8 3 (regOf Tryd.f6.body 8) = true := by kernel_rfl
def waitOrl10 (i : Nat) : List Nat := ([[], [], [1], [0, 2]] : List (List Nat)).getD i []
def slotsOrl10 : List (Nat × Nat) := [(44, 0), (45, 1), (46, 2), (47, 3)]
theorem sbOrl10 : slotsB slotsOrl10 = true := by kernel_rfl
theorem chkOrl10 : flwO slotsOrl10 waitOrl10 4 (regOf Tryd.f6.body 10) = true := by kernel_rfl
def waitOr12 (i : Nat) : List Nat := ([[], [], [], [], [], [4], [3, 5], [2, 6], [], [8], [7, 9], [1, 10], [11], [0, 12], [0, 1, 2, 3, 4, 5, 6, 7, 8, 9, 10, 11, 12, 13]] : List (List Nat)).getD i []
def slotsOr12 : List (Nat × Nat) := [(50, 0), (51, 1), (52, 2), (53, 3), (54, 4), (55, 5), (56, 6), (57, 7), (58, 8), (59, 9), (60, 10), (61, 11), (62, 12), (63, 13)]
theorem sbOr12 : slotsB slotsOr12 = true := by kernel_rfl
theorem chkOr12 : flwB slotsOr12 waitOr12 14 (regOf Tryd.f6.body 12) = true := by kernel_rfl
def waitOre10 (i : Nat) : List Nat := ([[], [], [1], [0, 2]] : List (List Nat)).getD i []
def slotsOre10 : List (Nat × Nat) := [(44, 0), (45, 1), (46, 2), (47, 3)]
theorem sbOre10 : slotsB slotsOre10 = true := by kernel_rfl
theorem chkOre10 : flwO slotsOre10 waitOre10 4 (regOf Tryd.f6.body 10) = true := by kernel_rfl
def waitOre13 (i : Nat) : List Nat := ([[], [], [], [0, 1, 2], [3], [4], [4], [], [0, 1, 2, 3, 4, 5, 6, 7], [0, 1, 2, 3, 4, 5, 6, 7, 8]] : List (List Nat)).getD i []
def slotsOre13 : List (Nat × Nat) := [(65, 0), (66, 1), (67, 2), (68, 3), (64, 4), (69, 5), (70, 6), (13, 7), (14, 9)]
theorem sbOre13 : slotsB slotsOre13 = true := by kernel_rfl
theorem chkOre13 : flwO slotsOre13 waitOre13 8 (regOf Tryd.f6.body 13) = true := by kernel_rfl
def waitOr14 (i : Nat) : List Nat := ([[], [0], [1], [2], [2, 3], [2], [2, 5], [2, 4, 6], [2, 7], [2, 8]] : List (List Nat)).getD i []
def slotsOr14 : List (Nat × Nat) := [(71, 0), (72, 1), (73, 2), (74, 3), (75, 4), (76, 5), (77, 6), (78, 7), (79, 8), (80, 9)]
theorem sbOr14 : slotsB slotsOr14 = true := by kernel_rfl
theorem chkOr14 : flwB slotsOr14 waitOr14 10 (regOf Tryd.f6.body 14) = true := by kernel_rfl
def waitOrm17 (i : Nat) : List Nat := ([[], [], [1], [0, 2]] : List (List Nat)).getD i []
def slotsOrm17 : List (Nat × Nat) := [(81, 0), (82, 1), (83, 2), (84, 3)]
theorem sbOrm17 : slotsB slotsOrm17 = true := by kernel_rfl
theorem chkOrm17 : flwO slotsOrm17 waitOrm17 4 (regOf Tryd.f6.body 17) = true := by kernel_rfl
def waitOr19 (i : Nat) : List Nat := ([[], [], [], [1, 2], [3], [0, 4], [0, 1, 2, 3, 4, 5]] : List (List Nat)).getD i []
def slotsOr19 : List (Nat × Nat) := [(87, 0), (88, 1), (89, 2), (90, 3), (91, 4), (92, 5)]
theorem sbOr19 : slotsB slotsOr19 = true := by kernel_rfl
theorem chkOr19 : flwB slotsOr19 waitOr19 6 (regOf Tryd.f6.body 19) = true := by kernel_rfl
def waitOrn17 (i : Nat) : List Nat := ([[], [], [1], [0, 2]] : List (List Nat)).getD i []
def slotsOrn17 : List (Nat × Nat) := [(81, 0), (82, 1), (83, 2), (84, 3)]
theorem sbOrn17 : slotsB slotsOrn17 = true := by kernel_rfl
theorem chkOrn17 : flwO slotsOrn17 waitOrn17 4 (regOf Tryd.f6.body 17) = true := by kernel_rfl
def waitOrn20 (i : Nat) : List Nat := ([[], [0], [1]] : List (List Nat)).getD i []
def slotsOrn20 : List (Nat × Nat) := [(93, 0), (94, 1), (8, 2)]
theorem sbOrn20 : slotsB slotsOrn20 = true := by kernel_rfl
theorem chkOrn20 : flwO slotsOrn20 waitOrn20 3 (regOf Tryd.f6.body 20) = true := by kernel_rfl
set_option maxHeartbeats 16000000 in
set_option maxRecDepth 100000 in
theorem tableOrder_b (s : Nat) (n : Int) (l : List Int) (turn : Int) (q : Option Addr) (cp : Nat) (w w0 : World) (hB : Below w.heap.size w w0) (hs : s < 18446744073709551616) (ht : turn ≤ 9223372036854775807) (hL : Laid w) (ha : Sees w w.heap.size q (l.map fun n => Value.int .i64 n)) : Calls Tryd.prog 6 #[.int .u64 (s : Int), .int .i64 n, .slice q l.length cp, .int .i64 turn] w0 fun e w' => e = .returned (.bool true) ∧ Below w.heap.size w w' := by
  have HB := Lib.hid hB
  clear hB
  have HL := Lib.hid hL
  have HSZ := Lib.hid hL.size
  have HSD := Lib.hid hs
  have HSA : Hid (Ins w (.slice q l.length cp) l) := Lib.hid ⟨q, cp, rfl, ha⟩
  clear hL hs ha
  go_enter Tryd.func6, Tryd.ntmps6
  go_upto_region 0 with fail
  refine wp_act (fun a0 ha0 => ?_)
  have zsz : a0.tmps.size = 95 := by rw [ha0]; rfl
  refine wp_region_flwo (E := Flz) [] slotsOr0 waitOr0 [Fct.val Flz 0 (.bool false)] (fun w' => Below w0.heap.size w0 w') _ 1 0 chkOr0 (by kernel_rfl) (by kernel_rfl) (by kernel_rfl) (by decide) (Below.refl _ _) ?_ ?_
  · refine lt_s (lt_0) ?_
    · intro f w1 hS hf
      generalize hA : putAll _ _ f = aA
      exact flw_val rfl rfl (.bool false) (ex_assign _ rfl rfl) hS (Flz.refl _) (updF_self _ _ _)
  intro f u0 hS hf hap
  have h0 : f 0 = .bool false := hf 0 (by decide)
  clear hf hap
  clear zsz
  subst ha0
  simp only [slotsOr0, putAll, h0, Act.put, List.setIfInBounds_toArray, List.set_cons_zero, List.set_cons_succ]
  clear h0
  refine tl_nil ?_
  replace HB := Lib.hid (HB.out.trans (hS.mono HB.out.size))
  clear hS
  go_upto_region 1 with fail
  refine wp_act (fun a0 ha0 => ?_)
  have zsz : a0.tmps.size = 95 := by rw [ha0]; rfl
  refine wp_region_flwo (E := Flz) [] slotsOr1 waitOr1 [Fct.val Flz 0 (.bool true), Fct.val Flz 1 (.bool false)] (fun w' => Below u0.heap.size u0 w') _ 2 0 chkOr1 (by kernel_rfl) (by kernel_rfl) (by kernel_rfl) (by decide) (Below.refl _ _) ?_ ?_
  · refine lt_s (lt_s (lt_0) ?_) ?_
    · intro f w1 hS hf
      generalize hA : putAll _ _ f = aA
      exact flw_call rfl rfl 7 #[] _ rfl #[] (by kernel_rfl) (fun w => by kernel_rfl) (fun v _ => v = .bool true) (awake15_any w1 (HL.out.keep (HB.out.trans (hS.mono HB.out.size)) HSZ.out)) (fun v w' hr hb => ⟨hS.trans (hb.mono hS.size), Flz.of hb, (updF_self _ _ _).trans hr⟩)
    · intro f w1 hS hf
      generalize hA : putAll _ _ f = aA
      have h16 : f 0 = .bool true := hf 0 (by decide)
      have r16 : aA.eval (.tmp 16) = .bool true := by rw [← hA]; exact putAll_at f 16 0 slotsOr1 a0 sbOr1 (by kernel_rfl) zsz rfl h16
      exact flw_val rfl rfl (.bool false) (ex_not _ (.tmp 16) rfl r16) hS (Flz.refl _) (updF_self _ _ _)
  intro f u1 hS hf hap
  have h0 : f 0 = .bool true := hf 0 (by decide)
  have h1 : f 1 = .bool false := hf 1 (by decide)
  clear hf hap
  clear zsz
  subst ha0
  simp only [slotsOr1, putAll, h0, h1, Act.put, List.setIfInBounds_toArray, List.set_cons_zero, List.set_cons_succ]
  clear h0 h1
  refine tl_nil ?_
  replace HB := Lib.hid (HB.out.trans (hS.mono HB.out.size))
  clear hS
  by_cases h1 : l.length < 1
  · have k1 : (l.length : Int) < 1 := by omega
    go_wp2_with fail
    go_ret
    exact ⟨rfl, HB.out⟩
  have k1 : ¬ (l.length : Int) < 1 := by omega
  by_cases h2 : 30 < l.length
  · have k2 : (30 : Int) < (l.length : Int) := by omega
    go_wp2_with fail
    go_ret
    exact ⟨rfl, HB.out⟩
  have k2 : ¬ (30 : Int) < (l.length : Int) := by omega
  by_cases h3 : 200 < n
  · go_wp2_with fail
    go_ret
    exact ⟨rfl, HB.out⟩
  by_cases h4 : turn < 0
  · go_wp2_with fail
    go_ret
    exact ⟨rfl, HB.out⟩
  obtain ⟨t, rfl⟩ : ∃ t : Nat, turn = (t : Int) := ⟨turn.toNat, by omega⟩
  have HLA : Hid (l.length ≤ 30) := Lib.hid (by omega)
  have HLP : Hid (0 < l.length) := Lib.hid (by omega)
  have HT : Hid ((t : Int) ≤ 9223372036854775807) := Lib.hid ht
  clear h1 h2
  obtain ⟨gd, hgd⟩ : ∃ gd, goodN n = gd := ⟨_, rfl⟩
  have HGD := Lib.hid hgd
  clear hgd
  cases gd
  · go_upto_region 5 with fail
    refine wp_act (fun a0 ha0 => ?_)
    have zsz : a0.tmps.size = 95 := by rw [ha0]; rfl
    have z0 : a0.eval (.tmp 0) = .int .u64 (s : Int) := by rw [ha0]; rfl
    have z1 : a0.eval (.tmp 1) = .int .i64 n := by rw [ha0]; rfl
    refine wp_region_flwo (E := Flz) [] slotsOrf5 waitOrf5 [Fct.val Flz 0 (.int .u64 (s : Int)), Fct.val Flz 1 (.int .i64 n), Fct.obj 2 (fun v w => ∃ zz, v = .tuple #[.agg #[.int .u64 0, zz], .int .i64 1] ∧ Cs w zz (([] : List Ce))) (fun _ _ _ ⟨zz, a, b⟩ he => ⟨zz, a, b.flz he⟩), Fct.obj 3 (fun v w => ∃ zz, v = .tuple #[.agg #[.int .u64 0, zz], .int .i64 1] ∧ Cs w zz (([] : List Ce))) (fun _ _ _ ⟨zz, a, b⟩ he => ⟨zz, a, b.flz he⟩), Fct.obj 4 (fun v w => ∃ zz, v = .agg #[.int .u64 0, zz] ∧ Cs w zz (([] : List Ce))) (fun _ _ _ ⟨zz, a, b⟩ he => ⟨zz, a, b.flz he⟩), Fct.val Flz 5 (.int .i64 1), Fct.obj 6 (fun v w => ∃ g, v = .pointer (some ⟨g, 0, none⟩) ∧ u1.heap.size ≤ g ∧ Has w g 26 ([.int .u64 0, .slice none 0 0])) (fun _ _ _ ⟨g, a, b, c⟩ he => ⟨g, a, b, c.flz he (by decide)⟩)] (fun w' => Below u1.heap.size u1 w') _ 7 2 chkOrf5 (by kernel_rfl) (by kernel_rfl) (by kernel_rfl) (by decide) (Below.refl _ _) ?_ ?_
    · refine lt_s (lt_s (lt_s (lt_s (lt_s (lt_s (lt_s (lt_0) ?_) ?_) ?_) ?_) ?_) ?_) ?_
      · intro f w1 hS hf
        generalize hA : putAll _ _ f = aA
        have r0 : aA.eval (.tmp 0) = .int .u64 (s : Int) := by rw [← hA]; exact putAll_off f 0 slotsOrf5 a0 (by kernel_rfl) z0
        exact flw_val rfl rfl (.int .u64 (s : Int)) (ex_move (.tmp 0) rfl r0) hS (Flz.refl _) (updF_self _ _ _)
      · intro f w1 hS hf
        generalize hA : putAll _ _ f = aA
        have r1 : aA.eval (.tmp 1) = .int .i64 n := by rw [← hA]; exact putAll_off f 1 slotsOrf5 a0 (by kernel_rfl) z1
        exact flw_val rfl rfl (.int .i64 n) (ex_move (.tmp 1) rfl r1) hS (Flz.refl _) (updF_self _ _ _)
      · intro f w1 hS hf
        generalize hA : putAll _ _ f = aA
        have h35 : f 0 = .int .u64 (s : Int) := hf 0 (by decide)
        have r35 : aA.eval (.tmp 35) = .int .u64 (s : Int) := by rw [← hA]; exact putAll_at f 35 0 slotsOrf5 a0 sbOrf5 (by kernel_rfl) zsz rfl h35
        have h36 : f 1 = .int .i64 n := hf 1 (by decide)
        have r36 : aA.eval (.tmp 36) = .int .i64 n := by rw [← hA]; exact putAll_at f 36 1 slotsOrf5 a0 sbOrf5 (by kernel_rfl) zsz rfl h36
        exact flw_call rfl rfl 8 #[(.tmp 35), (.tmp 36)] _ rfl #[.int .u64 (s : Int), .int .i64 n] (by simp only [List.map_toArray, List.map_cons, List.map_nil, r35, r36]) (fun w => by kernel_rfl) (fun v w' => ∃ zz, v = .tuple #[.agg #[.int .u64 0, zz], .int .i64 1] ∧ Cs w' zz (([] : List Ce))) (newC_f s n HGD.out w1) (fun v w' hr hb => ⟨hS.trans (hb.mono hS.size), Flz.of hb, by obtain ⟨zz, a, b⟩ := hr; exact ⟨zz, (updF_self _ _ _).trans a, b⟩⟩)
      · intro f w1 hS hf
        generalize hA : putAll _ _ f = aA
        obtain ⟨x37, hx37, hr37⟩ := hf 2 (by decide)
        have e37 : aA.eval (.tmp 37) = .tuple #[.agg #[.int .u64 0, x37], .int .i64 1] := by rw [← hA]; exact putAll_at f 37 2 slotsOrf5 a0 sbOrf5 (by kernel_rfl) zsz rfl hx37
        exact flw_val rfl rfl (.tuple #[.agg #[.int .u64 0, x37], .int .i64 1]) (ex_move (.tmp 37) rfl e37) hS (Flz.refl _) ⟨x37, updF_self _ _ _, hr37⟩
      · intro f w1 hS hf
        generalize hA : putAll _ _ f = aA
        obtain ⟨x34, hx34, hr34⟩ := hf 3 (by decide)
        have e34 : aA.eval (.tmp 34) = .tuple #[.agg #[.int .u64 0, x34], .int .i64 1] := by rw [← hA]; exact putAll_at f 34 3 slotsOrf5 a0 sbOrf5 (by kernel_rfl) zsz rfl hx34
        exact flw_val rfl rfl (.agg #[.int .u64 0, x34]) (ex_extract (.tmp 34) 0 rfl e34 rfl) hS (Flz.refl _) ⟨x34, updF_self _ _ _, hr34⟩
      · intro f w1 hS hf
        generalize hA : putAll _ _ f = aA
        obtain ⟨x34, hx34, hr34⟩ := hf 3 (by decide)
        have e34 : aA.eval (.tmp 34) = .tuple #[.agg #[.int .u64 0, x34], .int .i64 1] := by rw [← hA]; exact putAll_at f 34 3 slotsOrf5 a0 sbOrf5 (by kernel_rfl) zsz rfl hx34
        exact flw_val rfl rfl (.int .i64 1) (ex_extract (.tmp 34) 1 rfl e34 rfl) hS (Flz.refl _) (updF_self _ _ _)
      · intro f w1 hS hf
        generalize hA : putAll _ _ f = aA
        exact flw_wp rfl rfl (fun K hK => wp_alloc_row 26 rfl (.agg #[.int .u64 0, .slice none 0 0]) (fun w => by kernel_rfl) (hK _ _ (hS.alloc hS.size _) (Flz.al _ _) ⟨_, updF_self _ _ _, hS.size, Has.made' _ _ _ _ rfl⟩))
    intro f x5 hS hf hap
    have h0 : f 0 = .int .u64 (s : Int) := hf 0 (by decide)
    have h1 : f 1 = .int .i64 n := hf 1 (by decide)
    obtain ⟨v5_2, h2, -⟩ := hf 2 (by decide)
    obtain ⟨v5_3, h3, -⟩ := hf 3 (by decide)
    obtain ⟨v5_4, h4, hu4⟩ := hf 4 (by decide)
    have HU5_4 := Lib.hid hu4
    clear hu4
    have h5 : f 5 = .int .i64 1 := hf 5 (by decide)
    obtain ⟨b5_6, h6, hgb6, hhb6⟩ := hf 6 (by decide)
    clear hf hap
    clear zsz z0 z1
    subst ha0
    simp only [slotsOrf5, putAll, h0, h1, h2, h3, h4, h5, h6, Act.put, List.setIfInBounds_toArray, List.set_cons_zero, List.set_cons_succ]
    clear h0 h1 h2 h3 h4 h5 h6
    refine tl_store rfl (by kernel_rfl) 26 (.tmp 9) (.tmp 38) rfl b5_6 ([.int .u64 0, v5_4]) _ rfl rfl _ hhb6 (by kernel_rfl) rfl (tb_ones _ HU5_4.out.one) ?_
    intro u5 hp6 hbl hot
    replace hS := hS.trans (hbl _ hgb6)
    replace HU5_4 := Lib.hid (HU5_4.out.hotb hhb6 ⟨_, _, _, rfl⟩ (by decide) (hbl 0 (Nat.zero_le _)).size hot)
    clear hbl hot hhb6
    try simp only [Act.put]
    refine tl_pure rfl (by kernel_rfl) (.int .i64 1) (ex_assign (.tmp 39) rfl rfl) ?_
    try simp only [Act.put, List.setIfInBounds_toArray, List.set_cons_zero, List.set_cons_succ]
    refine tl_nil ?_
    have HBW := Lib.hid HB.out.size
    replace HB := Lib.hid (HB.out.trans (hS.mono HB.out.size))
    clear hS
    have HGb5_6 : Hid (w.heap.size ≤ b5_6) := Lib.hid (Nat.le_trans HBW.out hgb6)
    have HX_b5_6 : Hid (Has u5 b5_6 26 ([.int .u64 0, v5_4])) := Lib.hid hp6
    clear hp6 hgb6
    clear HBW
    go_upto_region 6 with fail
    refine wp_act (fun a0 ha0 => ?_)
    have zsz : a0.tmps.size = 95 := by rw [ha0]; rfl
    have z10 : a0.eval (.tmp 10) = .int .i64 1 := by rw [ha0]; rfl
    refine wp_region_flwo (E := Flz) [] slotsOrf6 waitOrf6 [Fct.val Flz 0 (.int .i64 1), Fct.val Flz 1 (.bool true)] (fun w' => Below u5.heap.size u5 w') _ 2 0 chkOrf6 (by kernel_rfl) (by kernel_rfl) (by kernel_rfl) (by decide) (Below.refl _ _) ?_ ?_
    · refine lt_s (lt_s (lt_0) ?_) ?_
      · intro f w1 hS hf
        generalize hA : putAll _ _ f = aA
        have r10 : aA.eval (.tmp 10) = .int .i64 1 := by rw [← hA]; exact putAll_off f 10 slotsOrf6 a0 (by kernel_rfl) z10
        exact flw_val rfl rfl (.int .i64 1) (ex_move (.tmp 10) rfl r10) hS (Flz.refl _) (updF_self _ _ _)
      · intro f w1 hS hf
        generalize hA : putAll _ _ f = aA
        have h40 : f 0 = .int .i64 1 := hf 0 (by decide)
        have r40 : aA.eval (.tmp 40) = .int .i64 1 := by rw [← hA]; exact putAll_at f 40 0 slotsOrf6 a0 sbOrf6 (by kernel_rfl) zsz rfl h40
        exact flw_val rfl rfl (.bool true) (Eq.trans (ex_int .neq _ _ (.tmp 40) _ rfl .i64 1 0 r40 rfl (.bool ((1 : Int) != (0 : Int))) (fun _ => rfl)) (by rw [(by decide : ((1 : Int) != (0 : Int)) = true)])) hS (Flz.refl _) (updF_self _ _ _)
    intro f u6 hS hf hap
    have h0 : f 0 = .int .i64 1 := hf 0 (by decide)
    have h1 : f 1 = .bool true := hf 1 (by decide)
    clear hf hap
    clear zsz z10
    subst ha0
    simp only [slotsOrf6, putAll, h0, h1, Act.put, List.setIfInBounds_toArray, List.set_cons_zero, List.set_cons_succ]
    clear h0 h1
    refine tl_nil ?_
    replace HX_b5_6 := Lib.hid (HX_b5_6.out.keepB hS)
    replace HU5_4 := Lib.hid (HU5_4.out.keep hS)
    replace HB := Lib.hid (HB.out.trans (hS.mono HB.out.size))
    clear hS
    go_wp2_with fail
    go_ret
    exact ⟨rfl, HB.out⟩
  · obtain ⟨m, hm, hm3, hm4⟩ := good_int HGD.out
    have HM := Lib.hid hm
    have HM4 := Lib.hid hm4
    have HGM : Hid (goodN (m : Int) = true) := Lib.hid (by rw [← hm]; exact HGD.out)
    clear hm hm3 hm4
    go_upto_region 5 with fail
    refine wp_act (fun a0 ha0 => ?_)
    have zsz : a0.tmps.size = 95 := by rw [ha0]; rfl
    have z0 : a0.eval (.tmp 0) = .int .u64 (s : Int) := by rw [ha0]; rfl
    have z1 : a0.eval (.tmp 1) = .int .i64 n := by rw [ha0]; rfl
    refine wp_region_flwo (E := Flz) [] slotsOrt5 waitOrt5 [Fct.val Flz 0 (.int .u64 (s : Int)), Fct.val Flz 1 (.int .i64 n), Fct.obj 2 (fun v w => ∃ zz, v = .tuple #[.agg #[.int .u64 (s : Int), zz], .int .i64 0] ∧ Cs w zz (List.replicate m zC)) (fun _ _ _ ⟨zz, a, b⟩ he => ⟨zz, a, b.flz he⟩), Fct.obj 3 (fun v w => ∃ zz, v = .tuple #[.agg #[.int .u64 (s : Int), zz], .int .i64 0] ∧ Cs w zz (List.replicate m zC)) (fun _ _ _ ⟨zz, a, b⟩ he => ⟨zz, a, b.flz he⟩), Fct.obj 4 (fun v w => ∃ zz, v = .agg #[.int .u64 (s : Int), zz] ∧ Cs w zz (List.replicate m zC)) (fun _ _ _ ⟨zz, a, b⟩ he => ⟨zz, a, b.flz he⟩), Fct.val Flz 5 (.int .i64 0), Fct.obj 6 (fun v w => ∃ g, v = .pointer (some ⟨g, 0, none⟩) ∧ u1.heap.size ≤ g ∧ Has w g 26 ([.int .u64 0, .slice none 0 0])) (fun _ _ _ ⟨g, a, b, c⟩ he => ⟨g, a, b, c.flz he (by decide)⟩)] (fun w' => Below u1.heap.size u1 w') _ 7 2 chkOrt5 (by kernel_rfl) (by kernel_rfl) (by kernel_rfl) (by decide) (Below.refl _ _) ?_ ?_
    · refine lt_s (lt_s (lt_s (lt_s (lt_s (lt_s (lt_s (lt_0) ?_) ?_) ?_) ?_) ?_) ?_) ?_
      · intro f w1 hS hf
        generalize hA : putAll _ _ f = aA
        have r0 : aA.eval (.tmp 0) = .int .u64 (s : Int) := by rw [← hA]; exact putAll_off f 0 slotsOrt5 a0 (by kernel_rfl) z0
        exact flw_val rfl rfl (.int .u64 (s : Int)) (ex_move (.tmp 0) rfl r0) hS (Flz.refl _) (updF_self _ _ _)
      · intro f w1 hS hf
        generalize hA : putAll _ _ f = aA
        have r1 : aA.eval (.tmp 1) = .int .i64 n := by rw [← hA]; exact putAll_off f 1 slotsOrt5 a0 (by kernel_rfl) z1
        exact flw_val rfl rfl (.int .i64 n) (ex_move (.tmp 1) rfl r1) hS (Flz.refl _) (updF_self _ _ _)
      · intro f w1 hS hf
        generalize hA : putAll _ _ f = aA
        have h35 : f 0 = .int .u64 (s : Int) := hf 0 (by decide)
        have r35 : aA.eval (.tmp 35) = .int .u64 (s : Int) := by rw [← hA]; exact putAll_at f 35 0 slotsOrt5 a0 sbOrt5 (by kernel_rfl) zsz rfl h35
        have h36 : f 1 = .int .i64 n := hf 1 (by decide)
        have r36 : aA.eval (.tmp 36) = .int .i64 n := by rw [← hA]; exact putAll_at f 36 1 slotsOrt5 a0 sbOrt5 (by kernel_rfl) zsz rfl h36
        exact flw_call rfl rfl 8 #[(.tmp 35), (.tmp 36)] _ rfl #[.int .u64 (s : Int), .int .i64 n] (by simp only [List.map_toArray, List.map_cons, List.map_nil, r35, r36]) (fun w => by kernel_rfl) (fun v w' => ∃ zz, v = .tuple #[.agg #[.int .u64 (s : Int), zz], .int .i64 0] ∧ Cs w' zz (List.replicate m zC)) (newC_t s n m HGD.out HM.out w1) (fun v w' hr hb => ⟨hS.trans (hb.mono hS.size), Flz.of hb, by obtain ⟨zz, a, b⟩ := hr; exact ⟨zz, (updF_self _ _ _).trans a, b⟩⟩)
      · intro f w1 hS hf
        generalize hA : putAll _ _ f = aA
        obtain ⟨x37, hx37, hr37⟩ := hf 2 (by decide)
        have e37 : aA.eval (.tmp 37) = .tuple #[.agg #[.int .u64 (s : Int), x37], .int .i64 0] := by rw [← hA]; exact putAll_at f 37 2 slotsOrt5 a0 sbOrt5 (by kernel_rfl) zsz rfl hx37
        exact flw_val rfl rfl (.tuple #[.agg #[.int .u64 (s : Int), x37], .int .i64 0]) (ex_move (.tmp 37) rfl e37) hS (Flz.refl _) ⟨x37, updF_self _ _ _, hr37⟩
      · intro f w1 hS hf
        generalize hA : putAll _ _ f = aA
        obtain ⟨x34, hx34, hr34⟩ := hf 3 (by decide)
        have e34 : aA.eval (.tmp 34) = .tuple #[.agg #[.int .u64 (s : Int), x34], .int .i64 0] := by rw [← hA]; exact putAll_at f 34 3 slotsOrt5 a0 sbOrt5 (by kernel_rfl) zsz rfl hx34
        exact flw_val rfl rfl (.agg #[.int .u64 (s : Int), x34]) (ex_extract (.tmp 34) 0 rfl e34 rfl) hS (Flz.refl _) ⟨x34, updF_self _ _ _, hr34⟩
      · intro f w1 hS hf
        generalize hA : putAll _ _ f = aA
        obtain ⟨x34, hx34, hr34⟩ := hf 3 (by decide)
        have e34 : aA.eval (.tmp 34) = .tuple #[.agg #[.int .u64 (s : Int), x34], .int .i64 0] := by rw [← hA]; exact putAll_at f 34 3 slotsOrt5 a0 sbOrt5 (by kernel_rfl) zsz rfl hx34
        exact flw_val rfl rfl (.int .i64 0) (ex_extract (.tmp 34) 1 rfl e34 rfl) hS (Flz.refl _) (updF_self _ _ _)
      · intro f w1 hS hf
        generalize hA : putAll _ _ f = aA
        exact flw_wp rfl rfl (fun K hK => wp_alloc_row 26 rfl (.agg #[.int .u64 0, .slice none 0 0]) (fun w => by kernel_rfl) (hK _ _ (hS.alloc hS.size _) (Flz.al _ _) ⟨_, updF_self _ _ _, hS.size, Has.made' _ _ _ _ rfl⟩))
    intro f x5 hS hf hap
    have h0 : f 0 = .int .u64 (s : Int) := hf 0 (by decide)
    have h1 : f 1 = .int .i64 n := hf 1 (by decide)
    obtain ⟨v5_2, h2, -⟩ := hf 2 (by decide)
    obtain ⟨v5_3, h3, -⟩ := hf 3 (by decide)
    obtain ⟨v5_4, h4, hu4⟩ := hf 4 (by decide)
    have HU5_4 := Lib.hid hu4
    clear hu4
    have h5 : f 5 = .int .i64 0 := hf 5 (by decide)
    obtain ⟨b5_6, h6, hgb6, hhb6⟩ := hf 6 (by decide)
    clear hf hap
    clear zsz z0 z1
    subst ha0
    simp only [slotsOrt5, putAll, h0, h1, h2, h3, h4, h5, h6, Act.put, List.setIfInBounds_toArray, List.set_cons_zero, List.set_cons_succ]
    clear h0 h1 h2 h3 h4 h5 h6
    refine tl_store rfl (by kernel_rfl) 26 (.tmp 9) (.tmp 38) rfl b5_6 ([.int .u64 (s : Int), v5_4]) _ rfl rfl _ hhb6 (by kernel_rfl) rfl (tb_ones _ HU5_4.out.one) ?_
    intro u5 hp6 hbl hot
    replace hS := hS.trans (hbl _ hgb6)
    replace HU5_4 := Lib.hid (HU5_4.out.hotb hhb6 ⟨_, _, _, rfl⟩ (by decide) (hbl 0 (Nat.zero_le _)).size hot)
    clear hbl hot hhb6
    try simp only [Act.put]
    refine tl_pure rfl (by kernel_rfl) (.int .i64 0) (ex_assign (.tmp 39) rfl rfl) ?_
    try simp only [Act.put, List.setIfInBounds_toArray, List.set_cons_zero, List.set_cons_succ]
    refine tl_nil ?_
    have HBW := Lib.hid HB.out.size
    replace HB := Lib.hid (HB.out.trans (hS.mono HB.out.size))
    clear hS
    have HGb5_6 : Hid (w.heap.size ≤ b5_6) := Lib.hid (Nat.le_trans HBW.out hgb6)
    have HX_b5_6 : Hid (Has u5 b5_6 26 ([.int .u64 (s : Int), v5_4])) := Lib.hid hp6
    clear hp6 hgb6
    clear HBW
    go_upto_region 6 with fail
    refine wp_act (fun a0 ha0 => ?_)
    have zsz : a0.tmps.size = 95 := by rw [ha0]; rfl
    have z10 : a0.eval (.tmp 10) = .int .i64 0 := by rw [ha0]; rfl
    refine wp_region_flwo (E := Flz) [] slotsOrt6 waitOrt6 [Fct.val Flz 0 (.int .i64 0), Fct.val Flz 1 (.bool false)] (fun w' => Below u5.heap.size u5 w') _ 2 0 chkOrt6 (by kernel_rfl) (by kernel_rfl) (by kernel_rfl) (by decide) (Below.refl _ _) ?_ ?_
    · refine lt_s (lt_s (lt_0) ?_) ?_
      · intro f w1 hS hf
        generalize hA : putAll _ _ f = aA
        have r10 : aA.eval (.tmp 10) = .int .i64 0 := by rw [← hA]; exact putAll_off f 10 slotsOrt6 a0 (by kernel_rfl) z10
        exact flw_val rfl rfl (.int .i64 0) (ex_move (.tmp 10) rfl r10) hS (Flz.refl _) (updF_self _ _ _)
      · intro f w1 hS hf
        generalize hA : putAll _ _ f = aA
        have h40 : f 0 = .int .i64 0 := hf 0 (by decide)
        have r40 : aA.eval (.tmp 40) = .int .i64 0 := by rw [← hA]; exact putAll_at f 40 0 slotsOrt6 a0 sbOrt6 (by kernel_rfl) zsz rfl h40
        exact flw_val rfl rfl (.bool false) (Eq.trans (ex_int .neq _ _ (.tmp 40) _ rfl .i64 0 0 r40 rfl (.bool ((0 : Int) != (0 : Int))) (fun _ => rfl)) (by rw [(by decide : ((0 : Int) != (0 : Int)) = false)])) hS (Flz.refl _) (updF_self _ _ _)
    intro f u6 hS hf hap
    have h0 : f 0 = .int .i64 0 := hf 0 (by decide)
    have h1 : f 1 = .bool false := hf 1 (by decide)
    clear hf hap
    clear zsz z10
    subst ha0
    simp only [slotsOrt6, putAll, h0, h1, Act.put, List.setIfInBounds_toArray, List.set_cons_zero, List.set_cons_succ]
    clear h0 h1
    refine tl_nil ?_
    replace HX_b5_6 := Lib.hid (HX_b5_6.out.keepB hS)
    replace HU5_4 := Lib.hid (HU5_4.out.keep hS)
    replace HB := Lib.hid (HB.out.trans (hS.mono HB.out.size))
    clear hS
    go_upto_region 8 with fail
    refine wp_act (fun a0 ha0 => ?_)
    have zsz : a0.tmps.size = 95 := by rw [ha0]; rfl
    have z2 : a0.eval (.tmp 2) = .slice q l.length cp := by rw [ha0]; rfl
    refine wp_region_flwo (E := Flz) [] slotsOrt8 waitOrt8 [Fct.val Flz 0 (.slice q l.length cp), Fct.obj 1 (fun v w => Us w v (srt ((l).map fewS))) (fun _ _ _ h he => h.flz he), (⟨([2, 1], fun f _ => f 2 = f 1), fun f f' _ _ h _ hd => (show f' 2 = f' 1 by rw [hd 2 (by simp), hd 1 (by simp)]; exact h)⟩ : Fct Flz)] (fun w' => Below u6.heap.size u6 w') _ 3 0 chkOrt8 (by kernel_rfl) (by kernel_rfl) (by kernel_rfl) (by decide) (Below.refl _ _) ?_ ?_
    · refine lt_s (lt_s (lt_s (lt_0) ?_) ?_) ?_
      · intro f w1 hS hf
        generalize hA : putAll _ _ f = aA
        have r2 : aA.eval (.tmp 2) = .slice q l.length cp := by rw [← hA]; exact putAll_off f 2 slotsOrt8 a0 (by kernel_rfl) z2
        exact flw_val rfl rfl (.slice q l.length cp) (ex_move (.tmp 2) rfl r2) hS (Flz.refl _) (updF_self _ _ _)
      · intro f w1 hS hf
        generalize hA : putAll _ _ f = aA
        have h42 : f 0 = .slice q l.length cp := hf 0 (by decide)
        have r42 : aA.eval (.tmp 42) = .slice q l.length cp := by rw [← hA]; exact putAll_at f 42 0 slotsOrt8 a0 sbOrt8 (by kernel_rfl) zsz rfl h42
        exact flw_call rfl rfl 25 #[(.tmp 42)] _ rfl #[.slice q l.length cp] (by simp only [List.map_toArray, List.map_cons, List.map_nil, r42]) (fun w => by kernel_rfl) (fun v w' => Us w' v (srt ((l).map fewS))) (few15_us _ (l) w1 (HL.out.keep (HB.out.trans (hS.mono HB.out.size)) HSZ.out) (Nat.le_trans HLA.out (by decide)) (HSA.out.keep (HB.out.trans (hS.mono HB.out.size)))) (fun v w' hr hb => ⟨hS.trans (hb.mono hS.size), Flz.of hb, (show Us w' (updF f 1 v 1) (srt ((l).map fewS)) by rw [updF_self]; exact hr)⟩)
      · intro f w1 hS hf
        generalize hA : putAll _ _ f = aA
        have hu1 : Us w1 (f 1) (srt ((l).map fewS)) := (hf 1 (by decide))
        have e43 : aA.eval (.tmp 43) = f 1 := by rw [← hA]; exact putAll_at f 43 1 slotsOrt8 a0 sbOrt8 (by kernel_rfl) zsz rfl rfl
        exact flw_val rfl rfl (f 1) (ex_assign (.tmp 43) rfl e43) hS (Flz.refl _) (show updF f 2 (f 1) 2 = updF f 2 (f 1) 1 by rw [updF_self, updF_ne f _ (by decide)])
    intro f u8 hS hf hap
    have h0 : f 0 = .slice q l.length cp := hf 0 (by decide)
    obtain ⟨v8_1, h1, hu1⟩ : ∃ v, f 1 = v ∧ Us u8 v (srt ((l).map fewS)) := ⟨_, rfl, (hf 1 (by decide))⟩
    have HU8_1 := Lib.hid hu1
    clear hu1
    have h2 : f 2 = v8_1 := Eq.trans (hf 2 (by decide)) h1
    clear hf hap
    clear zsz z2
    subst ha0
    simp only [slotsOrt8, putAll, h0, h1, h2, Act.put, List.setIfInBounds_toArray, List.set_cons_zero, List.set_cons_succ]
    clear h0 h1 h2
    refine tl_nil ?_
    replace HX_b5_6 := Lib.hid (HX_b5_6.out.keepB hS)
    replace HU5_4 := Lib.hid (HU5_4.out.keep hS)
    replace HB := Lib.hid (HB.out.trans (hS.mono HB.out.size))
    clear hS
    have HASC : Hid (AscU (srt ((l).map fewS))) := Lib.hid (asc_few _)
    have HLS : Hid ((srt ((l).map fewS)).length ≤ 10000) := Lib.hid (len_few _ (Nat.le_trans HLA.out (by decide)))
    have hSP : 0 < (srt ((l).map fewS)).length := srt_pos (by rw [List.length_map]; exact HLP.out)
    have hSN : (srt ((l).map fewS)).length ≤ 1000000 := Nat.le_trans HLS.out (by decide)
    generalize srt ((l).map fewS) = S at *
    obtain ⟨r, hr⟩ : ∃ r, r = t % S.length := ⟨_, rfl⟩
    have hrn : r < S.length := by rw [hr]; exact Nat.mod_lt _ (by omega)
    have HR := Lib.hid hr
    clear hr
    go_wp2_with fail
    go_loopw [12] (fun vi wr => ∃ k : Nat, k ≤ S.length ∧ vi = .int .i64 k ∧ (∃ z, Has wr b5_6 26 [.int .u64 (s : Int), z] ∧ Cs wr z (layA putC s (rotS S r k) (List.replicate m zC))) ∧ Us wr v8_1 S ∧ Below w.heap.size w wr) (fun vi _ => S.length - (intOf vi).toNat)
    case atStart => exact ⟨0, by omega, rfl, ⟨_, HX_b5_6.out, HU5_4.out⟩, HU8_1.out, HB.out⟩
    case round =>
      clear HX_b5_6 HU5_4 HU8_1 HB
      rename_i wr
      obtain ⟨k, hk, rfl, ⟨vz, hx, hz⟩, hv, hB⟩ := hrel
      have HX := Lib.hid hx
      have HZ := Lib.hid hz
      have HV := Lib.hid hv
      have HB := Lib.hid hB
      clear hx hz hv hB
      by_cases hlt : k < S.length
      · have HLT : Hid (decide (((k : Int)) < (((S).length : Int))) = true) := Lib.hid (decide_eq_true (by omega))
        obtain ⟨p, hp⟩ : ∃ p, p = (k + r) % S.length := ⟨_, rfl⟩
        have hpn : p < S.length := by rw [hp]; exact Nat.mod_lt _ (by omega)
        have HRT : Hid (rotS S r (k + 1) = rotS S r k ++ [S[p]]) := Lib.hid (by rw [rotS_succ, ← hp, getElem!_pos S p hpn])
        have HSML : Hid ((layA putC s (rotS S r k) (List.replicate m zC)).length ≤ 1000000) := Lib.hid (by rw [layA_len, List.length_replicate]; exact Nat.le_trans HM4.out (by decide))
        have HRM : Hid (∀ w, (binOp .rem 3 (.int .i64 (t : Int)) (.int .i64 (S.length : Int))).run Tryd.prog w = .ok (.int .i64 (r : Int)) w) := Lib.hid (fun w => by rw [HR.out]; exact rem_nat _ t S.length (by omega) w)
        have HAD : Hid (∀ w, (binOp .add 3 (.int .i64 (k : Int)) (.int .i64 (r : Int))).run Tryd.prog w = .ok (.int .i64 ((k + r : Nat) : Int)) w) := Lib.hid (fun w => add_nat9 _ k r (by omega) w)
        have HRN : Hid (∀ w, (binOp .rem 3 (.int .i64 ((k + r : Nat) : Int)) (.int .i64 (S.length : Int))).run Tryd.prog w = .ok (.int .i64 (p : Int)) w) := Lib.hid (fun w => by rw [hp]; exact rem_nat _ (k + r) S.length (by omega) w)
        clear hp
        go_upto_region 10 with fail
        refine wp_act (fun a0 ha0 => ?_)
        have zsz : a0.tmps.size = 95 := by rw [ha0]; rfl
        have z12 : a0.eval (.tmp 12) = .int .i64 ((k : Int)) := by rw [ha0]; rfl
        have z11 : a0.eval (.tmp 11) = v8_1 := by rw [ha0]; rfl
        refine wp_region_flwo (E := Flz) [] slotsOrl10 waitOrl10 [Fct.val Flz 0 (.int .i64 ((k : Int))), Fct.val Flz 1 (v8_1), Fct.val Flz 2 (.int .i64 (((S).length : Int))), Fct.val Flz 3 (.bool true)] (fun w' => Below wr.heap.size wr w') _ 4 0 chkOrl10 (by kernel_rfl) (by kernel_rfl) (by kernel_rfl) (by decide) (Below.refl _ _) ?_ ?_
        · refine lt_s (lt_s (lt_s (lt_s (lt_0) ?_) ?_) ?_) ?_
          · intro f w1 hS hf
            generalize hA : putAll _ _ f = aA
            have r12 : aA.eval (.tmp 12) = .int .i64 ((k : Int)) := by rw [← hA]; exact putAll_off f 12 slotsOrl10 a0 (by kernel_rfl) z12
            exact flw_val rfl rfl (.int .i64 ((k : Int))) (ex_move (.tmp 12) rfl r12) hS (Flz.refl _) (updF_self _ _ _)
          · intro f w1 hS hf
            generalize hA : putAll _ _ f = aA
            have r11 : aA.eval (.tmp 11) = v8_1 := by rw [← hA]; exact putAll_off f 11 slotsOrl10 a0 (by kernel_rfl) z11
            exact flw_val rfl rfl (v8_1) (ex_move (.tmp 11) rfl r11) hS (Flz.refl _) (updF_self _ _ _)
          · intro f w1 hS hf
            generalize hA : putAll _ _ f = aA
            have h45 : f 1 = v8_1 := hf 1 (by decide)
            have r45 : aA.eval (.tmp 45) = v8_1 := by rw [← hA]; exact putAll_at f 45 1 slotsOrl10 a0 sbOrl10 (by kernel_rfl) zsz rfl h45
            obtain ⟨q9, c9, hv9, _⟩ := (HV.out.keep hS)
            exact flw_val rfl rfl (.int .i64 (((S).length : Int))) (ex_len 44 41 (.tmp 45) rfl (by kernel_rfl) q9 (S).length c9 (r45.trans hv9)) hS (Flz.refl _) (updF_self _ _ _)
          · intro f w1 hS hf
            generalize hA : putAll _ _ f = aA
            have h44 : f 0 = .int .i64 ((k : Int)) := hf 0 (by decide)
            have r44 : aA.eval (.tmp 44) = .int .i64 ((k : Int)) := by rw [← hA]; exact putAll_at f 44 0 slotsOrl10 a0 sbOrl10 (by kernel_rfl) zsz rfl h44
            have h46 : f 2 = .int .i64 (((S).length : Int)) := hf 2 (by decide)
            have r46 : aA.eval (.tmp 46) = .int .i64 (((S).length : Int)) := by rw [← hA]; exact putAll_at f 46 2 slotsOrl10 a0 sbOrl10 (by kernel_rfl) zsz rfl h46
            exact flw_val rfl rfl (.bool true) (Eq.trans (ex_int .lss _ _ (.tmp 44) (.tmp 46) rfl .i64 ((k : Int)) (((S).length : Int)) r44 r46 (.bool (decide (((k : Int)) < (((S).length : Int))))) (fun _ => rfl)) (by rw [HLT.out])) hS (Flz.refl _) (updF_self _ _ _)
        intro f u10 hS hf hap
        have h0 : f 0 = .int .i64 ((k : Int)) := hf 0 (by decide)
        have h1 : f 1 = v8_1 := hf 1 (by decide)
        have h2 : f 2 = .int .i64 (((S).length : Int)) := hf 2 (by decide)
        have h3 : f 3 = .bool true := hf 3 (by decide)
        clear hf hap
        clear zsz z12 z11
        subst ha0
        simp only [slotsOrl10, putAll, h0, h1, h2, h3, Act.put, List.setIfInBounds_toArray, List.set_cons_zero, List.set_cons_succ]
        clear h0 h1 h2 h3
        refine tl_nil ?_
        replace HX := Lib.hid (HX.out.keepB hS)
        replace HZ := Lib.hid (HZ.out.keep hS)
        replace HV := Lib.hid (HV.out.keep hS)
        replace HB := Lib.hid (HB.out.trans (hS.mono HB.out.size))
        clear hS
        go_upto_region 12 with fail
        have HST : Hid (Below u10.heap.size u10 u10.drew) := Lib.hid (Below.refl _ _).drew
        replace HX := Lib.hid (HX.out.keepB HST.out)
        replace HZ := Lib.hid (HZ.out.keep HST.out)
        replace HV := Lib.hid (HV.out.keep HST.out)
        replace HB := Lib.hid (HB.out.trans (HST.out.mono HB.out.size))
        clear HST
        obtain ⟨a, cq, hav, hac⟩ := Us.elU HV.out hpn
        have HAV := Lib.hid hav
        have HAC := Lib.hid hac
        clear hav hac
        refine wp_act (fun a0 ha0 => ?_)
        have zsz : a0.tmps.size = 95 := by rw [ha0]; rfl
        have z9 : a0.eval (.tmp 9) = .pointer (some ⟨b5_6, 0, none⟩) := by rw [ha0]; rfl
        have z11 : a0.eval (.tmp 11) = v8_1 := by rw [ha0]; rfl
        have z12 : a0.eval (.tmp 12) = .int .i64 ((k : Int)) := by rw [ha0]; rfl
        have z3 : a0.eval (.tmp 3) = .int .i64 ((t : Int)) := by rw [ha0]; rfl
        refine wp_region_flw (E := Flz) [] slotsOr12 waitOr12 [Fct.val Flz 0 (.agg #[.int .u64 (s : Int), vz]), Fct.val Flz 1 (v8_1), Fct.val Flz 2 (.int .i64 ((k : Int))), Fct.val Flz 3 (.int .i64 ((t : Int))), Fct.val Flz 4 (v8_1), Fct.val Flz 5 (.int .i64 (((S).length : Int))), Fct.val Flz 6 (.int .i64 ((r : Int))), Fct.val Flz 7 (.int .i64 (((k + r : Nat) : Int))), Fct.val Flz 8 (v8_1), Fct.val Flz 9 (.int .i64 (((S).length : Int))), Fct.val Flz 10 (.int .i64 ((p : Int))), Fct.val Flz 11 (.pointer (some (a.add (p * 32)))), Fct.val Flz 12 (.agg (encU ((S[p]))).toArray), Fct.obj 13 (fun v w => ∃ zz, v = .agg #[.int .u64 (s : Int), zz] ∧ Cs w zz (layT putC s ((S[p])) (layA putC s (rotS S r k) (List.replicate m zC)))) (fun _ _ _ ⟨zz, a, b⟩ he => ⟨zz, a, b.flz he⟩)] (fun w' => Below u10.drew.heap.size u10.drew w') _ 14 1 chkOr12 (by kernel_rfl) (by kernel_rfl) (by kernel_rfl) (by kernel_rfl) (by decide) (Below.refl _ _) ?_ ?_
        · refine lt_s (lt_s (lt_s (lt_s (lt_s (lt_s (lt_s (lt_s (lt_s (lt_s (lt_s (lt_s (lt_s (lt_s (lt_0) ?_) ?_) ?_) ?_) ?_) ?_) ?_) ?_) ?_) ?_) ?_) ?_) ?_) ?_
          · intro f w1 hS hf
            generalize hA : putAll _ _ f = aA
            have r9 : aA.eval (.tmp 9) = .pointer (some ⟨b5_6, 0, none⟩) := by rw [← hA]; exact putAll_off f 9 slotsOr12 a0 (by kernel_rfl) z9
            exact flw_val rfl rfl (.agg #[.int .u64 (s : Int), vz]) (ex_loadR 26 (.tmp 9) rfl ⟨b5_6, 0, none⟩ r9 (fun _ => by kernel_rfl) [.int .u64 (s : Int), vz] (by kernel_rfl) ((HX.out.keepB hS).part [.int .u64 (s : Int), vz] 0 (fun j u hu => by rw [Nat.zero_add]; exact hu))) hS (Flz.refl _) (updF_self _ _ _)
          · intro f w1 hS hf
            generalize hA : putAll _ _ f = aA
            have r11 : aA.eval (.tmp 11) = v8_1 := by rw [← hA]; exact putAll_off f 11 slotsOr12 a0 (by kernel_rfl) z11
            exact flw_val rfl rfl (v8_1) (ex_move (.tmp 11) rfl r11) hS (Flz.refl _) (updF_self _ _ _)
          · intro f w1 hS hf
            generalize hA : putAll _ _ f = aA
            have r12 : aA.eval (.tmp 12) = .int .i64 ((k : Int)) := by rw [← hA]; exact putAll_off f 12 slotsOr12 a0 (by kernel_rfl) z12
            exact flw_val rfl rfl (.int .i64 ((k : Int))) (ex_move (.tmp 12) rfl r12) hS (Flz.refl _) (updF_self _ _ _)
          · intro f w1 hS hf
            generalize hA : putAll _ _ f = aA
            have r3 : aA.eval (.tmp 3) = .int .i64 ((t : Int)) := by rw [← hA]; exact putAll_off f 3 slotsOr12 a0 (by kernel_rfl) z3
            exact flw_val rfl rfl (.int .i64 ((t : Int))) (ex_move (.tmp 3) rfl r3) hS (Flz.refl _) (updF_self _ _ _)
          · intro f w1 hS hf
            generalize hA : putAll _ _ f = aA
            have r11 : aA.eval (.tmp 11) = v8_1 := by rw [← hA]; exact putAll_off f 11 slotsOr12 a0 (by kernel_rfl) z11
            exact flw_val rfl rfl (v8_1) (ex_move (.tmp 11) rfl r11) hS (Flz.refl _) (updF_self _ _ _)
          · intro f w1 hS hf
            generalize hA : putAll _ _ f = aA
            have h54 : f 4 = v8_1 := hf 4 (by decide)
            have r54 : aA.eval (.tmp 54) = v8_1 := by rw [← hA]; exact putAll_at f 54 4 slotsOr12 a0 sbOr12 (by kernel_rfl) zsz rfl h54
            obtain ⟨q9, c9, hv9, _⟩ := (HV.out.keep hS)
            exact flw_val rfl rfl (.int .i64 (((S).length : Int))) (ex_len 44 41 (.tmp 54) rfl (by kernel_rfl) q9 (S).length c9 (r54.trans hv9)) hS (Flz.refl _) (updF_self _ _ _)
          · intro f w1 hS hf
            generalize hA : putAll _ _ f = aA
            have h53 : f 3 = .int .i64 ((t : Int)) := hf 3 (by decide)
            have r53 : aA.eval (.tmp 53) = .int .i64 ((t : Int)) := by rw [← hA]; exact putAll_at f 53 3 slotsOr12 a0 sbOr12 (by kernel_rfl) zsz rfl h53
            have h55 : f 5 = .int .i64 (((S).length : Int)) := hf 5 (by decide)
            have r55 : aA.eval (.tmp 55) = .int .i64 (((S).length : Int)) := by rw [← hA]; exact putAll_at f 55 5 slotsOr12 a0 sbOr12 (by kernel_rfl) zsz rfl h55
            exact flw_val rfl rfl (.int .i64 ((r : Int))) (ex_int .rem _ _ (.tmp 53) (.tmp 55) rfl .i64 ((t : Int)) (((S).length : Int)) r53 r55 (.int .i64 ((r : Int))) (HRM.out)) hS (Flz.refl _) (updF_self _ _ _)
          · intro f w1 hS hf
            generalize hA : putAll _ _ f = aA
            have h52 : f 2 = .int .i64 ((k : Int)) := hf 2 (by decide)
            have r52 : aA.eval (.tmp 52) = .int .i64 ((k : Int)) := by rw [← hA]; exact putAll_at f 52 2 slotsOr12 a0 sbOr12 (by kernel_rfl) zsz rfl h52
            have h56 : f 6 = .int .i64 ((r : Int)) := hf 6 (by decide)
            have r56 : aA.eval (.tmp 56) = .int .i64 ((r : Int)) := by rw [← hA]; exact putAll_at f 56 6 slotsOr12 a0 sbOr12 (by kernel_rfl) zsz rfl h56
            exact flw_val rfl rfl (.int .i64 (((k + r : Nat) : Int))) (ex_int .add _ _ (.tmp 52) (.tmp 56) rfl .i64 ((k : Int)) ((r : Int)) r52 r56 (.int .i64 (((k + r : Nat) : Int))) (HAD.out)) hS (Flz.refl _) (updF_self _ _ _)
          · intro f w1 hS hf
            generalize hA : putAll _ _ f = aA
            have r11 : aA.eval (.tmp 11) = v8_1 := by rw [← hA]; exact putAll_off f 11 slotsOr12 a0 (by kernel_rfl) z11
            exact flw_val rfl rfl (v8_1) (ex_move (.tmp 11) rfl r11) hS (Flz.refl _) (updF_self _ _ _)
          · intro f w1 hS hf
            generalize hA : putAll _ _ f = aA
            have h58 : f 8 = v8_1 := hf 8 (by decide)
            have r58 : aA.eval (.tmp 58) = v8_1 := by rw [← hA]; exact putAll_at f 58 8 slotsOr12 a0 sbOr12 (by kernel_rfl) zsz rfl h58
            obtain ⟨q9, c9, hv9, _⟩ := (HV.out.keep hS)
            exact flw_val rfl rfl (.int .i64 (((S).length : Int))) (ex_len 44 41 (.tmp 58) rfl (by kernel_rfl) q9 (S).length c9 (r58.trans hv9)) hS (Flz.refl _) (updF_self _ _ _)
          · intro f w1 hS hf
            generalize hA : putAll _ _ f = aA
            have h57 : f 7 = .int .i64 (((k + r : Nat) : Int)) := hf 7 (by decide)
            have r57 : aA.eval (.tmp 57) = .int .i64 (((k + r : Nat) : Int)) := by rw [← hA]; exact putAll_at f 57 7 slotsOr12 a0 sbOr12 (by kernel_rfl) zsz rfl h57
            have h59 : f 9 = .int .i64 (((S).length : Int)) := hf 9 (by decide)
            have r59 : aA.eval (.tmp 59) = .int .i64 (((S).length : Int)) := by rw [← hA]; exact putAll_at f 59 9 slotsOr12 a0 sbOr12 (by kernel_rfl) zsz rfl h59
            exact flw_val rfl rfl (.int .i64 ((p : Int))) (ex_int .rem _ _ (.tmp 57) (.tmp 59) rfl .i64 (((k + r : Nat) : Int)) (((S).length : Int)) r57 r59 (.int .i64 ((p : Int))) (HRN.out)) hS (Flz.refl _) (updF_self _ _ _)
          · intro f w1 hS hf
            generalize hA : putAll _ _ f = aA
            have h51 : f 1 = v8_1 := hf 1 (by decide)
            have r51 : aA.eval (.tmp 51) = v8_1 := by rw [← hA]; exact putAll_at f 51 1 slotsOr12 a0 sbOr12 (by kernel_rfl) zsz rfl h51
            have h60 : f 10 = .int .i64 ((p : Int)) := hf 10 (by decide)
            have r60 : aA.eval (.tmp 60) = .int .i64 ((p : Int)) := by rw [← hA]; exact putAll_at f 60 10 slotsOr12 a0 sbOr12 (by kernel_rfl) zsz rfl h60
            exact flw_val rfl rfl (.pointer (some (a.add (p * 32)))) (ex_indexS 44 41 (.tmp 51) (.tmp 60) rfl a S.length cq p 32 (by kernel_rfl) (fun _ => by kernel_rfl) (Eq.trans r51 HAV.out) r60 hpn) hS (Flz.refl _) (updF_self _ _ _)
          · intro f w1 hS hf
            generalize hA : putAll _ _ f = aA
            have h61 : f 11 = .pointer (some (a.add (p * 32))) := hf 11 (by decide)
            have r61 : aA.eval (.tmp 61) = .pointer (some (a.add (p * 32))) := by rw [← hA]; exact putAll_at f 61 11 slotsOr12 a0 sbOr12 (by kernel_rfl) zsz rfl h61
            exact flw_val rfl rfl (.agg (encU ((S[p]))).toArray) (ex_loadR 41 (.tmp 61) rfl (a.add (p * 32)) r61 (fun _ => by kernel_rfl) (encU ((S[p]))) (by rw [encU_len]; kernel_rfl) (HAC.out w1 hS.block)) hS (Flz.refl _) (updF_self _ _ _)
          · intro f w1 hS hf
            generalize hA : putAll _ _ f = aA
            have h50 : f 0 = .agg #[.int .u64 (s : Int), vz] := hf 0 (by decide)
            have r50 : aA.eval (.tmp 50) = .agg #[.int .u64 (s : Int), vz] := by rw [← hA]; exact putAll_at f 50 0 slotsOr12 a0 sbOr12 (by kernel_rfl) zsz rfl h50
            have h62 : f 12 = .agg (encU ((S[p]))).toArray := hf 12 (by decide)
            have r62 : aA.eval (.tmp 62) = .agg (encU ((S[p]))).toArray := by rw [← hA]; exact putAll_at f 62 12 slotsOr12 a0 sbOr12 (by kernel_rfl) zsz rfl h62
            exact flw_call rfl rfl 16 #[(.tmp 50), (.tmp 62)] _ rfl #[.agg #[.int .u64 (s : Int), vz], .agg (encU ((S[p]))).toArray] (by simp only [List.map_toArray, List.map_cons, List.map_nil, r50, r62]) (fun w => by kernel_rfl) (fun v w' => ∃ zz, v = .agg #[.int .u64 (s : Int), zz] ∧ Cs w' zz (layT putC s ((S[p])) (layA putC s (rotS S r k) (List.replicate m zC)))) (putT_any s ((S[p])) _ _ w1 HSD.out (HL.out.keep (HB.out.trans (hS.mono HB.out.size)) HSZ.out) HSML.out (HZ.out.keep hS)) (fun v w' hr hb => ⟨hS.trans (hb.mono hS.size), Flz.of hb, by obtain ⟨zz, a, b⟩ := hr; exact ⟨zz, (updF_self _ _ _).trans a, b⟩⟩)
        intro f u12 hS hf hap
        have h0 : f 0 = .agg #[.int .u64 (s : Int), vz] := hf 0 (by decide)
        have h1 : f 1 = v8_1 := hf 1 (by decide)
        have h2 : f 2 = .int .i64 ((k : Int)) := hf 2 (by decide)
        have h3 : f 3 = .int .i64 ((t : Int)) := hf 3 (by decide)
        have h4 : f 4 = v8_1 := hf 4 (by decide)
        have h5 : f 5 = .int .i64 (((S).length : Int)) := hf 5 (by decide)
        have h6 : f 6 = .int .i64 ((r : Int)) := hf 6 (by decide)
        have h7 : f 7 = .int .i64 (((k + r : Nat) : Int)) := hf 7 (by decide)
        have h8 : f 8 = v8_1 := hf 8 (by decide)
        have h9 : f 9 = .int .i64 (((S).length : Int)) := hf 9 (by decide)
        have h10 : f 10 = .int .i64 ((p : Int)) := hf 10 (by decide)
        have h11 : f 11 = .pointer (some (a.add (p * 32))) := hf 11 (by decide)
        have h12 : f 12 = .agg (encU ((S[p]))).toArray := hf 12 (by decide)
        obtain ⟨v12_13, h13, hu13⟩ := hf 13 (by decide)
        have HU12_13 := Lib.hid hu13
        clear hu13
        clear hf hap
        clear zsz z9 z11 z12 z3
        subst ha0
        simp only [slotsOr12, putAll, h0, h1, h2, h3, h4, h5, h6, h7, h8, h9, h10, h11, h12, h13, Act.put, List.setIfInBounds_toArray, List.set_cons_zero, List.set_cons_succ]
        clear h0 h1 h2 h3 h4 h5 h6 h7 h8 h9 h10 h11 h12 h13
        have hBS := HB.out.trans (hS.mono HB.out.size)
        replace HX := Lib.hid (HX.out.keepB hS)
        replace HZ := Lib.hid (HZ.out.keep hS)
        replace HV := Lib.hid (HV.out.keep hS)
        clear hS
        refine tl_store rfl (by kernel_rfl) 26 (.tmp 9) (.tmp 63) rfl b5_6 ([.int .u64 (s : Int), v12_13]) _ rfl rfl _ HX.out (by kernel_rfl) rfl (tb_ones _ HU12_13.out.one) ?_
        intro u13 hp hbl hot
        replace HZ := Lib.hid (HZ.out.hotb HX.out HZ.out.sl (by decide) (hbl 0 (Nat.zero_le _)).size hot)
        replace HV := Lib.hid (HV.out.hotb HX.out HZ.out.sl (by decide) (hbl 0 (Nat.zero_le _)).size hot)
        replace HU12_13 := Lib.hid (HU12_13.out.hotb HX.out HZ.out.sl (by decide) (hbl 0 (Nat.zero_le _)).size hot)
        replace HX : Hid (Has u13 b5_6 26 ([.int .u64 (s : Int), v12_13])) := Lib.hid hp
        replace hBS := hBS.trans (hbl _ HGb5_6.out)
        clear hp hbl hot
        try simp only [Act.put]
        refine tl_nilN ?_
        replace HB := Lib.hid hBS
        clear hBS
        go_wp2_with fail
        go_roundw
        case rel => exact ⟨k + 1, by omega, by go_num, ⟨_, HX.out, by rw [HRT.out, layA_snoc]; exact HU12_13.out⟩, HV.out, HB.out⟩
        case measure => simp [intOf]; omega
      · have hkS : k = S.length := by omega
        have HEQ : Hid (layA putC s (rotS S r k) (List.replicate m zC) = tab s m (S)) := Lib.hid (by rw [hkS]; exact layA_perm (fun c x y => putC_right c x y) (rotS_perm hrn) _)
        have HLT : Hid (decide (((k : Int)) < (((S).length : Int))) = false) := Lib.hid (decide_eq_false (by omega))
        rw [HEQ.out] at HZ
        clear hkS HEQ
        go_upto_region 10 with fail
        refine wp_act (fun a0 ha0 => ?_)
        have zsz : a0.tmps.size = 95 := by rw [ha0]; rfl
        have z12 : a0.eval (.tmp 12) = .int .i64 ((k : Int)) := by rw [ha0]; rfl
        have z11 : a0.eval (.tmp 11) = v8_1 := by rw [ha0]; rfl
        refine wp_region_flwo (E := Flz) [] slotsOre10 waitOre10 [Fct.val Flz 0 (.int .i64 ((k : Int))), Fct.val Flz 1 (v8_1), Fct.val Flz 2 (.int .i64 (((S).length : Int))), Fct.val Flz 3 (.bool false)] (fun w' => Below wr.heap.size wr w') _ 4 0 chkOre10 (by kernel_rfl) (by kernel_rfl) (by kernel_rfl) (by decide) (Below.refl _ _) ?_ ?_
        · refine lt_s (lt_s (lt_s (lt_s (lt_0) ?_) ?_) ?_) ?_
          · intro f w1 hS hf
            generalize hA : putAll _ _ f = aA
            have r12 : aA.eval (.tmp 12) = .int .i64 ((k : Int)) := by rw [← hA]; exact putAll_off f 12 slotsOre10 a0 (by kernel_rfl) z12
            exact flw_val rfl rfl (.int .i64 ((k : Int))) (ex_move (.tmp 12) rfl r12) hS (Flz.refl _) (updF_self _ _ _)
          · intro f w1 hS hf
            generalize hA : putAll _ _ f = aA
            have r11 : aA.eval (.tmp 11) = v8_1 := by rw [← hA]; exact putAll_off f 11 slotsOre10 a0 (by kernel_rfl) z11
            exact flw_val rfl rfl (v8_1) (ex_move (.tmp 11) rfl r11) hS (Flz.refl _) (updF_self _ _ _)
          · intro f w1 hS hf
            generalize hA : putAll _ _ f = aA
            have h45 : f 1 = v8_1 := hf 1 (by decide)
            have r45 : aA.eval (.tmp 45) = v8_1 := by rw [← hA]; exact putAll_at f 45 1 slotsOre10 a0 sbOre10 (by kernel_rfl) zsz rfl h45
            obtain ⟨q9, c9, hv9, _⟩ := (HV.out.keep hS)
            exact flw_val rfl rfl (.int .i64 (((S).length : Int))) (ex_len 44 41 (.tmp 45) rfl (by kernel_rfl) q9 (S).length c9 (r45.trans hv9)) hS (Flz.refl _) (updF_self _ _ _)
          · intro f w1 hS hf
            generalize hA : putAll _ _ f = aA
            have h44 : f 0 = .int .i64 ((k : Int)) := hf 0 (by decide)
            have r44 : aA.eval (.tmp 44) = .int .i64 ((k : Int)) := by rw [← hA]; exact putAll_at f 44 0 slotsOre10 a0 sbOre10 (by kernel_rfl) zsz rfl h44
            have h46 : f 2 = .int .i64 (((S).length : Int)) := hf 2 (by decide)
            have r46 : aA.eval (.tmp 46) = .int .i64 (((S).length : Int)) := by rw [← hA]; exact putAll_at f 46 2 slotsOre10 a0 sbOre10 (by kernel_rfl) zsz rfl h46
            exact flw_val rfl rfl (.bool false) (Eq.trans (ex_int .lss _ _ (.tmp 44) (.tmp 46) rfl .i64 ((k : Int)) (((S).length : Int)) r44 r46 (.bool (decide (((k : Int)) < (((S).length : Int))))) (fun _ => rfl)) (by rw [HLT.out])) hS (Flz.refl _) (updF_self _ _ _)
        intro f u10 hS hf hap
        have h0 : f 0 = .int .i64 ((k : Int)) := hf 0 (by decide)
        have h1 : f 1 = v8_1 := hf 1 (by decide)
        have h2 : f 2 = .int .i64 (((S).length : Int)) := hf 2 (by decide)
        have h3 : f 3 = .bool false := hf 3 (by decide)
        clear hf hap
        clear zsz z12 z11
        subst ha0
        simp only [slotsOre10, putAll, h0, h1, h2, h3, Act.put, List.setIfInBounds_toArray, List.set_cons_zero, List.set_cons_succ]
        clear h0 h1 h2 h3
        refine tl_nil ?_
        replace HX := Lib.hid (HX.out.keepB hS)
        replace HZ := Lib.hid (HZ.out.keep hS)
        replace HV := Lib.hid (HV.out.keep hS)
        replace HB := Lib.hid (HB.out.trans (hS.mono HB.out.size))
        clear hS
        go_upto_region 13 with fail
        refine wp_act (fun a0 ha0 => ?_)
        have zsz : a0.tmps.size = 95 := by rw [ha0]; rfl
        have z0 : a0.eval (.tmp 0) = .int .u64 (s : Int) := by rw [ha0]; rfl
        have z1 : a0.eval (.tmp 1) = .int .i64 n := by rw [ha0]; rfl
        have z11 : a0.eval (.tmp 11) = v8_1 := by rw [ha0]; rfl
        refine wp_region_flwo (E := Flz) [] slotsOre13 waitOre13 [Fct.val Flz 0 (.int .u64 (s : Int)), Fct.val Flz 1 (.int .i64 n), Fct.val Flz 2 (v8_1), Fct.obj 3 (fun v w => ∃ zz, v = .tuple #[.agg #[.int .u64 (s : Int), zz], .int .i64 0] ∧ Cs w zz (tab s m (S))) (fun _ _ _ ⟨zz, a, b⟩ he => ⟨zz, a, b.flz he⟩), Fct.obj 4 (fun v w => ∃ zz, v = .tuple #[.agg #[.int .u64 (s : Int), zz], .int .i64 0] ∧ Cs w zz (tab s m (S))) (fun _ _ _ ⟨zz, a, b⟩ he => ⟨zz, a, b.flz he⟩), Fct.obj 5 (fun v w => ∃ zz, v = .agg #[.int .u64 (s : Int), zz] ∧ Cs w zz (tab s m (S))) (fun _ _ _ ⟨zz, a, b⟩ he => ⟨zz, a, b.flz he⟩), Fct.val Flz 6 (.int .i64 0), Fct.obj 7 (fun v w => ∃ g, v = .pointer (some ⟨g, 0, none⟩) ∧ u10.heap.size ≤ g ∧ Has w g 26 ([.int .u64 0, .slice none 0 0])) (fun _ _ _ ⟨g, a, b, c⟩ he => ⟨g, a, b, c.flz he (by decide)⟩)] (fun w' => Below u10.heap.size u10 w') _ 8 2 chkOre13 (by kernel_rfl) (by kernel_rfl) (by kernel_rfl) (by decide) (Below.refl _ _) ?_ ?_
        · refine lt_s (lt_s (lt_s (lt_s (lt_s (lt_s (lt_s (lt_s (lt_0) ?_) ?_) ?_) ?_) ?_) ?_) ?_) ?_
          · intro f w1 hS hf
            generalize hA : putAll _ _ f = aA
            have r0 : aA.eval (.tmp 0) = .int .u64 (s : Int) := by rw [← hA]; exact putAll_off f 0 slotsOre13 a0 (by kernel_rfl) z0
            exact flw_val rfl rfl (.int .u64 (s : Int)) (ex_move (.tmp 0) rfl r0) hS (Flz.refl _) (updF_self _ _ _)
          · intro f w1 hS hf
            generalize hA : putAll _ _ f = aA
            have r1 : aA.eval (.tmp 1) = .int .i64 n := by rw [← hA]; exact putAll_off f 1 slotsOre13 a0 (by kernel_rfl) z1
            exact flw_val rfl rfl (.int .i64 n) (ex_move (.tmp 1) rfl r1) hS (Flz.refl _) (updF_self _ _ _)
          · intro f w1 hS hf
            generalize hA : putAll _ _ f = aA
            have r11 : aA.eval (.tmp 11) = v8_1 := by rw [← hA]; exact putAll_off f 11 slotsOre13 a0 (by kernel_rfl) z11
            exact flw_val rfl rfl (v8_1) (ex_move (.tmp 11) rfl r11) hS (Flz.refl _) (updF_self _ _ _)
          · intro f w1 hS hf
            generalize hA : putAll _ _ f = aA
            have h65 : f 0 = .int .u64 (s : Int) := hf 0 (by decide)
            have r65 : aA.eval (.tmp 65) = .int .u64 (s : Int) := by rw [← hA]; exact putAll_at f 65 0 slotsOre13 a0 sbOre13 (by kernel_rfl) zsz rfl h65
            have h66 : f 1 = .int .i64 n := hf 1 (by decide)
            have r66 : aA.eval (.tmp 66) = .int .i64 n := by rw [← hA]; exact putAll_at f 66 1 slotsOre13 a0 sbOre13 (by kernel_rfl) zsz rfl h66
            have h67 : f 2 = v8_1 := hf 2 (by decide)
            have r67 : aA.eval (.tmp 67) = v8_1 := by rw [← hA]; exact putAll_at f 67 2 slotsOre13 a0 sbOre13 (by kernel_rfl) zsz rfl h67
            exact flw_call rfl rfl 9 #[(.tmp 65), (.tmp 66), (.tmp 67)] _ rfl #[.int .u64 (s : Int), .int .i64 n, v8_1] (by simp only [List.map_toArray, List.map_cons, List.map_nil, r65, r66, r67]) (fun w => by kernel_rfl) (fun v w' => ∃ zz, v = .tuple #[.agg #[.int .u64 (s : Int), zz], .int .i64 0] ∧ Cs w' zz (tab s m (S))) (ofA_t s n  m _ _ HGD.out HM.out HASC.out w1 HSD.out (HL.out.keep (HB.out.trans (hS.mono HB.out.size)) HSZ.out) HLS.out (HV.out.keep hS)) (fun v w' hr hb => ⟨hS.trans (hb.mono hS.size), Flz.of hb, by obtain ⟨zz, a, b⟩ := hr; exact ⟨zz, (updF_self _ _ _).trans a, b⟩⟩)
          · intro f w1 hS hf
            generalize hA : putAll _ _ f = aA
            obtain ⟨x68, hx68, hr68⟩ := hf 3 (by decide)
            have e68 : aA.eval (.tmp 68) = .tuple #[.agg #[.int .u64 (s : Int), x68], .int .i64 0] := by rw [← hA]; exact putAll_at f 68 3 slotsOre13 a0 sbOre13 (by kernel_rfl) zsz rfl hx68
            exact flw_val rfl rfl (.tuple #[.agg #[.int .u64 (s : Int), x68], .int .i64 0]) (ex_move (.tmp 68) rfl e68) hS (Flz.refl _) ⟨x68, updF_self _ _ _, hr68⟩
          · intro f w1 hS hf
            generalize hA : putAll _ _ f = aA
            obtain ⟨x64, hx64, hr64⟩ := hf 4 (by decide)
            have e64 : aA.eval (.tmp 64) = .tuple #[.agg #[.int .u64 (s : Int), x64], .int .i64 0] := by rw [← hA]; exact putAll_at f 64 4 slotsOre13 a0 sbOre13 (by kernel_rfl) zsz rfl hx64
            exact flw_val rfl rfl (.agg #[.int .u64 (s : Int), x64]) (ex_extract (.tmp 64) 0 rfl e64 rfl) hS (Flz.refl _) ⟨x64, updF_self _ _ _, hr64⟩
          · intro f w1 hS hf
            generalize hA : putAll _ _ f = aA
            obtain ⟨x64, hx64, hr64⟩ := hf 4 (by decide)
            have e64 : aA.eval (.tmp 64) = .tuple #[.agg #[.int .u64 (s : Int), x64], .int .i64 0] := by rw [← hA]; exact putAll_at f 64 4 slotsOre13 a0 sbOre13 (by kernel_rfl) zsz rfl hx64
            exact flw_val rfl rfl (.int .i64 0) (ex_extract (.tmp 64) 1 rfl e64 rfl) hS (Flz.refl _) (updF_self _ _ _)
          · intro f w1 hS hf
            generalize hA : putAll _ _ f = aA
            exact flw_wp rfl rfl (fun K hK => wp_alloc_row 26 rfl (.agg #[.int .u64 0, .slice none 0 0]) (fun w => by kernel_rfl) (hK _ _ (hS.alloc hS.size _) (Flz.al _ _) ⟨_, updF_self _ _ _, hS.size, Has.made' _ _ _ _ rfl⟩))
        intro f x13 hS hf hap
        have h0 : f 0 = .int .u64 (s : Int) := hf 0 (by decide)
        have h1 : f 1 = .int .i64 n := hf 1 (by decide)
        have h2 : f 2 = v8_1 := hf 2 (by decide)
        obtain ⟨v13_3, h3, -⟩ := hf 3 (by decide)
        obtain ⟨v13_4, h4, -⟩ := hf 4 (by decide)
        obtain ⟨v13_5, h5, hu5⟩ := hf 5 (by decide)
        have HU13_5 := Lib.hid hu5
        clear hu5
        have h6 : f 6 = .int .i64 0 := hf 6 (by decide)
        obtain ⟨b13_7, h7, hgb7, hhb7⟩ := hf 7 (by decide)
        clear hf hap
        clear zsz z0 z1 z11
        subst ha0
        simp only [slotsOre13, putAll, h0, h1, h2, h3, h4, h5, h6, h7, Act.put, List.setIfInBounds_toArray, List.set_cons_zero, List.set_cons_succ]
        clear h0 h1 h2 h3 h4 h5 h6 h7
        refine tl_store rfl (by kernel_rfl) 26 (.tmp 13) (.tmp 69) rfl b13_7 ([.int .u64 (s : Int), v13_5]) _ rfl rfl _ hhb7 (by kernel_rfl) rfl (tb_ones _ HU13_5.out.one) ?_
        intro u13 hp7 hbl hot
        replace hS := hS.trans (hbl _ hgb7)
        replace HU13_5 := Lib.hid (HU13_5.out.hotb hhb7 ⟨_, _, _, rfl⟩ (by decide) (hbl 0 (Nat.zero_le _)).size hot)
        clear hbl hot hhb7
        try simp only [Act.put]
        refine tl_pure rfl (by kernel_rfl) (.int .i64 0) (ex_assign (.tmp 70) rfl rfl) ?_
        try simp only [Act.put, List.setIfInBounds_toArray, List.set_cons_zero, List.set_cons_succ]
        refine tl_nil ?_
        replace HX := Lib.hid (HX.out.keepB hS)
        replace HZ := Lib.hid (HZ.out.keep hS)
        replace HV := Lib.hid (HV.out.keep hS)
        have HBW := Lib.hid HB.out.size
        replace HB := Lib.hid (HB.out.trans (hS.mono HB.out.size))
        clear hS
        have HGb13_7 : Hid (w.heap.size ≤ b13_7) := Lib.hid (Nat.le_trans HBW.out hgb7)
        have HX_b13_7 : Hid (Has u13 b13_7 26 ([.int .u64 (s : Int), v13_5])) := Lib.hid hp7
        clear hp7 hgb7
        clear HBW
        go_upto_region 14 with fail
        have HST : Hid (Below u13.heap.size u13 u13.drew) := Lib.hid (Below.refl _ _).drew
        replace HX := Lib.hid (HX.out.keepB HST.out)
        replace HZ := Lib.hid (HZ.out.keep HST.out)
        replace HV := Lib.hid (HV.out.keep HST.out)
        replace HX_b13_7 := Lib.hid (HX_b13_7.out.keepB HST.out)
        replace HU13_5 := Lib.hid (HU13_5.out.keep HST.out)
        replace HB := Lib.hid (HB.out.trans (HST.out.mono HB.out.size))
        clear HST
        refine wp_act (fun a0 ha0 => ?_)
        have zsz : a0.tmps.size = 95 := by rw [ha0]; rfl
        have z14 : a0.eval (.tmp 14) = .int .i64 0 := by rw [ha0]; rfl
        have z9 : a0.eval (.tmp 9) = .pointer (some ⟨b5_6, 0, none⟩) := by rw [ha0]; rfl
        have z13 : a0.eval (.tmp 13) = .pointer (some ⟨b13_7, 0, none⟩) := by rw [ha0]; rfl
        refine wp_region_flw (E := Flz) [] slotsOr14 waitOr14 [Fct.val Flz 0 (.int .i64 0), Fct.val Flz 1 (.bool false), Fct.val Flz 2 (.bool false), Fct.val Flz 3 (.agg #[.int .u64 (s : Int), vz]), Fct.obj 4 (fun v w => ∃ zz, v = .agg #[.int .u64 (s : Int), zz] ∧ Cs w zz (tab s m (S))) (fun _ _ _ ⟨zz, a, b⟩ he => ⟨zz, a, b.flz he⟩), Fct.val Flz 5 (.agg #[.int .u64 (s : Int), v13_5]), Fct.obj 6 (fun v w => ∃ zz, v = .agg #[.int .u64 (s : Int), zz] ∧ Cs w zz (tab s m (S))) (fun _ _ _ ⟨zz, a, b⟩ he => ⟨zz, a, b.flz he⟩), Fct.val Flz 7 (.bool true), Fct.val Flz 8 (.bool false), Fct.val Flz 9 (.bool false)] (fun w' => Below u13.drew.heap.size u13.drew w') _ 10 0 chkOr14 (by kernel_rfl) (by kernel_rfl) (by kernel_rfl) (by kernel_rfl) (by decide) (Below.refl _ _) ?_ ?_
        · refine lt_s (lt_s (lt_s (lt_s (lt_s (lt_s (lt_s (lt_s (lt_s (lt_s (lt_0) ?_) ?_) ?_) ?_) ?_) ?_) ?_) ?_) ?_) ?_
          · intro f w1 hS hf
            generalize hA : putAll _ _ f = aA
            have r14 : aA.eval (.tmp 14) = .int .i64 0 := by rw [← hA]; exact putAll_off f 14 slotsOr14 a0 (by kernel_rfl) z14
            exact flw_val rfl rfl (.int .i64 0) (ex_move (.tmp 14) rfl r14) hS (Flz.refl _) (updF_self _ _ _)
          · intro f w1 hS hf
            generalize hA : putAll _ _ f = aA
            have h71 : f 0 = .int .i64 0 := hf 0 (by decide)
            have r71 : aA.eval (.tmp 71) = .int .i64 0 := by rw [← hA]; exact putAll_at f 71 0 slotsOr14 a0 sbOr14 (by kernel_rfl) zsz rfl h71
            exact flw_val rfl rfl (.bool false) (Eq.trans (ex_int .neq _ _ (.tmp 71) _ rfl .i64 0 0 r71 rfl (.bool ((0 : Int) != (0 : Int))) (fun _ => rfl)) (by rw [(by decide : ((0 : Int) != (0 : Int)) = false)])) hS (Flz.refl _) (updF_self _ _ _)
          · intro f w1 hS hf
            generalize hA : putAll _ _ f = aA
            have h72 : f 1 = .bool false := hf 1 (by decide)
            have r72 : aA.eval (.tmp 72) = .bool false := by rw [← hA]; exact putAll_at f 72 1 slotsOr14 a0 sbOr14 (by kernel_rfl) zsz rfl h72
            exact flw_val rfl rfl (.bool false) (ex_move (.tmp 72) rfl r72) hS (Flz.refl _) (updF_self _ _ _)
          · intro f w1 hS hf
            generalize hA : putAll _ _ f = aA
            have g73 : f 2 = .bool false := hf 2 (by decide)
            have t73 : aA.tmps[73]? = some (.bool false) := by rw [← hA]; exact putAll_g f 73 2 slotsOr14 a0 sbOr14 (by kernel_rfl) zsz rfl g73
            have r9 : aA.eval (.tmp 9) = .pointer (some ⟨b5_6, 0, none⟩) := by rw [← hA]; exact putAll_off f 9 slotsOr14 a0 (by kernel_rfl) z9
            exact flw_val rfl ((wanted_of rfl 73 rfl t73).trans rfl) (.agg #[.int .u64 (s : Int), vz]) (ex_loadR 26 (.tmp 9) rfl ⟨b5_6, 0, none⟩ r9 (fun _ => by kernel_rfl) [.int .u64 (s : Int), vz] (by kernel_rfl) ((HX.out.keepB hS).part [.int .u64 (s : Int), vz] 0 (fun j u hu => by rw [Nat.zero_add]; exact hu))) hS (Flz.refl _) (updF_self _ _ _)
          · intro f w1 hS hf
            generalize hA : putAll _ _ f = aA
            have g73 : f 2 = .bool false := hf 2 (by decide)
            have t73 : aA.tmps[73]? = some (.bool false) := by rw [← hA]; exact putAll_g f 73 2 slotsOr14 a0 sbOr14 (by kernel_rfl) zsz rfl g73
            have h74 : f 3 = .agg #[.int .u64 (s : Int), vz] := hf 3 (by decide)
            have r74 : aA.eval (.tmp 74) = .agg #[.int .u64 (s : Int), vz] := by rw [← hA]; exact putAll_at f 74 3 slotsOr14 a0 sbOr14 (by kernel_rfl) zsz rfl h74
            exact flw_call rfl ((wanted_of rfl 73 rfl t73).trans rfl) 15 #[(.tmp 74)] _ rfl #[.agg #[.int .u64 (s : Int), vz]] (by simp only [List.map_toArray, List.map_cons, List.map_nil, r74]) (fun w => by kernel_rfl) (fun v w' => ∃ zz, v = .agg #[.int .u64 (s : Int), zz] ∧ Cs w' zz (tab s m (S))) (tableOf_any s _ _ w1 (Nat.le_trans (tab_small5 HM4.out) (show 10000 ≤ 100000 by decide)) (HZ.out.keep hS)) (fun v w' hr hb => ⟨hS.trans (hb.mono hS.size), Flz.of hb, by obtain ⟨zz, a, b⟩ := hr; exact ⟨zz, (updF_self _ _ _).trans a, b⟩⟩)
          · intro f w1 hS hf
            generalize hA : putAll _ _ f = aA
            have g73 : f 2 = .bool false := hf 2 (by decide)
            have t73 : aA.tmps[73]? = some (.bool false) := by rw [← hA]; exact putAll_g f 73 2 slotsOr14 a0 sbOr14 (by kernel_rfl) zsz rfl g73
            have r13 : aA.eval (.tmp 13) = .pointer (some ⟨b13_7, 0, none⟩) := by rw [← hA]; exact putAll_off f 13 slotsOr14 a0 (by kernel_rfl) z13
            exact flw_val rfl ((wanted_of rfl 73 rfl t73).trans rfl) (.agg #[.int .u64 (s : Int), v13_5]) (ex_loadR 26 (.tmp 13) rfl ⟨b13_7, 0, none⟩ r13 (fun _ => by kernel_rfl) [.int .u64 (s : Int), v13_5] (by kernel_rfl) ((HX_b13_7.out.keepB hS).part [.int .u64 (s : Int), v13_5] 0 (fun j u hu => by rw [Nat.zero_add]; exact hu))) hS (Flz.refl _) (updF_self _ _ _)
          · intro f w1 hS hf
            generalize hA : putAll _ _ f = aA
            have g73 : f 2 = .bool false := hf 2 (by decide)
            have t73 : aA.tmps[73]? = some (.bool false) := by rw [← hA]; exact putAll_g f 73 2 slotsOr14 a0 sbOr14 (by kernel_rfl) zsz rfl g73
            have h76 : f 5 = .agg #[.int .u64 (s : Int), v13_5] := hf 5 (by decide)
            have r76 : aA.eval (.tmp 76) = .agg #[.int .u64 (s : Int), v13_5] := by rw [← hA]; exact putAll_at f 76 5 slotsOr14 a0 sbOr14 (by kernel_rfl) zsz rfl h76
            exact flw_call rfl ((wanted_of rfl 73 rfl t73).trans rfl) 15 #[(.tmp 76)] _ rfl #[.agg #[.int .u64 (s : Int), v13_5]] (by simp only [List.map_toArray, List.map_cons, List.map_nil, r76]) (fun w => by kernel_rfl) (fun v w' => ∃ zz, v = .agg #[.int .u64 (s : Int), zz] ∧ Cs w' zz (tab s m (S))) (tableOf_any s _ _ w1 (Nat.le_trans (tab_small5 HM4.out) (show 10000 ≤ 100000 by decide)) (HU13_5.out.keep hS)) (fun v w' hr hb => ⟨hS.trans (hb.mono hS.size), Flz.of hb, by obtain ⟨zz, a, b⟩ := hr; exact ⟨zz, (updF_self _ _ _).trans a, b⟩⟩)
          · intro f w1 hS hf
            generalize hA : putAll _ _ f = aA
            have g73 : f 2 = .bool false := hf 2 (by decide)
            have t73 : aA.tmps[73]? = some (.bool false) := by rw [← hA]; exact putAll_g f 73 2 slotsOr14 a0 sbOr14 (by kernel_rfl) zsz rfl g73
            obtain ⟨x75, hx75, hr75⟩ := hf 4 (by decide)
            have e75 : aA.eval (.tmp 75) = .agg #[.int .u64 (s : Int), x75] := by rw [← hA]; exact putAll_at f 75 4 slotsOr14 a0 sbOr14 (by kernel_rfl) zsz rfl hx75
            obtain ⟨x77, hx77, hr77⟩ := hf 6 (by decide)
            have e77 : aA.eval (.tmp 77) = .agg #[.int .u64 (s : Int), x77] := by rw [← hA]; exact putAll_at f 77 6 slotsOr14 a0 sbOr14 (by kernel_rfl) zsz rfl hx77
            exact flw_call rfl ((wanted_of rfl 73 rfl t73).trans rfl) 14 #[(.tmp 75), (.tmp 77)] _ rfl #[.agg #[.int .u64 (s : Int), x75], .agg #[.int .u64 (s : Int), x77]] (by simp only [List.map_toArray, List.map_cons, List.map_nil, e75, e77]) (fun w => by kernel_rfl) (fun v _ => v = .bool true) (as_any (sameT_any s _ _ s _ _ w1 (tab_small HM4.out) hr75 hr77) (congrArg Value.bool (same_tv s rfl))) (fun v w' hr hb => ⟨hS.trans (hb.mono hS.size), Flz.of hb, (updF_self _ _ _).trans hr⟩)
          · intro f w1 hS hf
            generalize hA : putAll _ _ f = aA
            have g73 : f 2 = .bool false := hf 2 (by decide)
            have t73 : aA.tmps[73]? = some (.bool false) := by rw [← hA]; exact putAll_g f 73 2 slotsOr14 a0 sbOr14 (by kernel_rfl) zsz rfl g73
            have h78 : f 7 = .bool true := hf 7 (by decide)
            have r78 : aA.eval (.tmp 78) = .bool true := by rw [← hA]; exact putAll_at f 78 7 slotsOr14 a0 sbOr14 (by kernel_rfl) zsz rfl h78
            exact flw_val rfl ((wanted_of rfl 73 rfl t73).trans rfl) (.bool false) (ex_not _ (.tmp 78) rfl r78) hS (Flz.refl _) (updF_self _ _ _)
          · intro f w1 hS hf
            generalize hA : putAll _ _ f = aA
            have h73 : f 2 = .bool false := hf 2 (by decide)
            have r73 : aA.eval (.tmp 73) = .bool false := by rw [← hA]; exact putAll_at f 73 2 slotsOr14 a0 sbOr14 (by kernel_rfl) zsz rfl h73
            have h79 : f 8 = .bool false := hf 8 (by decide)
            have r79 : aA.eval (.tmp 79) = .bool false := by rw [← hA]; exact putAll_at f 79 8 slotsOr14 a0 sbOr14 (by kernel_rfl) zsz rfl h79
            exact flw_val rfl rfl (.bool false) (ex_pick (.tmp 73) _ (.tmp 79) rfl false r73 ((if_neg (by decide)).trans r79)) hS (Flz.refl _) (updF_self _ _ _)
        intro f u14 hS hf hap
        have h0 : f 0 = .int .i64 0 := hf 0 (by decide)
        have h1 : f 1 = .bool false := hf 1 (by decide)
        have h2 : f 2 = .bool false := hf 2 (by decide)
        have h3 : f 3 = .agg #[.int .u64 (s : Int), vz] := hf 3 (by decide)
        obtain ⟨v14_4, h4, hu4⟩ := hf 4 (by decide)
        have HU14_4 := Lib.hid hu4
        clear hu4
        have h5 : f 5 = .agg #[.int .u64 (s : Int), v13_5] := hf 5 (by decide)
        obtain ⟨v14_6, h6, hu6⟩ := hf 6 (by decide)
        have HU14_6 := Lib.hid hu6
        clear hu6
        have h7 : f 7 = .bool true := hf 7 (by decide)
        have h8 : f 8 = .bool false := hf 8 (by decide)
        have h9 : f 9 = .bool false := hf 9 (by decide)
        clear hf hap
        clear zsz z14 z9 z13
        subst ha0
        simp only [slotsOr14, putAll, h0, h1, h2, h3, h4, h5, h6, h7, h8, h9, Act.put, List.setIfInBounds_toArray, List.set_cons_zero, List.set_cons_succ]
        clear h0 h1 h2 h3 h4 h5 h6 h7 h8 h9
        refine tl_nilN ?_
        replace HX := Lib.hid (HX.out.keepB hS)
        replace HZ := Lib.hid (HZ.out.keep hS)
        replace HV := Lib.hid (HV.out.keep hS)
        replace HX_b13_7 := Lib.hid (HX_b13_7.out.keepB hS)
        replace HU13_5 := Lib.hid (HU13_5.out.keep hS)
        replace HB := Lib.hid (HB.out.trans (hS.mono HB.out.size))
        clear hS
        have HOK : Hid (okT (List.replicate m zC)) := Lib.hid (okT_zero m)
        go_wp2_with fail
        go_loopw [15] (fun vi wr => ∃ k : Nat, k ≤ S.length ∧ vi = .int .i64 k ∧ (∃ z, Has wr b5_6 26 [.int .u64 (s : Int), z] ∧ Cs wr z (layA takeC s (S.take k) (tab s m S))) ∧ Us wr v8_1 S ∧ Below w.heap.size w wr) (fun vi _ => S.length - (intOf vi).toNat)
        case atStart => exact ⟨0, by omega, rfl, ⟨_, HX.out, HZ.out⟩, HV.out, HB.out⟩
        case round =>
          clear HX HZ HV HX_b13_7 HU13_5 HB
          rename_i wr
          obtain ⟨k, hk, rfl, ⟨vy, hx, hz⟩, hv, hB⟩ := hrel
          have HX := Lib.hid hx
          have HZ := Lib.hid hz
          have HV := Lib.hid hv
          have HB := Lib.hid hB
          clear hx hz hv hB
          by_cases hlt : k < S.length
          · have HLT : Hid (decide (((k : Int)) < (((S).length : Int))) = true) := Lib.hid (decide_eq_true (by omega))
            have HTK : Hid (S.take (k + 1) = S.take k ++ [S[k]]) := Lib.hid (List.take_succ_eq_append_getElem hlt)
            have HSML : Hid ((layA takeC s (S.take k) (tab s m S)).length ≤ 1000000) := Lib.hid (by rw [layA_len, tab_len]; exact Nat.le_trans HM4.out (by decide))
            go_upto_region 17 with fail
            refine wp_act (fun a0 ha0 => ?_)
            have zsz : a0.tmps.size = 95 := by rw [ha0]; rfl
            have z15 : a0.eval (.tmp 15) = .int .i64 ((k : Int)) := by rw [ha0]; rfl
            have z11 : a0.eval (.tmp 11) = v8_1 := by rw [ha0]; rfl
            refine wp_region_flwo (E := Flz) [] slotsOrm17 waitOrm17 [Fct.val Flz 0 (.int .i64 ((k : Int))), Fct.val Flz 1 (v8_1), Fct.val Flz 2 (.int .i64 (((S).length : Int))), Fct.val Flz 3 (.bool true)] (fun w' => Below wr.heap.size wr w') _ 4 0 chkOrm17 (by kernel_rfl) (by kernel_rfl) (by kernel_rfl) (by decide) (Below.refl _ _) ?_ ?_
            · refine lt_s (lt_s (lt_s (lt_s (lt_0) ?_) ?_) ?_) ?_
              · intro f w1 hS hf
                generalize hA : putAll _ _ f = aA
                have r15 : aA.eval (.tmp 15) = .int .i64 ((k : Int)) := by rw [← hA]; exact putAll_off f 15 slotsOrm17 a0 (by kernel_rfl) z15
                exact flw_val rfl rfl (.int .i64 ((k : Int))) (ex_move (.tmp 15) rfl r15) hS (Flz.refl _) (updF_self _ _ _)
              · intro f w1 hS hf
                generalize hA : putAll _ _ f = aA
                have r11 : aA.eval (.tmp 11) = v8_1 := by rw [← hA]; exact putAll_off f 11 slotsOrm17 a0 (by kernel_rfl) z11
                exact flw_val rfl rfl (v8_1) (ex_move (.tmp 11) rfl r11) hS (Flz.refl _) (updF_self _ _ _)
              · intro f w1 hS hf
                generalize hA : putAll _ _ f = aA
                have h82 : f 1 = v8_1 := hf 1 (by decide)
                have r82 : aA.eval (.tmp 82) = v8_1 := by rw [← hA]; exact putAll_at f 82 1 slotsOrm17 a0 sbOrm17 (by kernel_rfl) zsz rfl h82
                obtain ⟨q9, c9, hv9, _⟩ := (HV.out.keep hS)
                exact flw_val rfl rfl (.int .i64 (((S).length : Int))) (ex_len 44 41 (.tmp 82) rfl (by kernel_rfl) q9 (S).length c9 (r82.trans hv9)) hS (Flz.refl _) (updF_self _ _ _)
              · intro f w1 hS hf
                generalize hA : putAll _ _ f = aA
                have h81 : f 0 = .int .i64 ((k : Int)) := hf 0 (by decide)
                have r81 : aA.eval (.tmp 81) = .int .i64 ((k : Int)) := by rw [← hA]; exact putAll_at f 81 0 slotsOrm17 a0 sbOrm17 (by kernel_rfl) zsz rfl h81
                have h83 : f 2 = .int .i64 (((S).length : Int)) := hf 2 (by decide)
                have r83 : aA.eval (.tmp 83) = .int .i64 (((S).length : Int)) := by rw [← hA]; exact putAll_at f 83 2 slotsOrm17 a0 sbOrm17 (by kernel_rfl) zsz rfl h83
                exact flw_val rfl rfl (.bool true) (Eq.trans (ex_int .lss _ _ (.tmp 81) (.tmp 83) rfl .i64 ((k : Int)) (((S).length : Int)) r81 r83 (.bool (decide (((k : Int)) < (((S).length : Int))))) (fun _ => rfl)) (by rw [HLT.out])) hS (Flz.refl _) (updF_self _ _ _)
            intro f u17 hS hf hap
            have h0 : f 0 = .int .i64 ((k : Int)) := hf 0 (by decide)
            have h1 : f 1 = v8_1 := hf 1 (by decide)
            have h2 : f 2 = .int .i64 (((S).length : Int)) := hf 2 (by decide)
            have h3 : f 3 = .bool true := hf 3 (by decide)
            clear hf hap
            clear zsz z15 z11
            subst ha0
            simp only [slotsOrm17, putAll, h0, h1, h2, h3, Act.put, List.setIfInBounds_toArray, List.set_cons_zero, List.set_cons_succ]
            clear h0 h1 h2 h3
            refine tl_nil ?_
            replace HX := Lib.hid (HX.out.keepB hS)
            replace HZ := Lib.hid (HZ.out.keep hS)
            replace HV := Lib.hid (HV.out.keep hS)
            replace HB := Lib.hid (HB.out.trans (hS.mono HB.out.size))
            clear hS
            go_upto_region 19 with fail
            have HST : Hid (Below u17.heap.size u17 u17.drew) := Lib.hid (Below.refl _ _).drew
            replace HX := Lib.hid (HX.out.keepB HST.out)
            replace HZ := Lib.hid (HZ.out.keep HST.out)
            replace HV := Lib.hid (HV.out.keep HST.out)
            replace HB := Lib.hid (HB.out.trans (HST.out.mono HB.out.size))
            clear HST
            obtain ⟨a, cq, hav, hac⟩ := Us.elU HV.out hlt
            have HAV := Lib.hid hav
            have HAC := Lib.hid hac
            clear hav hac
            refine wp_act (fun a0 ha0 => ?_)
            have zsz : a0.tmps.size = 95 := by rw [ha0]; rfl
            have z9 : a0.eval (.tmp 9) = .pointer (some ⟨b5_6, 0, none⟩) := by rw [ha0]; rfl
            have z11 : a0.eval (.tmp 11) = v8_1 := by rw [ha0]; rfl
            have z15 : a0.eval (.tmp 15) = .int .i64 ((k : Int)) := by rw [ha0]; rfl
            refine wp_region_flw (E := Flz) [] slotsOr19 waitOr19 [Fct.val Flz 0 (.agg #[.int .u64 (s : Int), vy]), Fct.val Flz 1 (v8_1), Fct.val Flz 2 (.int .i64 ((k : Int))), Fct.val Flz 3 (.pointer (some (a.add (k * 32)))), Fct.val Flz 4 (.agg (encU ((S[k]))).toArray), Fct.obj 5 (fun v w => ∃ zz, v = .agg #[.int .u64 (s : Int), zz] ∧ Cs w zz (layT takeC s ((S[k])) (layA takeC s (S.take k) (tab s m S)))) (fun _ _ _ ⟨zz, a, b⟩ he => ⟨zz, a, b.flz he⟩)] (fun w' => Below u17.drew.heap.size u17.drew w') _ 6 1 chkOr19 (by kernel_rfl) (by kernel_rfl) (by kernel_rfl) (by kernel_rfl) (by decide) (Below.refl _ _) ?_ ?_
            · refine lt_s (lt_s (lt_s (lt_s (lt_s (lt_s (lt_0) ?_) ?_) ?_) ?_) ?_) ?_
              · intro f w1 hS hf
                generalize hA : putAll _ _ f = aA
                have r9 : aA.eval (.tmp 9) = .pointer (some ⟨b5_6, 0, none⟩) := by rw [← hA]; exact putAll_off f 9 slotsOr19 a0 (by kernel_rfl) z9
                exact flw_val rfl rfl (.agg #[.int .u64 (s : Int), vy]) (ex_loadR 26 (.tmp 9) rfl ⟨b5_6, 0, none⟩ r9 (fun _ => by kernel_rfl) [.int .u64 (s : Int), vy] (by kernel_rfl) ((HX.out.keepB hS).part [.int .u64 (s : Int), vy] 0 (fun j u hu => by rw [Nat.zero_add]; exact hu))) hS (Flz.refl _) (updF_self _ _ _)
              · intro f w1 hS hf
                generalize hA : putAll _ _ f = aA
                have r11 : aA.eval (.tmp 11) = v8_1 := by rw [← hA]; exact putAll_off f 11 slotsOr19 a0 (by kernel_rfl) z11
                exact flw_val rfl rfl (v8_1) (ex_move (.tmp 11) rfl r11) hS (Flz.refl _) (updF_self _ _ _)
              · intro f w1 hS hf
                generalize hA : putAll _ _ f = aA
                have r15 : aA.eval (.tmp 15) = .int .i64 ((k : Int)) := by rw [← hA]; exact putAll_off f 15 slotsOr19 a0 (by kernel_rfl) z15
                exact flw_val rfl rfl (.int .i64 ((k : Int))) (ex_move (.tmp 15) rfl r15) hS (Flz.refl _) (updF_self _ _ _)
              · intro f w1 hS hf
                generalize hA : putAll _ _ f = aA
                have h88 : f 1 = v8_1 := hf 1 (by decide)
                have r88 : aA.eval (.tmp 88) = v8_1 := by rw [← hA]; exact putAll_at f 88 1 slotsOr19 a0 sbOr19 (by kernel_rfl) zsz rfl h88
                have h89 : f 2 = .int .i64 ((k : Int)) := hf 2 (by decide)
                have r89 : aA.eval (.tmp 89) = .int .i64 ((k : Int)) := by rw [← hA]; exact putAll_at f 89 2 slotsOr19 a0 sbOr19 (by kernel_rfl) zsz rfl h89
                exact flw_val rfl rfl (.pointer (some (a.add (k * 32)))) (ex_indexS 44 41 (.tmp 88) (.tmp 89) rfl a S.length cq k 32 (by kernel_rfl) (fun _ => by kernel_rfl) (Eq.trans r88 HAV.out) r89 hlt) hS (Flz.refl _) (updF_self _ _ _)
              · intro f w1 hS hf
                generalize hA : putAll _ _ f = aA
                have h90 : f 3 = .pointer (some (a.add (k * 32))) := hf 3 (by decide)
                have r90 : aA.eval (.tmp 90) = .pointer (some (a.add (k * 32))) := by rw [← hA]; exact putAll_at f 90 3 slotsOr19 a0 sbOr19 (by kernel_rfl) zsz rfl h90
                exact flw_val rfl rfl (.agg (encU ((S[k]))).toArray) (ex_loadR 41 (.tmp 90) rfl (a.add (k * 32)) r90 (fun _ => by kernel_rfl) (encU ((S[k]))) (by rw [encU_len]; kernel_rfl) (HAC.out w1 hS.block)) hS (Flz.refl _) (updF_self _ _ _)
              · intro f w1 hS hf
                generalize hA : putAll _ _ f = aA
                have h87 : f 0 = .agg #[.int .u64 (s : Int), vy] := hf 0 (by decide)
                have r87 : aA.eval (.tmp 87) = .agg #[.int .u64 (s : Int), vy] := by rw [← hA]; exact putAll_at f 87 0 slotsOr19 a0 sbOr19 (by kernel_rfl) zsz rfl h87
                have h91 : f 4 = .agg (encU ((S[k]))).toArray := hf 4 (by decide)
                have r91 : aA.eval (.tmp 91) = .agg (encU ((S[k]))).toArray := by rw [← hA]; exact putAll_at f 91 4 slotsOr19 a0 sbOr19 (by kernel_rfl) zsz rfl h91
                exact flw_call rfl rfl 17 #[(.tmp 87), (.tmp 91)] _ rfl #[.agg #[.int .u64 (s : Int), vy], .agg (encU ((S[k]))).toArray] (by simp only [List.map_toArray, List.map_cons, List.map_nil, r87, r91]) (fun w => by kernel_rfl) (fun v w' => ∃ zz, v = .agg #[.int .u64 (s : Int), zz] ∧ Cs w' zz (layT takeC s ((S[k])) (layA takeC s (S.take k) (tab s m S)))) (takeT_any s ((S[k])) _ _ w1 HSD.out (HL.out.keep (HB.out.trans (hS.mono HB.out.size)) HSZ.out) HSML.out (HZ.out.keep hS)) (fun v w' hr hb => ⟨hS.trans (hb.mono hS.size), Flz.of hb, by obtain ⟨zz, a, b⟩ := hr; exact ⟨zz, (updF_self _ _ _).trans a, b⟩⟩)
            intro f u19 hS hf hap
            have h0 : f 0 = .agg #[.int .u64 (s : Int), vy] := hf 0 (by decide)
            have h1 : f 1 = v8_1 := hf 1 (by decide)
            have h2 : f 2 = .int .i64 ((k : Int)) := hf 2 (by decide)
            have h3 : f 3 = .pointer (some (a.add (k * 32))) := hf 3 (by decide)
            have h4 : f 4 = .agg (encU ((S[k]))).toArray := hf 4 (by decide)
            obtain ⟨v19_5, h5, hu5⟩ := hf 5 (by decide)
            have HU19_5 := Lib.hid hu5
            clear hu5
            clear hf hap
            clear zsz z9 z11 z15
            subst ha0
            simp only [slotsOr19, putAll, h0, h1, h2, h3, h4, h5, Act.put, List.setIfInBounds_toArray, List.set_cons_zero, List.set_cons_succ]
            clear h0 h1 h2 h3 h4 h5
            have hBS := HB.out.trans (hS.mono HB.out.size)
            replace HX := Lib.hid (HX.out.keepB hS)
            replace HZ := Lib.hid (HZ.out.keep hS)
            replace HV := Lib.hid (HV.out.keep hS)
            clear hS
            refine tl_store rfl (by kernel_rfl) 26 (.tmp 9) (.tmp 92) rfl b5_6 ([.int .u64 (s : Int), v19_5]) _ rfl rfl _ HX.out (by kernel_rfl) rfl (tb_ones _ HU19_5.out.one) ?_
            intro u20 hp hbl hot
            replace HZ := Lib.hid (HZ.out.hotb HX.out HZ.out.sl (by decide) (hbl 0 (Nat.zero_le _)).size hot)
            replace HV := Lib.hid (HV.out.hotb HX.out HZ.out.sl (by decide) (hbl 0 (Nat.zero_le _)).size hot)
            replace HU19_5 := Lib.hid (HU19_5.out.hotb HX.out HZ.out.sl (by decide) (hbl 0 (Nat.zero_le _)).size hot)
            replace HX : Hid (Has u20 b5_6 26 ([.int .u64 (s : Int), v19_5])) := Lib.hid hp
            replace hBS := hBS.trans (hbl _ HGb5_6.out)
            clear hp hbl hot
            try simp only [Act.put]
            refine tl_nilN ?_
            replace HB := Lib.hid hBS
            clear hBS
            go_wp2_with fail
            go_roundw
            case rel => exact ⟨k + 1, by omega, by go_num, ⟨_, HX.out, by rw [HTK.out, layA_snoc]; exact HU19_5.out⟩, HV.out, HB.out⟩
            case measure => simp [intOf]; omega
          · have hkS : k = S.length := by omega
            have HFN : Hid (layA takeC s (S.take k) (tab s m S) = List.replicate m zC) := Lib.hid (by rw [hkS, List.take_length]; exact takeA_put S _ HOK.out)
            have HLT : Hid (decide (((k : Int)) < (((S).length : Int))) = false) := Lib.hid (decide_eq_false (by omega))
            rw [HFN.out] at HZ
            clear hkS HFN
            go_upto_region 17 with fail
            refine wp_act (fun a0 ha0 => ?_)
            have zsz : a0.tmps.size = 95 := by rw [ha0]; rfl
            have z15 : a0.eval (.tmp 15) = .int .i64 ((k : Int)) := by rw [ha0]; rfl
            have z11 : a0.eval (.tmp 11) = v8_1 := by rw [ha0]; rfl
            refine wp_region_flwo (E := Flz) [] slotsOrn17 waitOrn17 [Fct.val Flz 0 (.int .i64 ((k : Int))), Fct.val Flz 1 (v8_1), Fct.val Flz 2 (.int .i64 (((S).length : Int))), Fct.val Flz 3 (.bool false)] (fun w' => Below wr.heap.size wr w') _ 4 0 chkOrn17 (by kernel_rfl) (by kernel_rfl) (by kernel_rfl) (by decide) (Below.refl _ _) ?_ ?_
            · refine lt_s (lt_s (lt_s (lt_s (lt_0) ?_) ?_) ?_) ?_
              · intro f w1 hS hf
                generalize hA : putAll _ _ f = aA
                have r15 : aA.eval (.tmp 15) = .int .i64 ((k : Int)) := by rw [← hA]; exact putAll_off f 15 slotsOrn17 a0 (by kernel_rfl) z15
                exact flw_val rfl rfl (.int .i64 ((k : Int))) (ex_move (.tmp 15) rfl r15) hS (Flz.refl _) (updF_self _ _ _)
              · intro f w1 hS hf
                generalize hA : putAll _ _ f = aA
                have r11 : aA.eval (.tmp 11) = v8_1 := by rw [← hA]; exact putAll_off f 11 slotsOrn17 a0 (by kernel_rfl) z11
                exact flw_val rfl rfl (v8_1) (ex_move (.tmp 11) rfl r11) hS (Flz.refl _) (updF_self _ _ _)
              · intro f w1 hS hf
                generalize hA : putAll _ _ f = aA
                have h82 : f 1 = v8_1 := hf 1 (by decide)
                have r82 : aA.eval (.tmp 82) = v8_1 := by rw [← hA]; exact putAll_at f 82 1 slotsOrn17 a0 sbOrn17 (by kernel_rfl) zsz rfl h82
                obtain ⟨q9, c9, hv9, _⟩ := (HV.out.keep hS)
                exact flw_val rfl rfl (.int .i64 (((S).length : Int))) (ex_len 44 41 (.tmp 82) rfl (by kernel_rfl) q9 (S).length c9 (r82.trans hv9)) hS (Flz.refl _) (updF_self _ _ _)
              · intro f w1 hS hf
                generalize hA : putAll _ _ f = aA
                have h81 : f 0 = .int .i64 ((k : Int)) := hf 0 (by decide)
                have r81 : aA.eval (.tmp 81) = .int .i64 ((k : Int)) := by rw [← hA]; exact putAll_at f 81 0 slotsOrn17 a0 sbOrn17 (by kernel_rfl) zsz rfl h81
                have h83 : f 2 = .int .i64 (((S).length : Int)) := hf 2 (by decide)
                have r83 : aA.eval (.tmp 83) = .int .i64 (((S).length : Int)) := by rw [← hA]; exact putAll_at f 83 2 slotsOrn17 a0 sbOrn17 (by kernel_rfl) zsz rfl h83
                exact flw_val rfl rfl (.bool false) (Eq.trans (ex_int .lss _ _ (.tmp 81) (.tmp 83) rfl .i64 ((k : Int)) (((S).length : Int)) r81 r83 (.bool (decide (((k : Int)) < (((S).length : Int))))) (fun _ => rfl)) (by rw [HLT.out])) hS (Flz.refl _) (updF_self _ _ _)
            intro f u17 hS hf hap
            have h0 : f 0 = .int .i64 ((k : Int)) := hf 0 (by decide)
            have h1 : f 1 = v8_1 := hf 1 (by decide)
            have h2 : f 2 = .int .i64 (((S).length : Int)) := hf 2 (by decide)
            have h3 : f 3 = .bool false := hf 3 (by decide)
            clear hf hap
            clear zsz z15 z11
            subst ha0
            simp only [slotsOrn17, putAll, h0, h1, h2, h3, Act.put, List.setIfInBounds_toArray, List.set_cons_zero, List.set_cons_succ]
            clear h0 h1 h2 h3
            refine tl_nil ?_
            replace HX := Lib.hid (HX.out.keepB hS)
            replace HZ := Lib.hid (HZ.out.keep hS)
            replace HV := Lib.hid (HV.out.keep hS)
            replace HB := Lib.hid (HB.out.trans (hS.mono HB.out.size))
            clear hS
            go_upto_region 20 with fail
            refine wp_act (fun a0 ha0 => ?_)
            have zsz : a0.tmps.size = 95 := by rw [ha0]; rfl
            have z9 : a0.eval (.tmp 9) = .pointer (some ⟨b5_6, 0, none⟩) := by rw [ha0]; rfl
            refine wp_region_flwo (E := Flz) [] slotsOrn20 waitOrn20 [Fct.val Flz 0 (.agg #[.int .u64 (s : Int), vy]), Fct.val Flz 1 (.bool true), Fct.val Flz 2 (.bool true)] (fun w' => Below u17.heap.size u17 w') _ 3 0 chkOrn20 (by kernel_rfl) (by kernel_rfl) (by kernel_rfl) (by decide) (Below.refl _ _) ?_ ?_
            · refine lt_s (lt_s (lt_s (lt_0) ?_) ?_) ?_
              · intro f w1 hS hf
                generalize hA : putAll _ _ f = aA
                have r9 : aA.eval (.tmp 9) = .pointer (some ⟨b5_6, 0, none⟩) := by rw [← hA]; exact putAll_off f 9 slotsOrn20 a0 (by kernel_rfl) z9
                exact flw_val rfl rfl (.agg #[.int .u64 (s : Int), vy]) (ex_loadR 26 (.tmp 9) rfl ⟨b5_6, 0, none⟩ r9 (fun _ => by kernel_rfl) [.int .u64 (s : Int), vy] (by kernel_rfl) ((HX.out.keepB hS).part [.int .u64 (s : Int), vy] 0 (fun j u hu => by rw [Nat.zero_add]; exact hu))) hS (Flz.refl _) (updF_self _ _ _)
              · intro f w1 hS hf
                generalize hA : putAll _ _ f = aA
                have h93 : f 0 = .agg #[.int .u64 (s : Int), vy] := hf 0 (by decide)
                have r93 : aA.eval (.tmp 93) = .agg #[.int .u64 (s : Int), vy] := by rw [← hA]; exact putAll_at f 93 0 slotsOrn20 a0 sbOrn20 (by kernel_rfl) zsz rfl h93
                exact flw_call rfl rfl 12 #[(.tmp 93)] _ rfl #[.agg #[.int .u64 (s : Int), vy]] (by simp only [List.map_toArray, List.map_cons, List.map_nil, r93]) (fun w => by kernel_rfl) (fun v _ => v = .bool true) (as_any (zeroT_any _ _ _ w1 (by rw [List.length_replicate]; exact Nat.le_trans HM4.out (by decide)) (HZ.out.keep hS)) (congrArg Value.bool (zero_repl HGM.out))) (fun v w' hr hb => ⟨hS.trans (hb.mono hS.size), Flz.of hb, (updF_self _ _ _).trans hr⟩)
              · intro f w1 hS hf
                generalize hA : putAll _ _ f = aA
                have h94 : f 1 = .bool true := hf 1 (by decide)
                have r94 : aA.eval (.tmp 94) = .bool true := by rw [← hA]; exact putAll_at f 94 1 slotsOrn20 a0 sbOrn20 (by kernel_rfl) zsz rfl h94
                exact flw_val rfl rfl (.bool true) (ex_assign (.tmp 94) rfl r94) hS (Flz.refl _) (updF_self _ _ _)
            intro f u20 hS hf hap
            have h0 : f 0 = .agg #[.int .u64 (s : Int), vy] := hf 0 (by decide)
            have h1 : f 1 = .bool true := hf 1 (by decide)
            have h2 : f 2 = .bool true := hf 2 (by decide)
            clear hf hap
            clear zsz z9
            subst ha0
            simp only [slotsOrn20, putAll, h0, h1, h2, Act.put, List.setIfInBounds_toArray, List.set_cons_zero, List.set_cons_succ]
            clear h0 h1 h2
            refine tl_nil ?_
            replace HX := Lib.hid (HX.out.keepB hS)
            replace HZ := Lib.hid (HZ.out.keep hS)
            replace HV := Lib.hid (HV.out.keep hS)
            replace HB := Lib.hid (HB.out.trans (hS.mono HB.out.size))
            clear hS
            go_wp2_with fail
            go_ret
            exact ⟨rfl, HB.out⟩
theorem tableOrder_law (s : Nat) (n : Int) (l : List Int) (turn : Int) (q : Option Addr) (cp : Nat) (w : World) (hs : s < 18446744073709551616) (ht : turn ≤ 9223372036854775807) (hL : Laid w) (ha : Sees w w.heap.size q (l.map fun n => Value.int .i64 n)) : Calls Tryd.prog 6 #[.int .u64 (s : Int), .int .i64 n, .slice q l.length cp, .int .i64 turn] w fun e w' => e = .returned (.bool true) ∧ Below w.heap.size w w' := tableOrder_b s n l turn q cp w w (Below.refl _ _) hs ht hL ha
end Go.Proofs.YtepeloenijlnhaaDoor
