/- Contract: math/bits.TrailingZeros64. Condition: its table is laid. -/
import Derived.Test.YtbkddcafalhflaaDoorGp1
import Derived.Test.YtbkddcafalhflaaDoorGp2
namespace Go.Proofs.YtbkddcafalhflaaDoor
open Go.RowKit
theorem M_and (x y : BitVec 64) : bits .and .u64 (M x) (M y) = M (x &&& y) := by
  show IntKind.u64.wrap ((BitVec.ofInt 64 (M x) &&& BitVec.ofInt 64 (M y)).toNat : Int) = _
  rw [ofInt_M, ofInt_M, wrap_M]
theorem M_neg (x : BitVec 64) : IntKind.u64.wrap (- M x) = M (-x) := by
  rw [wrap_u64']; unfold M; rw [BitVec.toNat_neg]; have := x.isLt; omega
theorem low_M (x : BitVec 64) (h : 0 < x.toNat) : M (x &&& -x) = ((2 ^ lvN x.toNat 64 : Nat) : Int) := by
  unfold M
  rw [BitVec.toNat_and, BitVec.toNat_neg, Nat.mod_eq_of_lt (by have := x.isLt; omega), low_bit _ h x.isLt]
/-- The table is laid. -/
def DeB (w : World) : Prop := 0 < w.heap.size ∧ ∀ i, i < 64 → w.cell? ⟨0, i, none⟩ = some (.int .u8 (debruijn.getD i 0))
theorem DeB.keep {w w' : World} {b : Nat} (h : DeB w) (hb : Below b w w') (hg : 0 < b) : DeB w' := ⟨Nat.lt_of_lt_of_le h.1 hb.size, fun i hi => (hb.cell (by exact hg)).trans (h.2 i hi)⟩
theorem DeB.keepB {w w' : World} (h : DeB w) (hb : Below w.heap.size w w') : DeB w' := h.keep hb h.1
theorem tz_index (t : Nat) (ht : t < 64) : ∃ i : Nat, i < 64 ∧ IntKind.u64.wrap (((2 ^ t : Nat) : Int) * 285870213051353865) / 288230376151711744 = i ∧ debruijn.getD i 0 = t := by
  refine ⟨(2 ^ t * 285870213051353865 % 2 ^ 64) / 2 ^ 58, debruijn_lt _, ?_, ?_⟩
  · rw [wrap_u64']
    have : ((2 ^ t * 285870213051353865 % 2 ^ 64 / 2 ^ 58 : Nat) : Int) = ((2 ^ t : Nat) : Int) * 285870213051353865 % 18446744073709551616 / 288230376151711744 := by
      rw [Int.natCast_ediv, Int.natCast_emod, Int.natCast_mul]; rfl
    exact this.symm
  · rw [List.getD_eq_getElem?_getD, debruijn_at t ht]; rfl
set_option maxHeartbeats 2000000 in
theorem tz_any (x : BitVec 64) (w : World) (hD : DeB w) : Calls Tryd.prog 17 #[.int .u64 (M x)] w fun e w' => (∃ v, e = .returned v ∧ v = .int .i64 (lvN x.toNat 64 : Nat)) ∧ Below w.heap.size w w' := by
  by_cases h0 : x = 0
  · subst h0
    have e : ((lvN (0 : BitVec 64).toNat 64 : Nat) : Int) = 64 := by decide
    rw [e]
    have hM : M 0 = 0 := rfl
    rw [hM]
    go_enter Tryd.func17, Tryd.ntmps17
    go_wp2_with fail
    go_ret
    exact ⟨⟨_, rfl, rfl⟩, Below.refl _ _⟩
  · have hp : 0 < x.toNat := by
      rcases Nat.eq_zero_or_pos x.toNat with h | h
      · exact absurd (BitVec.eq_of_toNat_eq h) h0
      · exact h
    obtain ⟨ht, -⟩ := lvN_odd 64 x.toNat hp x.isLt
    have hl := low_M x hp
    obtain ⟨i, hi, he, hd⟩ := tz_index _ ht
    have hc := hD.2 i hi
    rw [hd] at hc
    generalize lvN x.toNat 64 = t at *
    have hx0 : ¬ (M x = 0) := by unfold M; omega
    have hn := M_neg x
    have ha := M_and x (-x)
    rw [hl] at ha
    generalize ((2 ^ t : Nat) : Int) = p at *
    generalize M (-x) = y at *
    generalize M x = z at *
    have i0 : (0 : Int) ≤ (i : Int) := by omega
    have i1 : (i : Int) < 64 := by omega
    have t0 : (t : Int) < 64 := by omega
    clear hl hd hp h0 ht hi hD
    go_enter Tryd.func17, Tryd.ntmps17
    go_wp2_with fail
    go_ret
    exact ⟨⟨_, rfl, rfl⟩, Below.refl _ _⟩
end Go.Proofs.YtbkddcafalhflaaDoor
/- Contract: place.Level. Conditions: the sums' tables and the table of trailing noughts are laid. -/
namespace Go.Proofs.YtbkddcafalhflaaDoor
open Go.RowKit
theorem level_min (x : Su) : min ((lvN (levelW x).toNat 64 : Nat) : Int) 9 = (levelN x : Nat) := by
  unfold levelN
  have := lvN_min 9 64 (levelW x).toNat (by omega)
  omega
def waitPlv1 (i : Nat) : List Nat := ([[], [], [0, 1], [2], [], [0, 1, 2, 3, 4]] : List (List Nat)).getD i []
def slotsPlv1 : List (Nat × Nat) := [(4, 0), (5, 1), (6, 2), (7, 3), (3, 4)]
theorem sbPlv1 : slotsB slotsPlv1 = true := by kernel_rfl
theorem chkPlv1 : flwO slotsPlv1 waitPlv1 5 (regOf Tryd.f9.body 1) = true := by kernel_rfl
set_option maxHeartbeats 4000000 in
set_option maxRecDepth 100000 in
theorem level14_b (x : Su) (w w0 : World) (hB : Below w.heap.size w w0) (hL : Laid w) (hD : DeB w) :
    Calls Tryd.prog 9 #[.agg (encU x).toArray] w0 fun e w' => e = .returned (.int .i64 (levelN x : Nat)) ∧ Below w.heap.size w w' := by
  have HL := Lib.hid hL
  have HSZ := Lib.hid hL.size
  have HB := Lib.hid hB
  have HD : Hid (∀ w', Below w.heap.size w w' → DeB w') := Lib.hid (fun _ hb => hD.keep hb hD.1)
  clear hL hB hD
  go_enter Tryd.func9, Tryd.ntmps9
  go_upto_region 0 with fail
  refine wp_region_lit ?_
  try simp only [Act.put, List.setIfInBounds_toArray, List.set_cons_zero, List.set_cons_succ]
  refine lp_step rfl (fun K hK => wp_box_row 28 (.tmp 0) rfl (.agg (encU x).toArray) rfl (hK _ _ ?_))
  try simp only [Act.put, List.setIfInBounds_toArray, List.set_cons_zero, List.set_cons_succ]
  show wpList _ _ _ _ _ (w0.alloc (.cells (encU x).toArray 28))
  have HST : Hid (Below w0.heap.size w0 (w0.alloc (.cells (encU x).toArray 28))) := Lib.hid ((Below.refl _ _).alloc (Nat.le_refl _) _)
  have HX1 : Hid (Has (w0.alloc (.cells (encU x).toArray 28)) w0.heap.size 28 (encU x)) := Lib.hid (Has.made' _ _ _ _ rfl)
  have HGg1 : Hid (w.heap.size ≤ w0.heap.size) := Lib.hid HB.out.size
  replace HB := Lib.hid (HB.out.trans (HST.out.mono HB.out.size))
  clear HST
  generalize w0.alloc (.cells (encU x).toArray 28) = w1 at *
  generalize w0.heap.size = g1 at *
  refine lp_pure rfl (ex_assign _ rfl rfl) ?_
  try simp only [Act.put, List.setIfInBounds_toArray, List.set_cons_zero, List.set_cons_succ]
  refine wpList_nil ?_
  go_upto_region 1 with fail
  refine wp_act (fun a0 ha0 => ?_)
  have zsz : a0.tmps.size = 12 := by rw [ha0]; rfl
  have z1 : a0.eval (.tmp 1) = .pointer (some ⟨g1, 0, none⟩) := by rw [ha0]; rfl
  refine wp_region_flwo (E := Flz) [] slotsPlv1 waitPlv1 [Fct.obj 0 (fun v w => ∃ g, v = .slice (some ⟨g, 0, none⟩) 1 1 ∧ w1.heap.size ≤ g ∧ Cl w g 5 (t76.map u8v)) (fun _ _ _ ⟨g, a, b, c⟩ he => ⟨g, a, b, c.flz he⟩), Fct.val Flz 1 (.slice (some ⟨g1, 0, none⟩) 32 32), Fct.obj 2 (fun v w => ∃ g k, v = .slice (some ⟨k, 0, none⟩) 2 2 ∧ Cl w k 36 [.slice (some ⟨g, 0, none⟩) 1 1, .slice (some ⟨g1, 0, none⟩) 32 32] ∧ Cl w g 5 (t76.map u8v)) (fun _ _ _ ⟨g, k, a, b, c⟩ he => ⟨g, k, a, b.flz he, c.flz he⟩), Fct.val Flz 3 (.agg (encU (shaU (t76 ++ (x).1))).toArray), Fct.obj 4 (fun v w => ∃ g, v = .pointer (some ⟨g, 0, none⟩) ∧ w1.heap.size ≤ g ∧ Has w g 28 (encU zS)) (fun _ _ _ ⟨g, a, b, c⟩ he => ⟨g, a, b, c.flz he (by decide)⟩)] (fun w' => Below w1.heap.size w1 w') _ 5 1 chkPlv1 (by kernel_rfl) (by kernel_rfl) (by kernel_rfl) (by decide) (Below.refl _ _) ?_ ?_
  · refine lt_s (lt_s (lt_s (lt_s (lt_s (lt_0) ?_) ?_) ?_) ?_) ?_
    · intro f w1 hS hf
      generalize hA : putAll _ _ f = aA
      exact flw_wp rfl rfl (fun K hK => wp_lit8 1 _ rfl ((t76.map u8v).toArray) (by decide) (by decide) (by kernel_rfl) (hK _ _ (hS.alloc hS.size _) (Flz.al _ _) ⟨_, updF_self _ _ _, hS.size, Cl.made _ _ _⟩))
    · intro f w1 hS hf
      generalize hA : putAll _ _ f = aA
      have r1 : aA.eval (.tmp 1) = .pointer (some ⟨g1, 0, none⟩) := by rw [← hA]; exact putAll_off f 1 slotsPlv1 a0 (by kernel_rfl) z1
      exact flw_val rfl rfl (.slice (some ⟨g1, 0, none⟩) 32 32) (ex_sliceU (.tmp 1) rfl g1 r1) hS (Flz.refl _) (updF_self _ _ _)
    · intro f w1 hS hf
      generalize hA : putAll _ _ f = aA
      have e4 : aA.eval (.tmp 4) = f 0 := by rw [← hA]; exact putAll_at f 4 0 slotsPlv1 a0 sbPlv1 (by kernel_rfl) zsz rfl rfl
      have h5 : f 1 = .slice (some ⟨g1, 0, none⟩) 32 32 := hf 1 (by decide)
      have r5 : aA.eval (.tmp 5) = .slice (some ⟨g1, 0, none⟩) 32 32 := by rw [← hA]; exact putAll_at f 5 1 slotsPlv1 a0 sbPlv1 (by kernel_rfl) zsz rfl h5
      obtain ⟨g, hv, hg, hc⟩ := hf 0 (by decide)
      exact flw_wp rfl rfl (fun K hK => wp_two_bs (.tmp 4) (.tmp 5) rfl (some ⟨g, 0, none⟩) 1 1 (some ⟨g1, 0, none⟩) 32 32 (e4.trans hv) r5 (hK _ _ (hS.alloc hS.size _) (Flz.al _ _) ⟨g, _, updF_self _ _ _, Cl.made _ _ [_, _], hc.flz (Flz.al _ _)⟩))
    · intro f w1 hS hf
      generalize hA : putAll _ _ f = aA
      have e6 : aA.eval (.tmp 6) = f 2 := by rw [← hA]; exact putAll_at f 6 2 slotsPlv1 a0 sbPlv1 (by kernel_rfl) zsz rfl rfl
      obtain ⟨g, k, hv, hk, hc⟩ := hf 2 (by decide)
      have hlen : (x).1.length = 32 := (x).2
      have HOF := of_at2 (x := t76) (y := (x).1) hk (some ⟨g, 0, none⟩) 1 rfl (by decide) hc.sees (some ⟨g1, 0, none⟩) 32 (by rw [hlen]) (Nat.le_of_eq hlen) (Cl.sees (HX1.out.keepB hS).cl) (by rw [hlen]; decide) (HL.out.keep (HB.out.trans (hS.mono HB.out.size)) HSZ.out)
      exact flw_call rfl rfl 14 #[(.tmp 6)] _ rfl #[.slice (some ⟨k, 0, none⟩) 2 2] (by simp only [List.map_toArray, List.map_cons, List.map_nil, e6, hv]) (fun w => by kernel_rfl) (fun v _ => v = .agg (encU (shaU (t76 ++ (x).1))).toArray) HOF (fun v w' hr hb => ⟨hS.trans (hb.mono hS.size), Flz.of hb, (updF_self _ _ _).trans hr⟩)
    · intro f w1 hS hf
      generalize hA : putAll _ _ f = aA
      exact flw_wp rfl rfl (fun K hK => wp_alloc_row 28 rfl (.agg (encU zS).toArray) (fun w => by kernel_rfl) (hK _ _ (hS.alloc hS.size _) (Flz.al _ _) ⟨_, updF_self _ _ _, hS.size, Has.made' _ _ _ _ rfl⟩))
  intro f u1 hS hf hap
  obtain ⟨gl0, h0, -⟩ := hf 0 (by decide)
  have h1 : f 1 = .slice (some ⟨g1, 0, none⟩) 32 32 := hf 1 (by decide)
  obtain ⟨_, gl2, h2, -⟩ := hf 2 (by decide)
  have h3 : f 3 = .agg (encU (shaU (t76 ++ (x).1))).toArray := hf 3 (by decide)
  obtain ⟨b1_4, h4, hgb4, hhb4⟩ := hf 4 (by decide)
  clear hf hap
  clear zsz z1
  subst ha0
  simp only [slotsPlv1, putAll, h0, h1, h2, h3, h4, Act.put, List.setIfInBounds_toArray, List.set_cons_zero, List.set_cons_succ]
  clear h0 h1 h2 h3 h4
  refine tl_store rfl (by kernel_rfl) 28 (.tmp 3) (.tmp 7) rfl b1_4 (encU (shaU (t76 ++ x.1))) _ rfl rfl _ hhb4 (by rw [encU_len]; kernel_rfl) (by simp only [encU_len]) (encU_all _) ?_
  intro w9 hp4 hbl hot
  replace hS := hS.trans (hbl _ hgb4)
  clear hbl hot hhb4
  try simp only [Act.put]
  refine tl_nil ?_
  replace HX1 := Lib.hid (HX1.out.keepB hS)
  have HBW := Lib.hid HB.out.size
  replace HB := Lib.hid (HB.out.trans (hS.mono HB.out.size))
  clear hS
  have HGb1_4 : Hid (w.heap.size ≤ b1_4) := Lib.hid (Nat.le_trans HBW.out hgb4)
  have HX_b1_4 : Hid (Has w9 b1_4 28 (encU (shaU (t76 ++ x.1)))) := Lib.hid hp4
  clear hp4 hgb4
  clear HBW
  have HWD : Hid (∀ w, Calls Tryd.prog 16 #[.agg (encU (shaU (t76 ++ x.1))).toArray, .int .i64 3] w fun e w' => e = .returned (.int .u64 (M (levelW x))) ∧ Below w.heap.size w w') := Lib.hid (word_any (shaU (t76 ++ x.1)).1 (shaU (t76 ++ x.1)).2 3)
  have HMN := Lib.hid (level_min x)
  have HLE := Lib.hid (lvN_le 64 (levelW x).toNat)
  have HTZ := Lib.hid (tz_any (levelW x))
  generalize lvN (levelW x).toNat 64 = m at *
  generalize M (levelW x) = v at *
  go_wp2_with (first | (refine wpList_load_row rfl 28 _ rfl b1_4 rfl 28 _ (0, 0) _ HX_b1_4.out Tryd.underlying28 rfl (by rw [List.size_toArray, encU_len]; kernel_rfl) ?_) | ((with_reducible refine (HWD.out _).mono ?_); rintro e w7 ⟨rfl, hb7⟩; have HB7 := Lib.hid (HB.out.trans (hb7.mono HB.out.size)); clear hb7) | ((with_reducible refine (HTZ.out _ (HD.out _ HB7.out)).mono ?_); rintro e w6 ⟨⟨v, rfl, rfl⟩, hb6⟩; have HB6 := Lib.hid (HB7.out.trans (hb6.mono HB7.out.size)); clear hb6))
  all_goals go_ret
  all_goals exact ⟨congrArg (fun n : Int => Ending.returned (.int .i64 n)) (by have := HMN.out; omega), HB6.out⟩
theorem level14_any (x : Su) (w : World) (hL : Laid w) (hD : DeB w) :
    Calls Tryd.prog 9 #[.agg (encU x).toArray] w fun e w' => e = .returned (.int .i64 (levelN x : Nat)) ∧ Below w.heap.size w w' := level14_b x w w (Below.refl _ _) hL hD
end Go.Proofs.YtbkddcafalhflaaDoor
