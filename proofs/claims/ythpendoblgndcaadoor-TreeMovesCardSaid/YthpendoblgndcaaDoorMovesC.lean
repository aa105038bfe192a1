/- The law TreeMoves returns true at every input, and its arguments read as they did. No condition. -/
import Derived.Test.YthpendoblgndcaaDoorBase5
import Derived.Test.YthpendoblgndcaaDoorMov1
import Derived.Test.YthpendoblgndcaaDoorExt1
import Derived.Test.YthpendoblgndcaaDoorCards
import Derived.Test.YthpendoblgndcaaDoorTie
import Derived.ShutString
import Derived.ChangeOld
import Derived.SevenTiedAt
/- The law TreeMoves: it returns true. Conditions: at most 40 entries have all bytes together at most 2^61, paths shorter than 2^63 bytes. -/
namespace Go.Proofs.YthpendoblgndcaaDoor
open Go.RowKit
theorem good_small {X : List Ent} (h : goodP X = true) : X.length ≤ 40 ∧ bytesT X ≤ 16384 ∧ ∀ e ∈ X, e.1.size ≤ 68 := by
  obtain ⟨h1, _, h3, _⟩ := (goodP_iff X).1 h
  unfold fitsT at h1
  rw [Bool.and_eq_true, decide_eq_true_eq, decide_eq_true_eq] at h1
  exact ⟨h1.1, h1.2, fun e he => ok_size (okEnt_path (h3 e he))⟩
noncomputable def chkMl : Array Oper := regOf Tryd.f7.body 13
set_option maxRecDepth 100000 in
theorem chkMl_ok : orgB [(0, true), (1, true), (2, true), (3, true), (4, true), (5, false), (6, true), (7, true), (8, true), (10, true), (9, false), (11, false), (12, true), (13, true), (14, true), (15, true), (16, true), (17, true), (18, true), (19, true), (20, true), (21, true), (22, true), (23, true)] chkMl = true := by kernel_rfl
set_option maxHeartbeats 16000000 in
set_option maxRecDepth 100000 in
theorem moves8_any (C : List Ent) (q : Option Addr) (c : Nat) (f t : ByteArray) (hcap : C.length ≤ c) (hq : q = none → c = 0) (hb : C.length ≤ 40 → bytesT C ≤ 2305843009213693952) (hn : ∀ e ∈ C, e.1.size < 9223372036854775808) (w : World) (hs : Sees w w.heap.size q (rowC C)) (hE : Ents w C) :
    Calls Tryd.prog 7 #[.slice q C.length c, .string f, .string t] w fun e w' => e = .returned (.bool true) ∧ Below w.heap.size w w' := by
  have HAW := Lib.hid (awake8_any w)
  have HG := Lib.hid (fun (h0 : C.length ≤ 40) w1 (h : Below w.heap.size w w1) => tgood_any C q c (by omega) hcap (by have := hb h0; omega) hn w1 ((hs.keep h).more h.size) (hE.keep h))
  have HBY := Lib.hid (fun (h0 : C.length ≤ 40) w1 (h : Below w.heap.size w w1) => tbytes_any C q c (by omega) hcap (by have := hb h0; omega) hn w1 ((hs.keep h).more h.size) (hE.keep h))
  have HFI := Lib.hid (fun (h0 : C.length ≤ 40) (hp : t.size ≤ 100) (hg : goodP C = true) w1 (h : Below w.heap.size w w1) => tFind_any C q c t (by omega) hcap (by have := hb h0; omega) hn (by omega) (fun e he _ => good_bytes hg e he) w1 ((hs.keep h).more h.size) (hE.keep h))
  have HMV := Lib.hid (fun (h0 : C.length ≤ 40) (hf : f.size ≤ 100) (ht : t.size ≤ 100) w1 (h : Below w.heap.size w w1) => tmove_any C q c f t (by omega) hcap hq (hb h0) hn (by omega) (by omega) w1 ((hs.keep h).more h.size) (hE.keep h))
  have HTR : Hid (∀ w', Below w.heap.size w w' → Sees w' w'.heap.size q (rowC C) ∧ Ents w' C) := Lib.hid (fun w' h => ⟨(hs.keep h).more h.size, hE.keep h⟩)
  have HN := Lib.hid hn
  have HPG : Hid (goodP C = true → ∀ v, goodP (moveP C f t v).1 = true ∧ ((moveP C f t v).2 ≠ 0 → (moveP C f t v).1 = C) ∧ ((moveP C f t v).2 = 0 → (findP C t).2 = 5 → (∀ v2, (moveP (moveP C f t v).1 t f v2).2 = 0 ∧ sameT (moveP (moveP C f t v).1 t f v2).1 C = true ∧ goodP (moveP (moveP C f t v).1 t f v2).1 = true) ∧ bytesT (moveP C f t v).1 = bytesT C ∧ (moveP C f t v).1.length = C.length)) := Lib.hid (fun hg v =>
    ⟨move_good hg f t v, fun h => move_err h, fun h1 h2 => by
      obtain ⟨h3, h4, h5⟩ := move_back hg h1 h2
      exact ⟨fun v2 => ⟨(h3 v2).1, (h3 v2).2, move_good (move_good hg f t v) t f v2⟩, h4, h5⟩⟩)
  have HBP : Hid (∀ D, goodP D = true → bytesP D = bytesT D) := Lib.hid (fun D h => by unfold bytesP; rw [if_pos h])
  have HSM : Hid (∀ (D : List Ent) q1 q2 c1 c2, goodP C = true → goodP D = true → sameT D C = true → D.length ≤ c1 → C.length ≤ c2 → ∀ w1, Sees w1 w1.heap.size q1 (rowC D) → Sees w1 w1.heap.size q2 (rowC C) → Ents w1 D → Ents w1 C →
    Calls Tryd.prog 15 #[.agg #[.slice q1 D.length c1], .agg #[.slice q2 C.length c2]] w1 fun e w' => e = .returned (.bool true) ∧ Below w1.heap.size w1 w') := Lib.hid (fun D q1 q2 c1 c2 hg hgD h0 h3 h4 w1 s1 s2 e1 e2 => by
    obtain ⟨a1, a2, a3⟩ := good_small hg
    obtain ⟨b1, b2, b3⟩ := good_small hgD
    have h := tsame_any D C q1 q2 c1 c2 (by omega) (by omega) h3 h4 (by omega) (by omega) (fun e he => by have := b3 e he; omega) hn w1 s1 s2 e1 e2
    rw [h0] at h
    exact h)
  have HSS : Hid (goodP C = true → sameT C C = true) := Lib.hid (fun hg => by unfold sameT; rw [hg, likeT_self]; rfl)
  clear hs hE hn
  go_enter Tryd.func7, Tryd.ntmps7
  go_wp2_with fail
  refine HAW.out.mono ?_
  rintro e w1 ⟨rfl, hb1⟩
  have HB := Lib.hid hb1
  clear hb1 HAW
  by_cases h40 : 40 < C.length
  · have k4 : (40 : Int) < (C.length : Int) := by omega
    go_wp2_with fail
    go_ret
    exact ⟨rfl, HB.out.alloc HB.out.size _⟩
  have h4 : C.length ≤ 40 := by omega
  have k4 : ((40 : Int) < (C.length : Int)) = False := eq_false (by omega)
  have hb0 := hb h4
  replace hb := hb h4
  replace HG := Lib.hid (HG.out h4)
  replace HBY := Lib.hid (HBY.out h4)
  have HT : Hid (Has (w1.alloc (.cells #[.slice q C.length c] 25)) w1.heap.size 25 [.slice q C.length c]) := Lib.hid (Has.made w1 _ _)
  replace HB : Hid (Below w.heap.size w (w1.alloc (.cells #[.slice q C.length c] 25))) := Lib.hid (HB.out.alloc HB.out.size _)
  go_wp2_with fail
  refine (HG.out _ HB.out).mono ?_
  rintro e w2 ⟨rfl, hb2⟩
  replace HB := Lib.hid (HB.out.trans (hb2.mono HB.out.size))
  replace HT := Lib.hid (HT.out.keep hb2 HT.out.lt)
  clear hb2 HG
  generalize w1.heap.size = BT at *
  cases hgp : goodP C with
  | false =>
    go_wp2_with fail
    go_ret
    exact ⟨rfl, HB.out⟩
  | true =>
  have HGD := Lib.hid hgp
  replace HPG := Lib.hid (HPG.out hgp)
  replace HSS := Lib.hid (HSS.out hgp)
  have HBQ := Lib.hid (HBP.out C hgp)
  have ct := HT.out.cellv (i := 0) (v := .slice q C.length c) rfl
  clear hgp
  go_wp2_with fail
  refine (HBY.out _ HB.out).mono ?_
  rintro e w3 ⟨rfl, hb3⟩
  replace HB := Lib.hid (HB.out.trans (hb3.mono HB.out.size))
  replace HT := Lib.hid (HT.out.keep hb3 HT.out.lt)
  clear hb3 ct
  rw [HBQ.out]
  by_cases hb5 : 5000 < bytesT C
  · have k5 : (5000 : Int) < (bytesT C : Int) := by omega
    go_wp2_with fail
    go_ret
    exact ⟨rfl, HB.out⟩
  have k5 : ((5000 : Int) < (bytesT C : Int)) = False := eq_false (by omega)
  by_cases hp1 : 100 < f.size
  · have kp : (100 : Int) < (f.size : Int) := by omega
    go_wp2_with fail
    go_ret
    exact ⟨rfl, HB.out⟩
  have kp : ((100 : Int) < (f.size : Int)) = False := eq_false (by omega)
  by_cases hp1b : 100 < t.size
  · have kb : (100 : Int) < (t.size : Int) := by omega
    go_wp2_with fail
    go_ret
    exact ⟨rfl, HB.out⟩
  have kb : ((100 : Int) < (t.size : Int)) = False := eq_false (by omega)
  have hp2 : f.size ≤ 100 := by omega
  have hp3 : t.size ≤ 100 := by omega
  replace HFI := Lib.hid (HFI.out h4 hp3 HGD.out)
  replace HMV := Lib.hid (HMV.out h4 hp2 hp3)
  have ct := HT.out.cellv (i := 0) (v := .slice q C.length c) rfl
  go_wp2_with fail
  refine (HFI.out _ HB.out).mono ?_
  rintro e w4 ⟨⟨⟨x, d, bv, bb⟩, rfl, hOB, _⟩, hb4⟩
  obtain ⟨x5, m5, k5', hbv⟩ := own_slice' hOB
  have hbv' : bv = .slice x5 m5 k5' := hbv
  subst hbv'
  replace HB := Lib.hid (HB.out.trans (hb4.mono HB.out.size))
  replace HT := Lib.hid (HT.out.keep hb4 HT.out.lt)
  clear hb4 ct hOB hbv HFI
  simp only [entV]
  generalize hFE : (findP C t).2 = FE at *
  clear hFE
  have ct : ∀ o, (w4.alloc o).cell? ⟨BT, 0, none⟩ = some (.slice q C.length c) := fun o => (HT.out.alloc o).cellv (i := 0) rfl
  replace HB : Hid (Below w.heap.size w (w4.alloc (.cells #[.string x, .bool d, .slice x5 m5 k5'] 32))) := Lib.hid (HB.out.alloc HB.out.size _)
  replace HT := Lib.hid (HT.out.alloc (.cells #[.string x, .bool d, .slice x5 m5 k5'] 32))
  go_wp2_with fail
  refine (HMV.out _ HB.out).mono ?_
  rintro e w5 ⟨⟨v5, y5, rfl, hTX, hE5⟩, hb⟩
  replace HB := Lib.hid (HB.out.trans (hb.mono HB.out.size))
  replace HT := Lib.hid (HT.out.keep hb HT.out.lt)
  clear hb ct HMV
  obtain ⟨hXg, hXe, hXb⟩ := HPG.out y5
  clear HPG
  generalize moveP C f t y5 = RX at *
  obtain ⟨X, EX⟩ := RX
  simp only [] at hTX hE5 hXg hXe hXb ⊢
  obtain ⟨q5, c5, rfl, hc5, hq5, hs5⟩ := hTX
  obtain ⟨hXl, hXy, hXn⟩ := good_small hXg
  have hnX : ∀ e ∈ X, e.1.size < 9223372036854775808 := fun e he => by have := hXn e he; omega
  have HGX := Lib.hid (fun w1 h1 h2 => tgood_any X q5 c5 (by omega) hc5 (by omega) hnX w1 h1 h2)
  rw [hXg] at HGX
  have HBX := Lib.hid (fun w1 h1 h2 => tbytes_any X q5 c5 (by omega) hc5 (by omega) hnX w1 h1 h2)
  rw [HBP.out X hXg] at HBX
  have HRX := Lib.hid (fun w1 h1 h2 => tmove_any X q5 c5 t f (by omega) hc5 hq5 (by omega) hnX (by omega) (by omega) w1 h1 h2)
  have HXB := Lib.hid hXb
  have HXE := Lib.hid hXe
  have HXG := Lib.hid hXg
  have HC5 := Lib.hid hc5
  have hba := (Below.refl _ w5).alloc (Nat.le_refl _) (.cells #[.slice q5 X.length c5] 25)
  have HSX : Hid (Sees (w5.alloc (.cells #[.slice q5 X.length c5] 25)) (w5.alloc (.cells #[.slice q5 X.length c5] 25)).heap.size q5 (rowC X)) := Lib.hid ((hs5.keep hba).more hba.size)
  have HEX : Hid (Ents (w5.alloc (.cells #[.slice q5 X.length c5] 25)) X) := Lib.hid (hE5.keep hba)
  have ct : ∀ o, (w5.alloc o).cell? ⟨BT, 0, none⟩ = some (.slice q C.length c) := fun o => (HT.out.alloc o).cellv (i := 0) rfl
  replace HB : Hid (Below w.heap.size w (w5.alloc (.cells #[.slice q5 X.length c5] 25))) := Lib.hid (HB.out.alloc HB.out.size _)
  replace HT := Lib.hid (HT.out.alloc (.cells #[.slice q5 X.length c5] 25))
  have HX : Hid (Has (w5.alloc (.cells #[.slice q5 X.length c5] 25)) w5.heap.size 25 [.slice q5 X.length c5]) := Lib.hid (Has.made w5 _ _)
  clear hXg hXb hXe hXl hXy hXn hc5 hq5 hs5 hE5 hnX hba
  by_cases hx : EX = 0
  · subst hx
    by_cases hfe : FE = 5
    · subst hfe
      have hxb := HXB.out rfl rfl
      obtain ⟨hYY, hby, hln⟩ := hxb
      have HYY := Lib.hid hYY
      have HLN := Lib.hid hln
      rw [hby] at HBX
      clear HXB HXE hYY hby hln
      go_wp2_with fail
      clear ct
      generalize w5.alloc (.cells #[.slice q5 X.length c5] 25) = W5 at *
      generalize w5.heap.size = B10 at *
      refine (HRX.out _ HSX.out HEX.out).mono ?_
      rintro e w6 ⟨⟨v6, y6, rfl, hTY, hE6⟩, hb⟩
      obtain ⟨hY1, hY2, hY3⟩ := HYY.out y6
      replace HB := Lib.hid (HB.out.trans (hb.mono HB.out.size))
      replace HT := Lib.hid (HT.out.keep hb HT.out.lt)
      replace HX := Lib.hid (HX.out.keep hb HX.out.lt)
      replace HSX := Lib.hid ((HSX.out.keep hb).more hb.size)
      replace HEX := Lib.hid (HEX.out.keep hb)
      clear hb HRX HYY
      generalize moveP X t f y6 = RY at *
      obtain ⟨Y, EY⟩ := RY
      simp only [] at hTY hE6 hY1 hY2 hY3 ⊢
      subst hY1
      obtain ⟨q6, c6, rfl, hc6, hq6, hs6⟩ := hTY
      have HY1 : Hid (sameT Y C = true ∧ goodP Y = true ∧ Y.length ≤ c6) := Lib.hid ⟨hY2, hY3, hc6⟩
      have hb := (Below.refl _ w6).alloc (Nat.le_refl _) (.cells #[.slice q6 Y.length c6] 25)
      have HSY : Hid (Sees (w6.alloc (.cells #[.slice q6 Y.length c6] 25)) (w6.alloc (.cells #[.slice q6 Y.length c6] 25)).heap.size q6 (rowC Y)) := Lib.hid ((hs6.keep hb).more hb.size)
      have HEY : Hid (Ents (w6.alloc (.cells #[.slice q6 Y.length c6] 25)) Y) := Lib.hid (hE6.keep hb)
      have HY : Hid (Has (w6.alloc (.cells #[.slice q6 Y.length c6] 25)) w6.heap.size 25 [.slice q6 Y.length c6]) := Lib.hid (Has.made w6 _ _)
      replace HB := Lib.hid (HB.out.trans (hb.mono HB.out.size))
      replace HT := Lib.hid (HT.out.keep hb HT.out.lt)
      replace HX := Lib.hid (HX.out.keep hb HX.out.lt)
      replace HSX := Lib.hid ((HSX.out.keep hb).more hb.size)
      replace HEX := Lib.hid (HEX.out.keep hb)
      clear hb hs6 hE6 hY2 hY3 hc6 hq6
      go_wp2_with fail
      generalize w6.alloc (.cells #[.slice q6 Y.length c6] 25) = W6 at *
      generalize w6.heap.size = B12 at *
      refine wp_region_orgc [(0, true), (1, true), (2, true), (3, true), (4, true), (5, false), (6, true), (7, true), (8, true), (10, true), (9, false), (11, false), (12, true), (13, true), (14, true), (15, true), (16, true), (17, true), (18, true), (19, true), (20, true), (21, true), (22, true), (23, true)] _ chkMl_ok rfl (by kernel_rfl) (by kernel_rfl) ?_
      have hb := (Below.refl W6.heap.size W6).drew
      replace HB := Lib.hid (HB.out.trans (hb.mono HB.out.size))
      replace HT := Lib.hid (HT.out.keep hb HT.out.lt)
      replace HX := Lib.hid (HX.out.keep hb HX.out.lt)
      replace HSX := Lib.hid ((HSX.out.keep hb).more hb.size)
      replace HEX := Lib.hid (HEX.out.keep hb)
      replace HY := Lib.hid (HY.out.keep hb HY.out.lt)
      replace HSY := Lib.hid ((HSY.out.keep hb).more hb.size)
      replace HEY := Lib.hid (HEY.out.keep hb)
      clear hb
      generalize W6.drew = wd at *
      simp only [pickOrs, List.getElem?_cons_zero, List.getElem?_cons_succ]
      refine org_pure (v := ?_) (by kernel_rfl) ?_ ?_
      rotate_left
      · intro w' hv; clear hv; go_simp; try with_reducible rfl
      try simp only [Act.put, List.setIfInBounds_toArray, List.set_cons_zero, List.set_cons_succ]
      refine org_pure (v := ?_) (by kernel_rfl) ?_ ?_
      rotate_left
      · intro w' hv; clear hv; go_simp; try with_reducible rfl
      try simp only [Act.put, List.setIfInBounds_toArray, List.set_cons_zero, List.set_cons_succ]
      refine org_pure (v := ?_) (by kernel_rfl) ?_ ?_
      rotate_left
      · intro w' hv; clear hv; go_simp; try with_reducible rfl
      try simp only [Act.put, List.setIfInBounds_toArray, List.set_cons_zero, List.set_cons_succ]
      refine org_pure (v := ?_) (by kernel_rfl) ?_ ?_
      rotate_left
      · intro w' hv; have cl := (HY.out.keep hv HY.out.lt).cellv (i := 0) (v := .slice q6 Y.length c6) rfl; clear hv; go_simp; try with_reducible rfl
      try simp only [Act.put, List.setIfInBounds_toArray, List.set_cons_zero, List.set_cons_succ]
      refine org_pure (v := ?_) (by kernel_rfl) ?_ ?_
      rotate_left
      · intro w' hv; have cl := (HT.out.keep hv HT.out.lt).cellv (i := 0) (v := .slice q C.length c) rfl; clear hv; go_simp; try with_reducible rfl
      try simp only [Act.put, List.setIfInBounds_toArray, List.set_cons_zero, List.set_cons_succ]
      refine org_step (by kernel_rfl) (fun K hK => ?_)
      go_wp2_with fail
      obtain ⟨hs8, hE8⟩ := HTR.out _ HB.out
      refine (HSM.out Y q6 q c6 c HGD.out HY1.out.2.1 HY1.out.1 HY1.out.2.2 hcap _ HSY.out hs8 HEY.out hE8).mono ?_
      clear hs8 hE8
      rintro e u1 ⟨rfl, hb⟩
      have HE2 := Lib.hid hb
      replace HB := Lib.hid (HB.out.trans (hb.mono HB.out.size))
      replace HT := Lib.hid (HT.out.keep hb HT.out.lt)
      replace HX := Lib.hid (HX.out.keep hb HX.out.lt)
      replace HSX := Lib.hid ((HSX.out.keep hb).more hb.size)
      replace HEX := Lib.hid (HEX.out.keep hb)
      replace HY := Lib.hid (HY.out.keep hb HY.out.lt)
      replace HSY := Lib.hid ((HSY.out.keep hb).more hb.size)
      replace HEY := Lib.hid (HEY.out.keep hb)
      clear hb
      refine hK _ _ ⟨HE2.out, ?_⟩
      clear hK HE2
      try simp only [Act.put, List.setIfInBounds_toArray, List.set_cons_zero, List.set_cons_succ]
      refine org_pure (v := ?_) (by kernel_rfl) ?_ ?_
      rotate_left
      · intro w' hv; clear hv; go_simp; try with_reducible rfl
      try simp only [Act.put, List.setIfInBounds_toArray, List.set_cons_zero, List.set_cons_succ]
      refine org_pure (v := ?_) (by kernel_rfl) ?_ ?_
      rotate_left
      · intro w' hv; clear hv; go_simp; try with_reducible rfl
      try simp only [Act.put, List.setIfInBounds_toArray, List.set_cons_zero, List.set_cons_succ]
      refine org_pure (v := ?_) (by kernel_rfl) ?_ ?_
      rotate_left
      · intro w' hv; have cl := (HX.out.keep hv HX.out.lt).cellv (i := 0) (v := .slice q5 X.length c5) rfl; clear hv; go_simp; try with_reducible rfl
      try simp only [Act.put, List.setIfInBounds_toArray, List.set_cons_zero, List.set_cons_succ]
      refine org_pure (v := ?_) (by kernel_rfl) ?_ ?_
      rotate_left
      · intro w' hv; have cl := (HT.out.keep hv HT.out.lt).cellv (i := 0) (v := .slice q C.length c) rfl; clear hv; go_simp; try with_reducible rfl
      try simp only [Act.put, List.setIfInBounds_toArray, List.set_cons_zero, List.set_cons_succ]
      refine org_step (by kernel_rfl) (fun K hK => ?_)
      go_wp2_with fail
      refine (HBX.out _ HSX.out HEX.out).mono ?_
      rintro e u2 ⟨rfl, hb⟩
      have HE2 := Lib.hid hb
      replace HB := Lib.hid (HB.out.trans (hb.mono HB.out.size))
      replace HT := Lib.hid (HT.out.keep hb HT.out.lt)
      replace HX := Lib.hid (HX.out.keep hb HX.out.lt)
      replace HSX := Lib.hid ((HSX.out.keep hb).more hb.size)
      replace HEX := Lib.hid (HEX.out.keep hb)
      replace HY := Lib.hid (HY.out.keep hb HY.out.lt)
      replace HSY := Lib.hid ((HSY.out.keep hb).more hb.size)
      replace HEY := Lib.hid (HEY.out.keep hb)
      clear hb
      refine hK _ _ ⟨HE2.out, ?_⟩
      clear hK HE2
      try simp only [Act.put, List.setIfInBounds_toArray, List.set_cons_zero, List.set_cons_succ]
      replace HBY : Hid _ := Lib.hid (HBY.out _ HB.out)
      rw [HBQ.out] at HBY
      refine org_step (by kernel_rfl) (fun K hK => ?_)
      go_wp2_with fail
      refine HBY.out.mono ?_
      rintro e u3 ⟨rfl, hb⟩
      have HE2 := Lib.hid hb
      replace HB := Lib.hid (HB.out.trans (hb.mono HB.out.size))
      replace HT := Lib.hid (HT.out.keep hb HT.out.lt)
      replace HX := Lib.hid (HX.out.keep hb HX.out.lt)
      replace HSX := Lib.hid ((HSX.out.keep hb).more hb.size)
      replace HEX := Lib.hid (HEX.out.keep hb)
      replace HY := Lib.hid (HY.out.keep hb HY.out.lt)
      replace HSY := Lib.hid ((HSY.out.keep hb).more hb.size)
      replace HEY := Lib.hid (HEY.out.keep hb)
      clear hb
      refine hK _ _ ⟨HE2.out, ?_⟩
      clear hK HE2
      try simp only [Act.put, List.setIfInBounds_toArray, List.set_cons_zero, List.set_cons_succ]
      have kbe : ((bytesT C : Int) == (bytesT C : Int)) = true := by simp
      refine org_pure (v := ?_) (by kernel_rfl) ?_ ?_
      rotate_left
      · intro w' hv; clear hv; go_simp; try with_reducible rfl
      try simp only [Act.put, List.setIfInBounds_toArray, List.set_cons_zero, List.set_cons_succ]
      refine org_pure (v := ?_) (by kernel_rfl) ?_ ?_
      rotate_left
      · intro w' hv; clear hv; go_simp; try with_reducible rfl
      try simp only [Act.put, List.setIfInBounds_toArray, List.set_cons_zero, List.set_cons_succ]
      refine org_pure (v := ?_) (by kernel_rfl) ?_ ?_
      rotate_left
      · intro w' hv; clear hv; go_simp; try with_reducible rfl
      try simp only [Act.put, List.setIfInBounds_toArray, List.set_cons_zero, List.set_cons_succ]
      refine org_pure (v := ?_) (by kernel_rfl) ?_ ?_
      rotate_left
      · intro w' hv; clear hv; go_simp; try with_reducible rfl
      try simp only [Act.put, List.setIfInBounds_toArray, List.set_cons_zero, List.set_cons_succ]
      refine org_pure (v := ?_) (by kernel_rfl) ?_ ?_
      rotate_left
      · intro w' hv; have cl := (HX.out.keep hv HX.out.lt).cellv (i := 0) (v := .slice q5 X.length c5) rfl; clear hv; go_simp; try with_reducible rfl
      try simp only [Act.put, List.setIfInBounds_toArray, List.set_cons_zero, List.set_cons_succ]
      refine org_pure (v := ?_) (by kernel_rfl) ?_ ?_
      rotate_left
      · intro w' hv; clear hv; go_simp; try with_reducible rfl
      try simp only [Act.put, List.setIfInBounds_toArray, List.set_cons_zero, List.set_cons_succ]
      refine org_pure (v := ?_) (by kernel_rfl) ?_ ?_
      rotate_left
      · intro w' hv; clear hv; go_simp; try with_reducible rfl
      try simp only [Act.put, List.setIfInBounds_toArray, List.set_cons_zero, List.set_cons_succ]
      refine org_pure (v := ?_) (by kernel_rfl) ?_ ?_
      rotate_left
      · intro w' hv; have cl := (HT.out.keep hv HT.out.lt).cellv (i := 0) (v := .slice q C.length c) rfl; clear hv; go_simp; try with_reducible rfl
      try simp only [Act.put, List.setIfInBounds_toArray, List.set_cons_zero, List.set_cons_succ]
      refine org_pure (v := ?_) (by kernel_rfl) ?_ ?_
      rotate_left
      · intro w' hv; clear hv; go_simp; try with_reducible rfl
      try simp only [Act.put, List.setIfInBounds_toArray, List.set_cons_zero, List.set_cons_succ]
      have kle : ((X.length : Int) == (C.length : Int)) = true := by rw [HLN.out]; simp
      have kle2 : ((X.length : Int) = (C.length : Int)) := by rw [HLN.out]
      refine org_pure (v := ?_) (by kernel_rfl) ?_ ?_
      rotate_left
      · intro w' hv; clear hv; go_simp; try with_reducible rfl
      try simp only [Act.put, List.setIfInBounds_toArray, List.set_cons_zero, List.set_cons_succ]
      refine org_pure (v := ?_) (by kernel_rfl) ?_ ?_
      rotate_left
      · intro w' hv; clear hv; go_simp; try with_reducible rfl
      try simp only [Act.put, List.setIfInBounds_toArray, List.set_cons_zero, List.set_cons_succ]
      refine org_pure (v := ?_) (by kernel_rfl) ?_ ?_
      rotate_left
      · intro w' hv; clear hv; go_simp; try with_reducible rfl
      try simp only [Act.put, List.setIfInBounds_toArray, List.set_cons_zero, List.set_cons_succ]
      refine org_nil ?_
      go_wp2_with fail
      go_ret
      exact ⟨rfl, HB.out⟩
    · have kF : (FE = 5) = False := eq_false hfe
      have kFb : (FE == 5) = false := by simpa using hfe
      have kFn : (FE != 5) = true := by simpa using hfe
      go_wp2_with fail
      generalize w5.alloc (.cells #[.slice q5 X.length c5] 25) = W5 at *
      generalize w5.heap.size = B10 at *
      clear ct
      refine (HGX.out _ HSX.out HEX.out).mono ?_
      rintro e u9 ⟨rfl, hb⟩
      replace HB := Lib.hid (HB.out.trans (hb.mono HB.out.size))
      go_wp2_with fail
      go_ret
      exact ⟨rfl, HB.out⟩
  · have kX : (EX = 0) = False := eq_false hx
    have kXb : (EX == 0) = false := by simpa using hx
    have kXn : (EX != 0) = true := by simpa using hx
    obtain rfl : X = C := HXE.out hx
    go_wp2_with fail
    generalize w5.alloc (.cells #[.slice q5 X.length c5] 25) = W5 at *
    generalize w5.heap.size = B10 at *
    clear ct
    obtain ⟨hs8, hE8⟩ := HTR.out _ HB.out
    refine (HSM.out X q5 q c5 c HGD.out HGD.out HSS.out HC5.out hcap _ HSX.out hs8 hE8 hE8).mono ?_
    clear hs8 hE8
    rintro e u9 ⟨rfl, hb⟩
    replace HB := Lib.hid (HB.out.trans (hb.mono HB.out.size))
    go_wp2_with fail
    go_ret
    exact ⟨rfl, HB.out⟩
end Go.Proofs.YthpendoblgndcaaDoor
namespace Go.Proofs.YthpendoblgndcaaDoor
open Go.ChangeShapes Go.WideShapes Go.ChangeAt Go.RowKit Go.ChangeMaps
set_option maxRecDepth 100000 in
theorem moves8_lifted (os : Os) (started : os.Started) (H : Type) (enc : TypeId × Value → H) :
    ReturnsInHanded {} Tryd.checked os 7 .any (fun w args => (Rows.treeMovesSpec.pre enc Tryd.prog Tryd.f7 [] false w args ∧ laidMetH Tryd.prog laidVars w) ∧ sizedMet enc Tryd.prog Tryd.f7 (OpenSpec.ofChange Rows.treeMovesSpec) false w args)
      (Rows.treeMovesSpec.post enc Tryd.prog Tryd.f7 false true false false) := by
  refine returnsInHanded_of_change_and (C := Tryd.checked) (X := fun w _ => laidMetH Tryd.prog laidVars w) (fun _ _ _ hh h => h.of_heap hh) own started (by kernel_rfl) Tryd.func7
    (ChangeSpec.witness_shaped (enc := enc) (C := Tryd.checked) (os := os) (X := fun w _ => laidMetH Tryd.prog laidVars w) false (World.laidAll Tryd.prog os laidVars) #[.slice none 0 0, .string ⟨#[]⟩, .string ⟨#[]⟩] 8 (World.laidAll_os _ _ _) (World.shaped_of_ZipB (by kernel_rfl) (by kernel_rfl)) (by kernel_rfl) (by kernel_rfl) (by kernel_rfl) (laid_met os _)) ?_
  intro W base args ds gs before hval0 hW _ hsz0 hL _
  have hval : ∀ (j : Nat) t v, Tryd.f7.params[j]? = some t → args[j]? = some v → Value.okWide Tryd.prog W .any base t v := hval0
  have hW' := hW
  obtain ⟨p, q, hA0, hV, rfl, hfz, hnd⟩ := hW
  have hA : DataW.TrodAll enc Tryd.prog W 0 (fun _ => true) true Tryd.f7.params.toList args.toList ds p := hA0
  have hsz : (DataW.weightsEach Tryd.prog (Tryd.f7.params.toList ++ Rows.treeMovesSpec.plain.varTypes Tryd.prog) (ds ++ gs)).all (· ≤ reachBytes) = true := hsz0
  rw [Tryd.params7] at hA hval hsz
  obtain ⟨v0, vs0, d0, ds0, p0, g0, hargs, rfl, rfl, h0, r0⟩ := trodAll_cons hA
  obtain ⟨v1, vs1, d1, ds1, p1, g1, rfl, rfl, rfl, h1, r1⟩ := trodAll_cons r0
  obtain ⟨v2, vs2, d2, ds2, p2, g2, rfl, rfl, rfl, h2, r2⟩ := trodAll_cons r1
  obtain ⟨rfl, rfl, rfl⟩ := trodAll_nil r2
  obtain rfl : args = #[v0, v1, v2] := by cases args; simp_all
  obtain ⟨rfl, rfl⟩ := trodVars_none hV
  have k0 := h0
  have lt0 : ∀ x ∈ p0, x.block < W.heap.size := by obtain ⟨m, hm⟩ := k0; exact DataW.trod_lt m _ _ _ hm
  obtain ⟨l0, q0, c0, rfl, hc0, hq0, hn0, hs0, hE0, hw0⟩ := open_ents (hval 0 23 v0 rfl rfl) h0
  have z0 : ∀ e ∈ l0, e.by.length ≤ reachBytes := fun e he => by
    rcases hw0 e he with h | ⟨n, hn, hle⟩
    · omega
    · exact Nat.le_trans hle (of_decide_eq_true (List.all_eq_true.1 hsz n (DataW.weights_mem_each (j := 0) rfl rfl n hn)))
  obtain ⟨s1, rfl, rfl, rfl, m1⟩ := open_string Tryd.underlying9 (hval 1 9 v1 rfl rfl) h1
  have z1 : s1.size ≤ reachBytes := sized_string hsz (j := 1) (t := 9) rfl rfl
  obtain ⟨s2, rfl, rfl, rfl, m2⟩ := open_string Tryd.underlying9 (hval 2 9 v2 rfl rfl) h2
  have z2 : s2.size ≤ reachBytes := sized_string hsz (j := 2) (t := 9) rfl rfl
  clear hA0 hval0
  refine (moves8_any l0 q0 c0 s1 s2 hc0 hq0 (bytes_bound z0) (paths_bound hn0) W hs0 hE0).mono fun e W' ⟨he, bel⟩ => ?_
  subst he
  exact ⟨_, rfl, _, _, _, [], _, [], hW', trodAll_mk1 (shut_bool Tryd.underlying4 _), (trodAll_cons_mk (Below.trod laidOut (by kernel_rfl) (of_decide_eq_true (by kernel_rfl)) k0 bel lt0) (trodAll_cons_mk (shut_string Tryd.underlying9 m1) (trodAll_cons_mk (shut_string Tryd.underlying9 m2) trodAll_mk0))), rfl, bel.frame _, fun h => by cases h⟩
theorem moves8_row : Rows.TreeMovesSaid :=
  OpenClaim.holds_of_wide 7 Tryd.f7 rfl rfl rfl rfl rfl rfl rfl ⟨rfl, rfl, rfl, rfl, rfl⟩ rfl rfl rfl rfl rfl (by kernel_rfl) Tryd.func7 (by kernel_rfl)
    (of_decide_eq_true (by kernel_rfl)) (by unfold Func.isWrapper; first | (rw [if_pos (by decide +kernel)]; kernel_rfl) | (rw [if_neg (by decide +kernel)]; exact ⟨rfl, rfl⟩))
    (fun os started H enc _ => moves8_lifted os started H enc)
theorem treeMoves_holds : Rows.TreeMovesCardSaid :=
  Claim7.holds_tied_plain_at .later [] [.data, .pinned] true Rows.treeMovesCard.stood.harness Rows.treeMovesCard.stood.looks
    moves8_row (fun _ h => by cases h) (by kernel_rfl) (fun _ h => by cases h) treeMoves_row_tie rfl ⟨rfl, rfl⟩ (by kernel_rfl) rfl
    (fun f fn hf hfn => by
      obtain rfl : f = 7 := Option.some.inj ((show Tryd.prog.funcNamed "tallyman/tallymanlaw8.TreeMoves" = some 7 by kernel_rfl).symm.trans hf) |>.symm
      obtain rfl : fn = Tryd.f7 := (Option.some.inj (Tryd.func7.symm.trans hfn)).symm
      exact ⟨by kernel_rfl, fun j t ht => by
        rw [Tryd.params7] at ht
        have hm : t ∈ [23, 9, 9] := by simpa using Array.mem_of_getElem? ht
        have hall : ([23, 9, 9].all fun u => !Tryd.prog.wantsStandIn u) = true := by kernel_rfl
        exact (show Tryd.prog.wantsStandIn t = false by simpa using List.all_eq_true.1 hall t hm)⟩)
    (by kernel_rfl)
#print axioms treeMoves_holds
end Go.Proofs.YthpendoblgndcaaDoor
