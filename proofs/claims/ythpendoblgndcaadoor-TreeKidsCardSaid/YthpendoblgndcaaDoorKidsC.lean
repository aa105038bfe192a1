/- The law TreeKids returns true at every input, and its argument reads as it did. No condition. -/
import Derived.Test.YthpendoblgndcaaDoorBase5
import Derived.Test.YthpendoblgndcaaDoorBase6
import Derived.Test.YthpendoblgndcaaDoorCards
import Derived.Test.YthpendoblgndcaaDoorTie
import Derived.ShutString
import Derived.ChangeOld
import Derived.SevenTiedAt
/- The law TreeKids: it returns true. Conditions: all bytes together at most 2^61, paths shorter than 2^63 bytes. -/
namespace Go.Proofs.YthpendoblgndcaaDoor
open Go.RowKit Go.Sort
set_option maxHeartbeats 16000000 in
set_option maxRecDepth 100000 in
theorem kids8_any (C : List Ent) (q : Option Addr) (c : Nat) (hcap : C.length ≤ c) (hq : q = none → c = 0) (hb : C.length ≤ 40 → bytesT C ≤ 2305843009213693952) (hn : ∀ e ∈ C, e.1.size < 9223372036854775808) (w : World) (hs : Sees w w.heap.size q (rowC C)) (hE : Ents w C) :
    Calls Tryd.prog 8 #[.slice q C.length c] w fun e w' => e = .returned (.bool true) ∧ Below w.heap.size w w' := by
  have HAW := Lib.hid (awake8_any w)
  have HG := Lib.hid (fun (h0 : C.length ≤ 40) w1 (h : Below w.heap.size w w1) => tgood_any C q c (by omega) hcap (by have := hb h0; omega) hn w1 ((hs.keep h).more h.size) (hE.keep h))
  have HK := Lib.hid (fun (h0 : C.length ≤ 40) p w1 (h : Below w.heap.size w w1) => tkids_any C q c p (by omega) hcap (by have := hb h0; omega) hn w1 ((hs.keep h).more h.size) (hE.keep h))
  have HCL := Lib.hid (fun (D : List Ent) q1 c1 (h0 : D.length ≤ 40) (h1 : D.length ≤ c1) (h2 : q1 = none → c1 = 0) (h3 : bytesT D ≤ 4611686018427387904) h4 w1 h5 h6 => tclean_any D q1 c1 (by omega) h1 h2 h3 h4 w1 h5 h6)
  have HSM := Lib.hid (fun (D D2 : List Ent) q1 q2 c1 c2 (h0 : D.length ≤ 40) (h0' : D2.length ≤ 40) h1 h1' (h3 : bytesT D ≤ 4611686018427387904) (h3' : bytesT D2 ≤ 4611686018427387904) h4 h4' w1 h5 h5' h6 h6' => tsame_any D D2 q1 q2 c1 c2 (by omega) (by omega) h1 h1' h3 h3' h4 h4' w1 h5 h5' h6 h6')
  have HS := Lib.hid hs
  have HE := Lib.hid hE
  have HN := Lib.hid hn
  have HQ := Lib.hid hq
  have HGP : Hid (goodP C = true → (∀ i (hi : i < C.length), cntK C (i + 1) = cntK C i + (kidsP C C[i].pa).length ∧ (C[i].dir = false → (kidsP C C[i].pa).length = 0)) ∧ cntK C 0 = (kidsP C []).length ∧ cntK C C.length = C.length ∧ sameT (cleanP (cleanP C)) (cleanP C) = true) := Lib.hid (fun h => by
    have hk : ∀ p, kidsP C p = inT C p := fun p => by unfold kidsP; rw [if_pos h]
    refine ⟨fun i hi => ⟨by rw [hk]; exact cntK_add h hi, fun hd => by rw [hk, kid_dir h (List.getElem_mem hi) hd]; rfl⟩, by rw [hk, cntK_zero], cntK_all h, same_clean h⟩)
  have HCN : Hid (∀ i, cntK C i ≤ C.length) := Lib.hid (fun i => List.length_filter_le _ _)
  clear hs hE hn hq
  go_enter Tryd.func8, Tryd.ntmps8
  go_wp2_with fail
  refine HAW.out.mono ?_
  rintro e w1 ⟨rfl, hb1⟩
  have HB := Lib.hid hb1
  clear hb1 HAW
  by_cases h40 : 40 < C.length
  · have k4 : (40 : Int) < (C.length : Int) := by omega
    go_wp2_with fail
    go_ret
    exact ⟨rfl, HB.out.alloc HB.out.size _⟩
  · have h4 : C.length ≤ 40 := by omega
    replace hb := hb h4
    have k4 : ((40 : Int) < (C.length : Int)) = False := eq_false (by omega)
    replace HG := Lib.hid (HG.out h4)
    replace HK := Lib.hid (HK.out h4)
    have HT : Hid (Has (w1.alloc (.cells #[.slice q C.length c] 25)) w1.heap.size 25 [.slice q C.length c]) := Lib.hid (Has.made w1 _ _)
    have HBB := Lib.hid HB.out.size
    replace HB : Hid (Below w.heap.size w (w1.alloc (.cells #[.slice q C.length c] 25))) := Lib.hid (HB.out.alloc HB.out.size _)
    go_wp2_with fail
    refine (HG.out _ HB.out).mono ?_
    rintro e w2 ⟨rfl, hb2⟩
    replace HB := Lib.hid (HB.out.trans (hb2.mono HB.out.size))
    replace HT := Lib.hid (HT.out.keep hb2 HT.out.lt)
    clear hb2
    generalize w1.heap.size = BT at *
    cases hgp : goodP C with
    | false =>
      go_wp2_with fail
      go_ret
      exact ⟨rfl, HB.out⟩
    | true =>
      obtain ⟨hstep, hzero, hall, hsame⟩ := HGP.out hgp
      have HST := Lib.hid hstep
      have HZE := Lib.hid hzero
      have HAL := Lib.hid hall
      have HSA := Lib.hid hsame
      have HGD := Lib.hid hgp
      have ct := HT.out.cellv (i := 0) (v := .slice q C.length c) rfl
      clear hstep hzero hall hsame HGP HG hgp
      go_wp2_with fail
      refine (HK.out ⟨#[]⟩ _ HB.out).mono ?_
      rintro e w3 ⟨⟨v3, rfl, qk, ck, rfl, _, _⟩, hb3⟩
      replace HB := Lib.hid (HB.out.trans (hb3.mono HB.out.size))
      replace HT := Lib.hid (HT.out.keep hb3 HT.out.lt)
      clear hb3 ct
      have hz2 : (kidsP C ((⟨#[]⟩ : ByteArray)).data.toList).length = cntK C 0 := HZE.out.symm
      rw [hz2]
      clear hz2 HZE
      go_wp2_with fail
      go_loopw [4, 5, 6] (fun vn vi _ wr => ∃ i : Nat, i ≤ C.length ∧ vi = .int .i64 i ∧ vn = .int .i64 (cntK C i : Int) ∧ Has wr BT 25 [.slice q C.length c] ∧ Below w.heap.size w wr) (fun _ vi _ _ => C.length - (intOf vi).toNat)
      case atStart => exact ⟨0, by omega, rfl, rfl, HT.out, HB.out⟩
      case round =>
        rename_i wr
        clear HT HB
        obtain ⟨i, hi, rfl, rfl, hT, hB⟩ := hrel
        have HT := Lib.hid hT
        have HB := Lib.hid hB
        clear hT hB
        by_cases hlt : i < C.length
        · obtain ⟨a, rfl, ha, hc⟩ := HS.out.ent hlt
          have HCX := Lib.hid hc
          have kk : (i : Int) < (C.length : Int) := by omega
          have kw : IntKind.i64.wrap (i : Int) = (i : Int) := IntWalk.i64_in _ (by omega)
          obtain ⟨hst, hdd⟩ := HST.out i hlt
          have hcn := HCN.out (i + 1)
          have hpa : C[i].pa = C[i].1.data.toList := rfl
          have hdi : C[i].dir = C[i].2.1 := rfl
          rw [hpa] at hst hdd
          rw [hdi] at hdd
          have HKX := Lib.hid (HK.out C[i].1)
          clear hc ha hpa hdi
          generalize C[i].1 = x at *
          generalize C[i].2.1 = d at *
          generalize C[i].2.2.1 = bv at *
          generalize hN1 : cntK C (i + 1) = N1 at *
          generalize cntK C i = N0 at *
          have HN1 := Lib.hid hN1
          clear hN1
          generalize kidsP C x.data.toList = KL at *
          go_wp2_with fail
          refine wp_region_org [(0, true), (1, true), (2, true), (3, true), (4, true), (5, true), (6, false), (7, true)] (by kernel_rfl) (by kernel_rfl) (by kernel_rfl) ?_
          replace HB := Lib.hid (HB.out.drew)
          replace HT := Lib.hid (HT.out.drew)
          generalize wr.drew = wd at *
          simp only [pickOrs, List.getElem?_cons_zero, List.getElem?_cons_succ]
          refine org_pure (v := ?_) (by kernel_rfl) ?_ ?_
          rotate_left
          · intro w' hv; have cx := (HT.out.keep hv HT.out.lt).cellv (i := 0) (v := .slice (some a) C.length c) rfl; clear hv; go_simp; try with_reducible rfl
          try simp only [Act.put, List.setIfInBounds_toArray, List.set_cons_zero, List.set_cons_succ]
          refine org_pure (v := ?_) (by kernel_rfl) ?_ ?_
          rotate_left
          · intro w' hv; clear hv; go_simp; try with_reducible rfl
          try simp only [Act.put, List.setIfInBounds_toArray, List.set_cons_zero, List.set_cons_succ]
          refine org_pure (v := ?_) (by kernel_rfl) ?_ ?_
          rotate_left
          · intro w' hv; clear hv; go_simp; try with_reducible rfl
          try simp only [Act.put, List.setIfInBounds_toArray, List.set_cons_zero, List.set_cons_succ]
          refine org_pure (v := ?_) (by kernel_rfl) ?_ ?_
          rotate_left
          · intro w' hv; clear hv; go_simp; try with_reducible rfl
          try simp only [Act.put, List.setIfInBounds_toArray, List.set_cons_zero, List.set_cons_succ]
          refine org_pure (v := ?_) (by kernel_rfl) ?_ ?_
          rotate_left
          · intro w' hv; clear hv; go_simp; try with_reducible rfl
          try simp only [Act.put, List.setIfInBounds_toArray, List.set_cons_zero, List.set_cons_succ]
          refine org_pure (v := ?_) (by kernel_rfl) ?_ ?_
          rotate_left
          · intro w' hv; obtain ⟨cx, cy, cz⟩ := HCX.out w' (HB.out.trans (Below.mono hv HB.out.size)); clear hv; go_simp; try with_reducible rfl
          try simp only [Act.put, List.setIfInBounds_toArray, List.set_cons_zero, List.set_cons_succ]
          refine org_step (by kernel_rfl) (fun K hK => ?_)
          go_wp2_with fail
          refine (HKX.out _ HB.out).mono ?_
          rintro e wx ⟨⟨vk, rfl, qk2, ck2, rfl, _, _⟩, hb⟩
          have HE2 := Lib.hid hb
          replace HB := Lib.hid (HB.out.trans (hb.mono HB.out.size))
          replace HT := Lib.hid (HT.out.keep hb HT.out.lt)
          clear hb
          refine hK _ _ ⟨HE2.out, ?_⟩
          clear hK HE2
          try simp only [Act.put, List.setIfInBounds_toArray, List.set_cons_zero, List.set_cons_succ]
          refine org_pure (v := ?_) (by kernel_rfl) ?_ ?_
          rotate_left
          · intro w' hv; clear hv; go_simp; try with_reducible rfl
          try simp only [Act.put, List.setIfInBounds_toArray, List.set_cons_zero, List.set_cons_succ]
          refine org_nil ?_
          obtain ⟨cx, cy, cz⟩ := HCX.out _ HB.out
          have kadd : IntKind.i64.wrap ((N0 : Int) + (KL.length : Int)) = (N1 : Int) := by rw [IntWalk.i64_in _ (by omega)]; omega
          cases d with
          | true =>
            go_wp2_with fail
            go_roundw
            case rel => exact ⟨i + 1, by omega, by go_num, by rw [HN1.out]; exact congrArg _ (by omega), HT.out, HB.out⟩
            case measure => simp [intOf]; omega
          | false =>
            have hkl : KL.length = 0 := hdd rfl
            obtain rfl := List.eq_nil_of_length_eq_zero hkl
            have h01 : N1 = N0 := by rw [hst]; rfl
            subst h01
            clear hdd hkl kadd hst
            have hnn : ((N1 : Int) + 0) = (N1 : Int) := by omega
            have kadd : IntKind.i64.wrap (N1 : Int) = (N1 : Int) := by rw [IntWalk.i64_in _ (by omega)]
            go_wp2_with fail
            go_roundw
            case rel => exact ⟨i + 1, by omega, by go_num, by rw [HN1.out], HT.out, HB.out⟩
            case measure => simp [intOf]; omega
        · have hil : i = C.length := by omega
          subst hil
          have k0 : ¬ (C.length : Int) < (C.length : Int) := by omega
          rw [HAL.out]
          have hsub : ∀ (D : List Ent), ∀ y ∈ cleanP D, y ∈ D := fun D y hy => by
            unfold cleanP at hy
            split at hy
            · exact (List.mem_filter.1 hy).1
            · exact hy
          have hlen : ∀ (D : List Ent), (cleanP D).length ≤ D.length := fun D => by
            unfold cleanP
            split
            · exact List.length_filter_le _ _
            · exact Nat.le_refl _
          have hbyt : ∀ (D : List Ent), bytesT (cleanP D) ≤ bytesT D := fun D => by
            unfold cleanP
            split
            · exact bytesT_filter _ _
            · exact Nat.le_refl _
          have h1 := hlen C
          have h2 := hlen (cleanP C)
          have h3 := hbyt C
          have h4b := hbyt (cleanP C)
          have HE1 : Hid (∀ w', Below w.heap.size w w' → Ents w' (cleanP C)) := Lib.hid (fun w' h y hy => (HE.out.keep h) y (hsub C y hy))
          have HE2B : Hid (∀ w', Below w.heap.size w w' → Ents w' (cleanP (cleanP C))) := Lib.hid (fun w' h y hy => (HE.out.keep h) y (hsub C y (hsub _ y hy)))
          have HN1 : Hid (∀ y ∈ cleanP C, y.1.size < 9223372036854775808) := Lib.hid (fun y hy => HN.out y (hsub C y hy))
          have HN2 : Hid (∀ y ∈ cleanP (cleanP C), y.1.size < 9223372036854775808) := Lib.hid (fun y hy => HN.out y (hsub C y (hsub _ y hy)))
          have HCC := Lib.hid (fun w1 (h : Below w.heap.size w w1) => HCL.out C q c (by omega) hcap HQ.out (by omega) HN.out w1 ((HS.out.keep h).more h.size) (HE.out.keep h))
          have HCD := Lib.hid (fun q1 c1 w1 (h : Below w.heap.size w w1) (h1' : (cleanP C).length ≤ c1) (h2' : q1 = none → c1 = 0) (h3' : Sees w1 w1.heap.size q1 (rowC (cleanP C))) => HCL.out (cleanP C) q1 c1 (by omega) h1' h2' (by omega) HN1.out w1 h3' (HE1.out w1 h))
          have HSS := Lib.hid (fun q1 q2 c1 c2 w1 (h : Below w.heap.size w w1) (h1' : (cleanP (cleanP C)).length ≤ c1) (h2' : (cleanP C).length ≤ c2) (h3' : Sees w1 w1.heap.size q1 (rowC (cleanP (cleanP C)))) (h4' : Sees w1 w1.heap.size q2 (rowC (cleanP C))) => HSM.out (cleanP (cleanP C)) (cleanP C) q1 q2 c1 c2 (by omega) (by omega) h1' h2' (by omega) (by omega) HN2.out HN1.out w1 h3' h4' (HE2B.out w1 h) (HE1.out w1 h))
          rw [HSA.out] at HSS
          have kbe : ((C.length : Int) == (C.length : Int)) = true := by simp
          clear hlt hsub hlen hbyt h1 h2 h3 h4b HCL HSM HE1 HE2B HN1 HN2 HSA
          generalize cleanP (cleanP C) = DD at *
          generalize cleanP C = D at *
          go_wp2_with fail
          refine wp_region_org [(0, true), (1, true), (2, true), (3, true), (4, true), (5, true), (8, true), (6, false), (7, false), (9, false), (10, false), (11, true), (12, true)] (by kernel_rfl) (by kernel_rfl) (by kernel_rfl) ?_
          replace HB := Lib.hid (HB.out.drew)
          replace HT := Lib.hid (HT.out.drew)
          generalize wr.drew = wd at *
          simp only [pickOrs, List.getElem?_cons_zero, List.getElem?_cons_succ]
          refine org_pure (v := ?_) (by kernel_rfl) ?_ ?_
          rotate_left
          · intro w' hv; clear hv; go_simp; try with_reducible rfl
          try simp only [Act.put, List.setIfInBounds_toArray, List.set_cons_zero, List.set_cons_succ]
          refine org_pure (v := ?_) (by kernel_rfl) ?_ ?_
          rotate_left
          · intro w' hv; clear hv; go_simp; try with_reducible rfl
          try simp only [Act.put, List.setIfInBounds_toArray, List.set_cons_zero, List.set_cons_succ]
          refine org_pure (v := ?_) (by kernel_rfl) ?_ ?_
          rotate_left
          · intro w' hv; clear hv; go_simp; try with_reducible rfl
          try simp only [Act.put, List.setIfInBounds_toArray, List.set_cons_zero, List.set_cons_succ]
          refine org_pure (v := ?_) (by kernel_rfl) ?_ ?_
          rotate_left
          · intro w' hv; clear hv; go_simp; try with_reducible rfl
          try simp only [Act.put, List.setIfInBounds_toArray, List.set_cons_zero, List.set_cons_succ]
          refine org_pure (v := ?_) (by kernel_rfl) ?_ ?_
          rotate_left
          · intro w' hv; clear hv; go_simp; try with_reducible rfl
          try simp only [Act.put, List.setIfInBounds_toArray, List.set_cons_zero, List.set_cons_succ]
          refine org_pure (v := ?_) (by kernel_rfl) ?_ ?_
          rotate_left
          · intro w' hv; have cx := (HT.out.keep hv HT.out.lt).cellv (i := 0) (v := .slice q C.length c) rfl; clear hv; go_simp; try with_reducible rfl
          try simp only [Act.put, List.setIfInBounds_toArray, List.set_cons_zero, List.set_cons_succ]
          refine org_pure (v := ?_) (by kernel_rfl) ?_ ?_
          rotate_left
          · intro w' hv; have cx := (HT.out.keep hv HT.out.lt).cellv (i := 0) (v := .slice q C.length c) rfl; clear hv; go_simp; try with_reducible rfl
          try simp only [Act.put, List.setIfInBounds_toArray, List.set_cons_zero, List.set_cons_succ]
          refine org_step (by kernel_rfl) (fun K hK => ?_)
          go_wp2_with fail
          refine (HCC.out _ HB.out).mono ?_
          rintro e w4 ⟨⟨v4, rfl, ⟨q4, c4, rfl, hx1, hx2, hx3⟩⟩, hb⟩
          have HE2 := Lib.hid hb
          replace HB := Lib.hid (HB.out.trans (hb.mono HB.out.size))
          replace HT := Lib.hid (HT.out.keep hb HT.out.lt)
          clear hb
          have HX4 : Hid (D.length ≤ c4 ∧ (q4 = none → c4 = 0) ∧ Sees w4 w4.heap.size q4 (rowC D)) := Lib.hid ⟨hx1, hx2, hx3⟩
          refine hK _ _ ⟨HE2.out, ?_⟩
          clear hK HE2
          try simp only [Act.put, List.setIfInBounds_toArray, List.set_cons_zero, List.set_cons_succ]
          clear hx1 hx2 hx3
          refine org_step (by kernel_rfl) (fun K hK => ?_)
          go_wp2_with fail
          refine (HCD.out q4 c4 _ HB.out HX4.out.1 HX4.out.2.1 HX4.out.2.2).mono ?_
          rintro e w5 ⟨⟨v5, rfl, ⟨q5, c5, rfl, hx1, hx2, hx3⟩⟩, hb⟩
          have HE2 := Lib.hid hb
          replace HB := Lib.hid (HB.out.trans (hb.mono HB.out.size))
          replace HT := Lib.hid (HT.out.keep hb HT.out.lt)
          clear hb
          have HX5 : Hid (DD.length ≤ c5 ∧ Sees w5 w5.heap.size q5 (rowC DD)) := Lib.hid ⟨hx1, hx3⟩
          refine hK _ _ ⟨HE2.out, ?_⟩
          clear hK HE2
          try simp only [Act.put, List.setIfInBounds_toArray, List.set_cons_zero, List.set_cons_succ]
          clear hx1 hx2 hx3
          refine org_step (by kernel_rfl) (fun K hK => ?_)
          go_wp2_with fail
          refine (HCC.out _ HB.out).mono ?_
          rintro e w6 ⟨⟨v6, rfl, ⟨q6, c6, rfl, hx1, hx2, hx3⟩⟩, hb⟩
          have HE2 := Lib.hid hb
          replace HB := Lib.hid (HB.out.trans (hb.mono HB.out.size))
          replace HT := Lib.hid (HT.out.keep hb HT.out.lt)
          clear hb
          have HX6 : Hid (D.length ≤ c6 ∧ Sees w6 w6.heap.size q6 (rowC D)) := Lib.hid ⟨hx1, hx3⟩
          have HX5B := Lib.hid ((HX5.out.2.keep HE2.out).more HE2.out.size)
          refine hK _ _ ⟨HE2.out, ?_⟩
          clear hK HE2
          try simp only [Act.put, List.setIfInBounds_toArray, List.set_cons_zero, List.set_cons_succ]
          clear hx1 hx2 hx3
          refine org_step (by kernel_rfl) (fun K hK => ?_)
          go_wp2_with fail
          refine (HSS.out q5 q6 c5 c6 _ HB.out HX5.out.1 HX6.out.1 HX5B.out HX6.out.2).mono ?_
          rintro e w7 ⟨rfl, hb⟩
          have HE2 := Lib.hid hb
          replace HB := Lib.hid (HB.out.trans (hb.mono HB.out.size))
          replace HT := Lib.hid (HT.out.keep hb HT.out.lt)
          clear hb
          refine hK _ _ ⟨HE2.out, ?_⟩
          clear hK HE2
          try simp only [Act.put, List.setIfInBounds_toArray, List.set_cons_zero, List.set_cons_succ]
          refine org_pure (v := ?_) (by kernel_rfl) ?_ ?_
          rotate_left
          · intro w' hv; clear hv; go_simp; try with_reducible rfl
          try simp only [Act.put, List.setIfInBounds_toArray, List.set_cons_zero, List.set_cons_succ]
          refine org_pure (v := ?_) (by kernel_rfl) ?_ ?_
          rotate_left
          · intro w' hv; clear hv; go_simp; try with_reducible rfl
          try simp only [Act.put, List.setIfInBounds_toArray, List.set_cons_zero, List.set_cons_succ]
          refine org_nil ?_
          go_wp2_with fail
          go_ret
          exact ⟨rfl, HB.out⟩
end Go.Proofs.YthpendoblgndcaaDoor
namespace Go.Proofs.YthpendoblgndcaaDoor
open Go.ChangeShapes Go.WideShapes Go.ChangeAt Go.RowKit Go.ChangeMaps
set_option maxRecDepth 100000 in
theorem kids8_lifted (os : Os) (started : os.Started) (H : Type) (enc : TypeId × Value → H) :
    ReturnsInHanded {} Tryd.checked os 8 .any (fun w args => (Rows.treeKidsSpec.pre enc Tryd.prog Tryd.f8 [] false w args ∧ laidMetH Tryd.prog laidVars w) ∧ sizedMet enc Tryd.prog Tryd.f8 (OpenSpec.ofChange Rows.treeKidsSpec) false w args)
      (Rows.treeKidsSpec.post enc Tryd.prog Tryd.f8 false true false false) := by
  refine returnsInHanded_of_change_and (C := Tryd.checked) (X := fun w _ => laidMetH Tryd.prog laidVars w) (fun _ _ _ hh h => h.of_heap hh) own started (by kernel_rfl) Tryd.func8
    (ChangeSpec.witness_shaped (enc := enc) (C := Tryd.checked) (os := os) (X := fun w _ => laidMetH Tryd.prog laidVars w) false (World.laidAll Tryd.prog os laidVars) #[.slice none 0 0] 8 (World.laidAll_os _ _ _) (World.shaped_of_ZipB (by kernel_rfl) (by kernel_rfl)) (by kernel_rfl) (by kernel_rfl) (by kernel_rfl) (laid_met os _)) ?_
  intro W base args ds gs before hval0 hW _ hsz0 hL _
  have hval : ∀ (j : Nat) t v, Tryd.f8.params[j]? = some t → args[j]? = some v → Value.okWide Tryd.prog W .any base t v := hval0
  have hW' := hW
  obtain ⟨p, q, hA0, hV, rfl, hfz, hnd⟩ := hW
  have hA : DataW.TrodAll enc Tryd.prog W 0 (fun _ => true) true Tryd.f8.params.toList args.toList ds p := hA0
  have hsz : (DataW.weightsEach Tryd.prog (Tryd.f8.params.toList ++ Rows.treeKidsSpec.plain.varTypes Tryd.prog) (ds ++ gs)).all (· ≤ reachBytes) = true := hsz0
  rw [Tryd.params8] at hA hval hsz
  obtain ⟨v0, vs0, d0, ds0, p0, g0, hargs, rfl, rfl, h0, r0⟩ := trodAll_cons hA
  obtain ⟨rfl, rfl, rfl⟩ := trodAll_nil r0
  obtain rfl : args = #[v0] := by cases args; simp_all
  obtain ⟨rfl, rfl⟩ := trodVars_none hV
  have k0 := h0
  have lt0 : ∀ x ∈ p0, x.block < W.heap.size := by obtain ⟨m, hm⟩ := k0; exact DataW.trod_lt m _ _ _ hm
  obtain ⟨l0, q0, c0, rfl, hc0, hq0, hn0, hs0, hE0, hw0⟩ := open_ents (hval 0 23 v0 rfl rfl) h0
  have z0 : ∀ e ∈ l0, e.by.length ≤ reachBytes := fun e he => by
    rcases hw0 e he with h | ⟨n, hn, hle⟩
    · omega
    · exact Nat.le_trans hle (of_decide_eq_true (List.all_eq_true.1 hsz n (DataW.weights_mem_each (j := 0) rfl rfl n hn)))
  clear hA0 hval0
  refine (kids8_any l0 q0 c0 hc0 hq0 (bytes_bound z0) (paths_bound hn0) W hs0 hE0).mono fun e W' ⟨he, bel⟩ => ?_
  subst he
  exact ⟨_, rfl, _, _, _, [], _, [], hW', trodAll_mk1 (shut_bool Tryd.underlying4 _), (trodAll_cons_mk (Below.trod laidOut (by kernel_rfl) (of_decide_eq_true (by kernel_rfl)) k0 bel lt0) trodAll_mk0), rfl, bel.frame _, fun h => by cases h⟩
theorem kids8_row : Rows.TreeKidsSaid :=
  OpenClaim.holds_of_wide 8 Tryd.f8 rfl rfl rfl rfl rfl rfl rfl ⟨rfl, rfl, rfl, rfl, rfl⟩ rfl rfl rfl rfl rfl (by kernel_rfl) Tryd.func8 (by kernel_rfl)
    (of_decide_eq_true (by kernel_rfl)) (by unfold Func.isWrapper; first | (rw [if_pos (by decide +kernel)]; kernel_rfl) | (rw [if_neg (by decide +kernel)]; exact ⟨rfl, rfl⟩))
    (fun os started H enc _ => kids8_lifted os started H enc)
theorem treeKids_holds : Rows.TreeKidsCardSaid :=
  Claim7.holds_tied_plain_at .later [] [.data, .pinned] true Rows.treeKidsCard.stood.harness Rows.treeKidsCard.stood.looks
    kids8_row (fun _ h => by cases h) (by kernel_rfl) (fun _ h => by cases h) treeKids_row_tie rfl ⟨rfl, rfl⟩ (by kernel_rfl) rfl
    (fun f fn hf hfn => by
      obtain rfl : f = 8 := Option.some.inj ((show Tryd.prog.funcNamed "tallyman/tallymanlaw8.TreeKids" = some 8 by kernel_rfl).symm.trans hf) |>.symm
      obtain rfl : fn = Tryd.f8 := (Option.some.inj (Tryd.func8.symm.trans hfn)).symm
      exact ⟨by kernel_rfl, fun j t ht => by
        rw [Tryd.params8] at ht
        have hm : t ∈ [23] := by simpa using Array.mem_of_getElem? ht
        have hall : ([23].all fun u => !Tryd.prog.wantsStandIn u) = true := by kernel_rfl
        exact (show Tryd.prog.wantsStandIn t = false by simpa using List.all_eq_true.1 hall t hm)⟩)
    (by kernel_rfl)
#print axioms treeKids_holds
end Go.Proofs.YthpendoblgndcaaDoor
