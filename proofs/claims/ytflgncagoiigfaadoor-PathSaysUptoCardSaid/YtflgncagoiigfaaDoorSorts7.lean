/- The law PathSorts, walked: sorted, each is there once, in order; sorted again it is the same. Condition: what came in is within the model's reach. -/
import Derived.Test.YtflgncagoiigfaaDoorTexts7
import Derived.Test.YtflgncagoiigfaaDoorJoins7
namespace Go.Proofs.YtflgncagoiigfaaDoor
open Go.RowKit
theorem asc_next {R : List Tx} (h : Asc R) {i : Nat} (hi : i < R.length) (h0 : 1 ≤ i) : cmpL (R[i - 1]'(by omega)) R[i] = -1 ∧ underL (R[i - 1]'(by omega)) R[i] = false := by
  have h1 := List.pairwise_iff_getElem.1 h (i - 1) i (by omega) hi (by omega)
  refine ⟨h1, ?_⟩
  cases hu : underL (R[i - 1]'(by omega)) R[i] with
  | false => rfl
  | true =>
    exfalso
    obtain ⟨_, r, hr⟩ := (under_iff _ _).1 hu
    have h2 := cmpL_up R[i] r
    rw [← hr] at h2
    rw [cmpL_flip h2] at h1
    cases h1
theorem same_text (y x : ByteArray) : (y.data == x.data) = (y.data.toList == x.data.toList) := by
  rw [Bool.eq_iff_iff, beq_iff_eq, beq_iff_eq, Array.toList_inj]
set_option maxHeartbeats 8000000 in
set_option maxRecDepth 100000 in
theorem sorts_any (L : List Tx) (q : Option Addr) (c : Nat) (hm : L.length ≤ maxLen) (hn : ∀ t ∈ L, t.length ≤ maxLen) (w : World) (hs : Sees w w.heap.size q (L.map encStr)) :
    Calls Tryd.prog 6 #[.slice q L.length c] w fun e w' => e = .returned (.bool true) ∧ Below w.heap.size w w' := by
  have HA := Lib.hid (fun w1 => awake_any w1)
  have HS := Lib.hid hs
  have HN := Lib.hid hn
  clear hs hn
  unfold maxLen at hm
  by_cases h60 : 60 < (L.length : Int)
  · go_enter Tryd.func6, Tryd.ntmps6
    go_wp2_with fail
    refine (HA.out _).mono ?_
    rintro e w1 ⟨rfl, hb⟩
    go_wp2_with fail
    go_ret
    exact ⟨rfl, hb⟩
  have hl60 : L.length ≤ 60 := by omega
  go_enter Tryd.func6, Tryd.ntmps6
  go_wp2_with fail
  refine (HA.out _).mono ?_
  rintro e w1 ⟨rfl, hb⟩
  have HB1 := Lib.hid hb
  clear hb
  go_wp2_with fail
  go_loop [3] (fun vi => ∃ i : Nat, i ≤ L.length ∧ vi = .int .i64 i ∧ ∀ t ∈ L.take i, t.length ≤ 100) (fun vi => L.length - (intOf vi).toNat)
  case atStart => exact ⟨0, by omega, rfl, by simp⟩
  case round =>
    obtain ⟨i, hi, rfl, hts⟩ := hrel
    by_cases hlt : i < L.length
    · have htk : ∀ t ∈ L.take (i + 1), t.length ≤ 100 ∨ t = L[i] := fun t ht => by
        rw [List.take_add_one, List.getElem?_eq_getElem hlt] at ht
        rcases List.mem_append.1 ht with h | h
        · exact .inl (hts t h)
        · exact .inr (by simpa using h)
      obtain ⟨ad, rfl, hap, hcell⟩ := HS.out.get (by rw [List.length_map]; omega)
      obtain ⟨u, hu⟩ : ∃ u : ByteArray, u = ⟨L[i].toArray⟩ := ⟨_, rfl⟩
      have c1 : w1.cell? (ad.add i) = some (.string u) := (HB1.out.cell (by rw [add_block]; exact hap)).trans (hcell i (.string u) (by rw [List.getElem?_map, List.getElem?_eq_getElem hlt, hu]; rfl))
      have hul : u.size = L[i].length := by rw [hu]; show L[i].toArray.size = _; simp
      have HTK := Lib.hid htk
      have hkk : (i : Int) < (L.length : Int) := by omega
      clear hcell hap htk hu hts
      by_cases h1 : 100 < (u.size : Int)
      · clear hul
        go_wp2_with fail
        go_ret
        exact ⟨rfl, HB1.out⟩
      · have HU : Hid (L[i].length ≤ 100) := Lib.hid (by omega)
        clear hul
        go_wp2_with fail
        go_round
        case rel => exact ⟨i + 1, by omega, by go_num, fun t ht => (HTK.out t ht).elim id (fun e => by rw [e]; exact HU.out)⟩
        case measure => simp [intOf]; omega
    · have hil : i = L.length := by omega
      subst hil
      rw [List.take_length] at hts
      have HTS := Lib.hid hts
      have k0 : ¬ (L.length : Int) < (L.length : Int) := by omega
      clear hts hlt
      go_wp2_with fail
      refine (sort_any L q c (by omega) (fun t ht => by have := HTS.out t ht; omega) w1 ((HS.out.keep HB1.out).more HB1.out.size)).mono ?_
      rintro e w2 ⟨⟨v2, R, rfl, hsrt, hrl, q2, c2, rfl, hc2, hs2⟩, hb2⟩
      have HB2 := Lib.hid (HB1.out.trans (hb2.mono HB1.out.size))
      have HSR := Lib.hid hsrt
      have HS2 := Lib.hid hs2
      have HRL : Hid (∀ t ∈ R, t.length ≤ 100) := Lib.hid (fun t ht => HTS.out t ((hsrt.2 t).1 ht).1)
      clear hsrt hs2 hb2 HB1
      go_wp2_with fail
      refine (sort_any R q2 c2 (by omega) (fun t ht => by have := HRL.out t ht; omega) w2 HS2.out).mono ?_
      rintro e w3 ⟨⟨v3, R3, rfl, hsrt3, hrl3, q3, c3, rfl, hc3, hs3⟩, hb3⟩
      obtain rfl : R3 = R := srt_unique hsrt3 (srt_again HSR.out)
      have HB3 := Lib.hid (HB2.out.trans (hb3.mono HB2.out.size))
      have HS2' := Lib.hid ((HS2.out.keep hb3).more hb3.size)
      have HS3 := Lib.hid hs3
      clear hsrt3 hs3 hb3 HB2 HS2
      go_wp2_with fail
      refine (texts_same R3 (by omega) q3 q2 c3 c2 w3 HS3.out HS2'.out).mono ?_
      rintro e w4 ⟨rfl, hb4⟩
      have HB4 := Lib.hid (HB3.out.trans (hb4.mono HB3.out.size))
      have HSR4 := Lib.hid ((HS2'.out.keep hb4).more hb4.size)
      have HSL4 := Lib.hid ((HS.out.keep HB4.out).more HB4.out.size)
      clear hb4 HB3 HS2' HS3 hrl3 HS
      generalize R3 = R at *
      have HCR : Hid (∀ (i : Nat) (h : i < R.length), ∃ a, q2 = some a ∧ ∀ w', Below w4.heap.size w4 w' → w'.cell? (a.add i) = some (.string ⟨R[i].toArray⟩)) := Lib.hid (fun i h => by
        obtain ⟨a, ha, hab, hcell⟩ := HSR4.out.get (by rw [List.length_map]; omega)
        exact ⟨a, ha, fun w' hb => (hb.cell (by rw [add_block]; exact hab)).trans (hcell i (encStr R[i]) (by rw [List.getElem?_map, List.getElem?_eq_getElem h]; rfl))⟩)
      have HCL : Hid (∀ (i : Nat) (h : i < L.length), ∃ a, q = some a ∧ ∀ w', Below w4.heap.size w4 w' → w'.cell? (a.add i) = some (.string ⟨L[i].toArray⟩)) := Lib.hid (fun i h => by
        obtain ⟨a, ha, hab, hcell⟩ := HSL4.out.get (by rw [List.length_map]; omega)
        exact ⟨a, ha, fun w' hb => (hb.cell (by rw [add_block]; exact hab)).trans (hcell i (encStr L[i]) (by rw [List.getElem?_map, List.getElem?_eq_getElem h]; rfl))⟩)
      have HFIN : Hid (∀ wz, Below w4.heap.size w4 wz → Below w.heap.size w wz) := Lib.hid (fun wz hz => HB4.out.trans (hz.mono HB4.out.size))
      clear HSR4 HSL4 HB4
      go_wp2_with fail
      go_loopw [5] (fun vi wr => ∃ i : Nat, 1 ≤ i ∧ (i ≤ R.length ∨ i = 1) ∧ vi = .int .i64 i ∧ Below w4.heap.size w4 wr) (fun vi _ => R.length - (intOf vi).toNat)
      case atStart => exact ⟨1, by omega, .inr rfl, rfl, Below.refl _ _⟩
      case round =>
        rename_i wr
        obtain ⟨i, hi1, hi2, rfl, hb⟩ := hrel
        have HB := Lib.hid hb
        clear hb
        by_cases hir : i < R.length
        · obtain ⟨a2, rfl, hx⟩ := HCR.out i hir
          obtain ⟨a3, ha3, hy⟩ := HCR.out (i - 1) (by omega)
          obtain rfl : a2 = a3 := Option.some.inj ha3
          have hnx := asc_next HSR.out.1 hir hi1
          have hlx := HRL.out R[i] (List.getElem_mem hir)
          have hly := HRL.out (R[i - 1]'(by omega)) (List.getElem_mem (by omega))
          obtain ⟨x, hxe⟩ : ∃ x : ByteArray, x = ⟨R[i].toArray⟩ := ⟨_, rfl⟩
          obtain ⟨y, hye⟩ : ∃ y : ByteArray, y = ⟨(R[i - 1]'(by omega)).toArray⟩ := ⟨_, rfl⟩
          have hxs : x.size ≤ 100 := by rw [hxe]; show R[i].toArray.size ≤ _; simpa using hlx
          have hys : y.size ≤ 100 := by rw [hye]; show (R[i - 1]'(by omega)).toArray.size ≤ _; simpa using hly
          have HXC := Lib.hid (fun w1 => cmpB_any y x (by omega) (by omega) w1)
          have HXU := Lib.hid (fun w1 => under_any y x (by omega) w1)
          have e1 : cmpL y.data.toList x.data.toList = -1 := by rw [hxe, hye]; exact hnx.1
          have e2 : underL y.data.toList x.data.toList = false := by rw [hxe, hye]; exact hnx.2
          rw [e1] at HXC
          rw [e2] at HXU
          rw [← hxe] at hx
          rw [← hye] at hy
          have HX := Lib.hid hx
          have HY := Lib.hid hy
          have kw : IntKind.i64.wrap ((i : Int) - 1) = ((i - 1 : Nat) : Int) := by rw [IntWalk.i64_in _ (by omega)]; omega
          have hj : i - 1 < R.length := by omega
          clear hx hy hnx hlx hly hxe hye e1 e2 ha3
          obtain ⟨j, hjj⟩ : ∃ j, j = i - 1 := ⟨_, rfl⟩
          rw [← hjj] at kw hj HY
          clear hjj
          have kr : (i : Int) < (R.length : Int) := by omega
          go_wp2_with fail
          refine wp_region_org [(0, true), (1, true), (2, true), (3, true), (4, true), (5, true), (6, true), (7, true), (8, true), (9, false), (10, true), (11, true), (12, true), (13, true), (14, true), (15, true), (16, true), (17, true), (18, true), (19, true), (20, true), (21, false), (22, true)] (by kernel_rfl) (by kernel_rfl) (by kernel_rfl) ?_
          replace HB := Lib.hid HB.out.drew
          generalize wr.drew = w14 at *
          simp only [pickOrs, List.getElem?_cons_zero, List.getElem?_cons_succ]
          refine org_pure (v := ?_) (by kernel_rfl) ?_ ?_
          rotate_left
          · intro w' hv; clear hv; go_simp; try with_reducible rfl
          try simp only [Act.put, List.setIfInBounds_toArray, List.set_cons_zero, List.set_cons_succ]
          refine org_pure (v := ?_) (by kernel_rfl) ?_ ?_
          rotate_left
          · intro w' hv; clear hv; go_simp; try with_reducible rfl
          try simp only [Act.put, List.setIfInBounds_toArray, List.set_cons_zero, List.set_cons_succ]
          refine org_pure (v := ?_) (by kernel_rfl) ?_ ?_
          rotate_left
          · intro w' hv; clear hv; go_simp; try with_reducible rfl
          try simp only [Act.put, List.setIfInBounds_toArray, List.set_cons_zero, List.set_cons_succ]
          refine org_pure (v := ?_) (by kernel_rfl) ?_ ?_
          rotate_left
          · intro w' hv; clear hv; go_simp; try with_reducible rfl
          try simp only [Act.put, List.setIfInBounds_toArray, List.set_cons_zero, List.set_cons_succ]
          refine org_pure (v := ?_) (by kernel_rfl) ?_ ?_
          rotate_left
          · intro w' hv; have cp := HY.out w' (HB.out.trans (Below.mono hv HB.out.size)); clear hv; go_simp; try with_reducible rfl
          try simp only [Act.put, List.setIfInBounds_toArray, List.set_cons_zero, List.set_cons_succ]
          refine org_pure (v := ?_) (by kernel_rfl) ?_ ?_
          rotate_left
          · intro w' hv; clear hv; go_simp; try with_reducible rfl
          try simp only [Act.put, List.setIfInBounds_toArray, List.set_cons_zero, List.set_cons_succ]
          refine org_pure (v := ?_) (by kernel_rfl) ?_ ?_
          rotate_left
          · intro w' hv; clear hv; go_simp; try with_reducible rfl
          try simp only [Act.put, List.setIfInBounds_toArray, List.set_cons_zero, List.set_cons_succ]
          refine org_pure (v := ?_) (by kernel_rfl) ?_ ?_
          rotate_left
          · intro w' hv; clear hv; go_simp; try with_reducible rfl
          try simp only [Act.put, List.setIfInBounds_toArray, List.set_cons_zero, List.set_cons_succ]
          refine org_pure (v := ?_) (by kernel_rfl) ?_ ?_
          rotate_left
          · intro w' hv; have cp := HX.out w' (HB.out.trans (Below.mono hv HB.out.size)); clear hv; go_simp; try with_reducible rfl
          try simp only [Act.put, List.setIfInBounds_toArray, List.set_cons_zero, List.set_cons_succ]
          refine org_step (by kernel_rfl) (fun K hK => ?_)
          go_wp2_with fail
          refine (HXC.out _).mono ?_
          rintro e wx ⟨rfl, hb⟩
          have HE := Lib.hid hb
          replace HB := Lib.hid (HB.out.trans (hb.mono HB.out.size))
          clear hb
          refine hK _ _ ⟨HE.out, ?_⟩
          clear hK HE
          try simp only [Act.put, List.setIfInBounds_toArray, List.set_cons_zero, List.set_cons_succ]
          refine org_pure (v := ?_) (by kernel_rfl) ?_ ?_
          rotate_left
          · intro w' hv; clear hv; go_simp; try with_reducible rfl
          try simp only [Act.put, List.setIfInBounds_toArray, List.set_cons_zero, List.set_cons_succ]
          refine org_pure (v := ?_) (by kernel_rfl) ?_ ?_
          rotate_left
          · intro w' hv; clear hv; go_simp; try with_reducible rfl
          try simp only [Act.put, List.setIfInBounds_toArray, List.set_cons_zero, List.set_cons_succ]
          refine org_pure (v := ?_) (by kernel_rfl) ?_ ?_
          rotate_left
          · intro w' hv; clear hv; go_simp; try with_reducible rfl
          try simp only [Act.put, List.setIfInBounds_toArray, List.set_cons_zero, List.set_cons_succ]
          refine org_pure (v := ?_) (by kernel_rfl) ?_ ?_
          rotate_left
          · intro w' hv; clear hv; go_simp; try with_reducible rfl
          try simp only [Act.put, List.setIfInBounds_toArray, List.set_cons_zero, List.set_cons_succ]
          refine org_pure (v := ?_) (by kernel_rfl) ?_ ?_
          rotate_left
          · intro w' hv; clear hv; go_simp; try with_reducible rfl
          try simp only [Act.put, List.setIfInBounds_toArray, List.set_cons_zero, List.set_cons_succ]
          refine org_pure (v := ?_) (by kernel_rfl) ?_ ?_
          rotate_left
          · intro w' hv; clear hv; go_simp; try with_reducible rfl
          try simp only [Act.put, List.setIfInBounds_toArray, List.set_cons_zero, List.set_cons_succ]
          refine org_pure (v := ?_) (by kernel_rfl) ?_ ?_
          rotate_left
          · intro w' hv; have cp := HY.out w' (HB.out.trans (Below.mono hv HB.out.size)); clear hv; go_simp; try with_reducible rfl
          try simp only [Act.put, List.setIfInBounds_toArray, List.set_cons_zero, List.set_cons_succ]
          refine org_pure (v := ?_) (by kernel_rfl) ?_ ?_
          rotate_left
          · intro w' hv; clear hv; go_simp; try with_reducible rfl
          try simp only [Act.put, List.setIfInBounds_toArray, List.set_cons_zero, List.set_cons_succ]
          refine org_pure (v := ?_) (by kernel_rfl) ?_ ?_
          rotate_left
          · intro w' hv; clear hv; go_simp; try with_reducible rfl
          try simp only [Act.put, List.setIfInBounds_toArray, List.set_cons_zero, List.set_cons_succ]
          refine org_pure (v := ?_) (by kernel_rfl) ?_ ?_
          rotate_left
          · intro w' hv; clear hv; go_simp; try with_reducible rfl
          try simp only [Act.put, List.setIfInBounds_toArray, List.set_cons_zero, List.set_cons_succ]
          refine org_pure (v := ?_) (by kernel_rfl) ?_ ?_
          rotate_left
          · intro w' hv; have cp := HX.out w' (HB.out.trans (Below.mono hv HB.out.size)); clear hv; go_simp; try with_reducible rfl
          try simp only [Act.put, List.setIfInBounds_toArray, List.set_cons_zero, List.set_cons_succ]
          refine org_step (by kernel_rfl) (fun K hK => ?_)
          go_wp2_with fail
          refine (HXU.out _).mono ?_
          rintro e wx ⟨rfl, hb⟩
          have HE := Lib.hid hb
          replace HB := Lib.hid (HB.out.trans (hb.mono HB.out.size))
          clear hb
          refine hK _ _ ⟨HE.out, ?_⟩
          clear hK HE
          try simp only [Act.put, List.setIfInBounds_toArray, List.set_cons_zero, List.set_cons_succ]
          refine org_pure (v := ?_) (by kernel_rfl) ?_ ?_
          rotate_left
          · intro w' hv; clear hv; go_simp; try with_reducible rfl
          try simp only [Act.put, List.setIfInBounds_toArray, List.set_cons_zero, List.set_cons_succ]
          refine org_nil ?_
          go_wp2_with fail
          go_roundw
          case rel => exact ⟨i + 1, by omega, .inl (by omega), by go_num, HB.out⟩
          case measure => simp [intOf]; omega
        · have kr : ¬ (i : Int) < (R.length : Int) := by omega
          have HB5 := HB
          clear hir hi2 hi1
          go_wp2_with fail
          go_loopw [6, 7, 8] (fun vi _ _ wz => ∃ n : Nat, n ≤ L.length ∧ vi = .int .i64 n ∧ Below w4.heap.size w4 wz) (fun vi _ _ _ => L.length - (intOf vi).toNat)
          case atStart => exact ⟨0, by omega, rfl, HB.out⟩
          case round =>
            clear HB HB5 kr
            rename_i wy
            obtain ⟨n, hn1, rfl, hb⟩ := hrel
            have HB := Lib.hid hb
            clear hb
            by_cases hnl : n < L.length
            · obtain ⟨a1, rfl, hx⟩ := HCL.out n hnl
              obtain ⟨x, hxe⟩ : ∃ x : ByteArray, x = ⟨L[n].toArray⟩ := ⟨_, rfl⟩
              have hxb : bt x = L[n] := by rw [hxe]
              have hxl : L[n] ∈ L := List.getElem_mem hnl
              have hmem : okPath (bt x) = decide (bt x ∈ R) := by
                rw [hxb, Bool.eq_iff_iff, decide_eq_true_iff, HSR.out.2]
                exact ⟨fun h => ⟨hxl, h⟩, fun h => h.2⟩
              have hxs : x.size ≤ 100 := by rw [text_size, hxb]; exact HTS.out _ hxl
              have HG := Lib.hid (fun w1 => good_any x (by omega) w1)
              have e1 : x.data.toList = bt x := rfl
              rw [e1, hmem] at HG
              rw [← hxe] at hx
              have HX := Lib.hid hx
              have knl : (n : Int) < (L.length : Int) := by omega
              clear hx hxe hxb hxl hmem e1
              go_wp2_with fail
              go_loopw [7, 8] (fun vt vk wz => ∃ k : Nat, k ≤ R.length ∧ vk = .int .i64 k ∧ vt = .bool (decide (bt x ∈ R.take k)) ∧ Below w4.heap.size w4 wz) (fun _ vk _ => R.length - (intOf vk).toNat)
              case atStart => exact ⟨0, by omega, rfl, by simp, HB.out⟩
              case round =>
                clear HB
                obtain ⟨k, hk, rfl, rfl, hb⟩ := hrel
                have HB := Lib.hid hb
                clear hb
                by_cases hkr : k < R.length
                · obtain ⟨a2, rfl, hy⟩ := HCR.out k hkr
                  obtain ⟨y, hye⟩ : ∃ y : ByteArray, y = ⟨R[k].toArray⟩ := ⟨_, rfl⟩
                  have hyb : bt y = R[k] := by rw [hye]
                  have hstep : decide (bt x ∈ R.take (k + 1)) = (decide (bt x ∈ R.take k) || (y.data.toList == x.data.toList)) := by
                    rw [List.take_add_one, List.getElem?_eq_getElem hkr, Bool.eq_iff_iff]
                    simp only [decide_eq_true_iff, List.mem_append, Bool.or_eq_true, beq_iff_eq]
                    constructor
                    · rintro (h | h)
                      · exact .inl h
                      · have : bt x = R[k] := by simpa using h
                        exact .inr (by show bt y = bt x; rw [hyb, this])
                    · rintro (h | h)
                      · exact .inl h
                      · have h2 : bt y = bt x := h
                        exact .inr (by rw [← h2, hyb]; simp)
                  rw [← hye] at hy
                  have HY := Lib.hid hy
                  have HST := Lib.hid hstep
                  have kkr : (k : Int) < (R.length : Int) := by omega
                  have hly : y.toList = y.data.toList := Lib.toList_data y
                  have hlx : x.toList = x.data.toList := Lib.toList_data x
                  clear hy hye hyb hstep
                  cases ht : decide (bt x ∈ R.take k) with
                  | true =>
                    rw [ht] at HST
                    clear ht
                    go_wp2_with fail
                    refine wp_region_org ((List.range 13).map (·, true)) (by kernel_rfl) (by kernel_rfl) (by kernel_rfl) ?_
                    replace HB := Lib.hid HB.out.drew
                    generalize wr.drew = w15 at *
                    simp only [List.range_succ, List.range_zero, List.nil_append, List.cons_append, List.map_cons, List.map_nil, pickOrs, List.getElem?_cons_zero, List.getElem?_cons_succ]
                    refine org_pure (v := ?_) (by kernel_rfl) ?_ ?_
                    rotate_left
                    · intro w' hv; clear hv; go_simp; try with_reducible rfl
                    try simp only [Act.put, List.setIfInBounds_toArray, List.set_cons_zero, List.set_cons_succ]
                    refine org_pure (v := ?_) (by kernel_rfl) ?_ ?_
                    rotate_left
                    · intro w' hv; clear hv; go_simp; try with_reducible rfl
                    try simp only [Act.put, List.setIfInBounds_toArray, List.set_cons_zero, List.set_cons_succ]
                    refine org_skip (by kernel_rfl) ?_
                    try simp only [Act.put, List.setIfInBounds_toArray, List.set_cons_zero, List.set_cons_succ]
                    refine org_skip (by kernel_rfl) ?_
                    try simp only [Act.put, List.setIfInBounds_toArray, List.set_cons_zero, List.set_cons_succ]
                    refine org_skip (by kernel_rfl) ?_
                    try simp only [Act.put, List.setIfInBounds_toArray, List.set_cons_zero, List.set_cons_succ]
                    refine org_skip (by kernel_rfl) ?_
                    try simp only [Act.put, List.setIfInBounds_toArray, List.set_cons_zero, List.set_cons_succ]
                    refine org_skip (by kernel_rfl) ?_
                    try simp only [Act.put, List.setIfInBounds_toArray, List.set_cons_zero, List.set_cons_succ]
                    refine org_skip (by kernel_rfl) ?_
                    try simp only [Act.put, List.setIfInBounds_toArray, List.set_cons_zero, List.set_cons_succ]
                    refine org_skip (by kernel_rfl) ?_
                    try simp only [Act.put, List.setIfInBounds_toArray, List.set_cons_zero, List.set_cons_succ]
                    refine org_skip (by kernel_rfl) ?_
                    try simp only [Act.put, List.setIfInBounds_toArray, List.set_cons_zero, List.set_cons_succ]
                    refine org_skip (by kernel_rfl) ?_
                    try simp only [Act.put, List.setIfInBounds_toArray, List.set_cons_zero, List.set_cons_succ]
                    refine org_pure (v := ?_) (by kernel_rfl) ?_ ?_
                    rotate_left
                    · intro w' hv; clear hv; go_simp; try with_reducible rfl
                    try simp only [Act.put, List.setIfInBounds_toArray, List.set_cons_zero, List.set_cons_succ]
                    refine org_pure (v := ?_) (by kernel_rfl) ?_ ?_
                    rotate_left
                    · intro w' hv; clear hv; go_simp; try with_reducible rfl
                    try simp only [Act.put, List.setIfInBounds_toArray, List.set_cons_zero, List.set_cons_succ]
                    refine org_nil ?_
                    go_wp2_with fail
                    go_roundw
                    case rel => exact ⟨k + 1, by omega, by go_num, by rw [HST.out]; rfl, HB.out⟩
                    case measure => simp [intOf]; omega
                  | false =>
                    rw [ht, Bool.false_or] at HST
                    clear ht
                    go_wp2_with fail
                    refine wp_region_org ((List.range 13).map (·, true)) (by kernel_rfl) (by kernel_rfl) (by kernel_rfl) ?_
                    replace HB := Lib.hid HB.out.drew
                    generalize wr.drew = w15 at *
                    simp only [List.range_succ, List.range_zero, List.nil_append, List.cons_append, List.map_cons, List.map_nil, pickOrs, List.getElem?_cons_zero, List.getElem?_cons_succ]
                    refine org_pure (v := ?_) (by kernel_rfl) ?_ ?_
                    rotate_left
                    · intro w' hv; clear hv; go_simp; try with_reducible rfl
                    try simp only [Act.put, List.setIfInBounds_toArray, List.set_cons_zero, List.set_cons_succ]
                    refine org_pure (v := ?_) (by kernel_rfl) ?_ ?_
                    rotate_left
                    · intro w' hv; clear hv; go_simp; try with_reducible rfl
                    try simp only [Act.put, List.setIfInBounds_toArray, List.set_cons_zero, List.set_cons_succ]
                    refine org_pure (v := ?_) (by kernel_rfl) ?_ ?_
                    rotate_left
                    · intro w' hv; clear hv; go_simp; try with_reducible rfl
                    try simp only [Act.put, List.setIfInBounds_toArray, List.set_cons_zero, List.set_cons_succ]
                    refine org_pure (v := ?_) (by kernel_rfl) ?_ ?_
                    rotate_left
                    · intro w' hv; clear hv; go_simp; try with_reducible rfl
                    try simp only [Act.put, List.setIfInBounds_toArray, List.set_cons_zero, List.set_cons_succ]
                    refine org_pure (v := ?_) (by kernel_rfl) ?_ ?_
                    rotate_left
                    · intro w' hv; clear hv; go_simp; try with_reducible rfl
                    try simp only [Act.put, List.setIfInBounds_toArray, List.set_cons_zero, List.set_cons_succ]
                    refine org_pure (v := ?_) (by kernel_rfl) ?_ ?_
                    rotate_left
                    · intro w' hv; have cp := HY.out w' (HB.out.trans (Below.mono hv HB.out.size)); clear hv; go_simp; try with_reducible rfl
                    try simp only [Act.put, List.setIfInBounds_toArray, List.set_cons_zero, List.set_cons_succ]
                    refine org_pure (v := ?_) (by kernel_rfl) ?_ ?_
                    rotate_left
                    · intro w' hv; clear hv; go_simp; try with_reducible rfl
                    try simp only [Act.put, List.setIfInBounds_toArray, List.set_cons_zero, List.set_cons_succ]
                    refine org_pure (v := ?_) (by kernel_rfl) ?_ ?_
                    rotate_left
                    · intro w' hv; clear hv; go_simp; try with_reducible rfl
                    try simp only [Act.put, List.setIfInBounds_toArray, List.set_cons_zero, List.set_cons_succ]
                    refine org_pure (v := ?_) (by kernel_rfl) ?_ ?_
                    rotate_left
                    · intro w' hv; clear hv; go_simp; try with_reducible rfl
                    try simp only [Act.put, List.setIfInBounds_toArray, List.set_cons_zero, List.set_cons_succ]
                    refine org_pure (v := ?_) (by kernel_rfl) ?_ ?_
                    rotate_left
                    · intro w' hv; have cp := HX.out w' (HB.out.trans (Below.mono hv HB.out.size)); clear hv; go_simp; try with_reducible rfl
                    try simp only [Act.put, List.setIfInBounds_toArray, List.set_cons_zero, List.set_cons_succ]
                    refine org_pure (v := ?_) (by kernel_rfl) ?_ ?_
                    rotate_left
                    · intro w' hv; clear hv; go_simp; try with_reducible rfl
                    try simp only [Act.put, List.setIfInBounds_toArray, List.set_cons_zero, List.set_cons_succ]
                    refine org_pure (v := ?_) (by kernel_rfl) ?_ ?_
                    rotate_left
                    · intro w' hv; clear hv; go_simp; try with_reducible rfl
                    try simp only [Act.put, List.setIfInBounds_toArray, List.set_cons_zero, List.set_cons_succ]
                    refine org_pure (v := ?_) (by kernel_rfl) ?_ ?_
                    rotate_left
                    · intro w' hv; clear hv; go_simp; try with_reducible rfl
                    try simp only [Act.put, List.setIfInBounds_toArray, List.set_cons_zero, List.set_cons_succ]
                    refine org_nil ?_
                    go_wp2_with fail
                    go_roundw
                    case rel => exact ⟨k + 1, by omega, by go_num, by rw [HST.out]; exact congrArg Value.bool (same_text y x), HB.out⟩
                    case measure => simp [intOf]; omega
                · have hkl : k = R.length := by omega
                  subst hkl
                  rw [List.take_length]
                  have kkr : ¬ (R.length : Int) < (R.length : Int) := by omega
                  have cx := HX.out _ HB.out
                  clear hkr
                  cases ht : decide (bt x ∈ R) with
                  | true =>
                    rw [ht] at HG
                    clear ht
                    go_wp2_with fail
                    refine (HG.out _).mono ?_
                    rintro e w6 ⟨rfl, hb⟩
                    replace HB := Lib.hid (HB.out.trans (hb.mono HB.out.size))
                    clear hb cx
                    go_wp2_with fail
                    go_roundw
                    case rel => exact ⟨n + 1, by omega, by go_num, HB.out⟩
                    case measure => simp [intOf]; omega
                  | false =>
                    rw [ht] at HG
                    clear ht
                    go_wp2_with fail
                    refine (HG.out _).mono ?_
                    rintro e w6 ⟨rfl, hb⟩
                    replace HB := Lib.hid (HB.out.trans (hb.mono HB.out.size))
                    clear hb cx
                    go_wp2_with fail
                    go_roundw
                    case rel => exact ⟨n + 1, by omega, by go_num, HB.out⟩
                    case measure => simp [intOf]; omega
            · have hnl2 : n = L.length := by omega
              subst hnl2
              have knl : ¬ (L.length : Int) < (L.length : Int) := by omega
              go_wp2_with fail
              go_ret
              exact ⟨rfl, HFIN.out _ HB.out⟩
theorem sorts_of (l : List ByteArray) (q : Option Addr) (c : Nat) (hm : l.length ≤ maxLen) (hn : ∀ s ∈ l, s.size ≤ maxLen) (w : World) (hs : Sees w w.heap.size q (l.map Value.string)) :
    Calls Tryd.prog 6 #[.slice q l.length c] w fun e w' => e = .returned (.bool true) ∧ Below w.heap.size w w' := by
  have h := sorts_any (l.map bt) q c (by simpa using hm) (fun t ht => by obtain ⟨s, h1, rfl⟩ := List.mem_map.1 ht; exact hn s h1) w (by rw [Lib.map_encStr]; exact hs)
  rwa [List.length_map] at h
end Go.Proofs.YtflgncagoiigfaaDoor
