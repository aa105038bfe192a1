/- Contract: the document's own Cmp: two texts, name by name. Condition: texts of at most 2^20 bytes. -/
import Derived.Test.YtflgncagoiigfaaDoorRgood
namespace Go.Proofs.YtflgncagoiigfaaDoor
open Go.RowKit
/-- Names compared one by one, by bytes. -/
def ncmp : List Tx → List Tx → Int
  | [], [] => 0
  | [], _ :: _ => -1
  | _ :: _, [] => 1
  | x :: X, y :: Y => if Op.bytesLess x y = true then -1 else if (Op.bytesLess x y || x == y) = false then 1 else ncmp X Y
theorem bl_nil (x : Tx) : Op.bytesLess x [] = false := by cases x <;> rfl
theorem bl_cons (y : UInt8) (Y : Tx) : Op.bytesLess [] (y :: Y) = true := rfl
theorem bl_same (c : UInt8) (x y : Tx) : Op.bytesLess (c :: x) (c :: y) = Op.bytesLess x y := by
  show (decide (c < c) || (c == c && Op.bytesLess x y)) = _
  have : ¬ c < c := UInt8.lt_irrefl c
  simp [this]
theorem bl_diff {c d : UInt8} (h : c ≠ d) (x y : Tx) : Op.bytesLess (c :: x) (d :: y) = decide (c < d) := by
  show (decide (c < d) || (c == d && Op.bytesLess x y)) = _
  have : (c == d) = false := by rw [beq_eq_false_iff_ne]; exact h
  rw [this]; simp
theorem ncmp_same (x : Tx) (X Y : List Tx) : ncmp (x :: X) (x :: Y) = ncmp X Y := by
  have h1 : Op.bytesLess x x = false := by
    induction x with
    | nil => rfl
    | cons c r ih => rw [bl_same, ih]
  rw [ncmp, h1]; simp
theorem ncmp_cons (c : UInt8) (x y : Tx) (X Y : List Tx) : ncmp ((c :: x) :: X) ((c :: y) :: Y) = ncmp (x :: X) (y :: Y) := by
  rw [ncmp, ncmp, bl_same]
  have : ((c :: x) == (c :: y)) = (x == y) := by rw [Bool.eq_iff_iff]; simp
  rw [this]
theorem nms_slash (r : Tx) : nms (47 :: r) = [] :: nms r := by rw [nms, if_pos rfl]
theorem nms_byte {c : UInt8} (h : c ≠ 47) (r : Tx) : ∃ n ns, nms r = n :: ns ∧ nms (c :: r) = (c :: n) :: ns := by
  cases hr : nms r with
  | nil => exact absurd hr (nms_ne r)
  | cons n ns => exact ⟨n, ns, rfl, by rw [nms, if_neg h, hr]⟩
theorem ncmp_nms : ∀ (a b : Tx), ncmp (nms a) (nms b) = cmpL a b
  | [], [] => rfl
  | [], d :: s => by
    show ncmp [[]] (nms (d :: s)) = -1
    by_cases h : d = 47
    · rw [h, nms_slash, ncmp_same]
      cases hs : nms s with
      | nil => exact absurd hs (nms_ne s)
      | cons n ns => rfl
    · obtain ⟨n, ns, _, h2⟩ := nms_byte h s
      rw [h2, ncmp, bl_cons, if_pos rfl]
  | c :: r, [] => by
    show ncmp (nms (c :: r)) [[]] = 1
    by_cases h : c = 47
    · rw [h, nms_slash, ncmp_same]
      cases hs : nms r with
      | nil => exact absurd hs (nms_ne r)
      | cons n ns => rfl
    · obtain ⟨n, ns, _, h2⟩ := nms_byte h r
      rw [h2, ncmp, bl_nil]; rfl
  | c :: r, d :: s => by
    have ih := ncmp_nms r s
    rw [cmpL]
    by_cases hcd : c = d
    · subst hcd
      rw [if_pos rfl]
      by_cases h : c = 47
      · rw [h, nms_slash, nms_slash, ncmp_same, ih]
      · obtain ⟨n, ns, h1, h2⟩ := nms_byte h r
        obtain ⟨m, ms, h3, h4⟩ := nms_byte h s
        rw [h2, h4, ncmp_cons, ← h1, ← h3, ih]
    · rw [if_neg hcd]
      by_cases h : c = 47
      · have hd : d ≠ 47 := fun e => hcd (by rw [h, e])
        obtain ⟨m, ms, _, h4⟩ := nms_byte hd s
        rw [h, nms_slash, h4, ncmp, bl_cons, if_pos rfl]
        unfold rankB
        rw [if_pos rfl, if_neg hd]
        exact (cmpI_lt (by omega)).symm
      · obtain ⟨n, ns, _, h2⟩ := nms_byte h r
        by_cases hd : d = 47
        · rw [hd, nms_slash, h2, ncmp, bl_nil]
          unfold rankB
          rw [if_pos rfl, if_neg h]
          exact (cmpI_gt (by omega)).symm
        · obtain ⟨m, ms, _, h4⟩ := nms_byte hd s
          rw [h2, h4, ncmp, bl_diff hcd]
          unfold rankB
          rw [if_neg h, if_neg hd]
          have he : ((c :: n) == (d :: m)) = false := by rw [beq_eq_false_iff_ne]; intro e; injection e with e1 _; exact hcd e1
          by_cases hlt : c < d
          · rw [decide_eq_true hlt, if_pos rfl]
            have h5 : c.toNat < d.toNat := UInt8.lt_iff_toNat_lt.1 hlt
            exact (cmpI_lt (by omega)).symm
          · rw [decide_eq_false hlt, he]
            have h5 : ¬ c.toNat < d.toNat := fun k => hlt (UInt8.lt_iff_toNat_lt.2 k)
            have h6 : c.toNat ≠ d.toNat := fun k => hcd (UInt8.toNat_inj.1 k)
            exact (cmpI_gt (by omega)).symm
theorem ncmp_end (X Y : List Tx) (h : X = [] ∨ Y = []) : ncmp X Y = Lib.compareInt X.length Y.length := by
  cases X with
  | nil => cases Y with
    | nil => rfl
    | cons y Y => exact (cmpI_lt (by simp)).symm
  | cons x X => cases Y with
    | nil => exact (cmpI_gt (by simp)).symm
    | cons y Y => rcases h with h | h <;> cases h
theorem gtr_text (t : TypeId) (a b : ByteArray) : binOp .gtr t (.string a) (.string b) = pure (.bool !(Op.bytesLess a.toList b.toList || a.toList == b.toList)) := by simp [binOp, Op.stringOp]
set_option maxHeartbeats 8000000 in
set_option maxRecDepth 100000 in
theorem rcmp_any (a b : ByteArray) (ha : a.size ≤ 1048576) (hb : b.size ≤ 1048576) (w : World) :
    Calls Tryd.prog 26 #[.string a, .string b] w fun e w' => e = .returned (.int .i64 (cmpL a.data.toList b.data.toList)) ∧ Below w.heap.size w w' := by
  have HNA := Lib.hid (fun w1 => names_any a ha w1)
  have HNB := Lib.hid (fun w1 => names_any b hb w1)
  have hcx : (nms a.data.toList).length ≤ 1048577 := by rw [nms_count]; have : a.data.toList.count 47 ≤ a.data.toList.length := List.count_le_length; have : a.data.toList.length = a.size := rfl; omega
  have hcy : (nms b.data.toList).length ≤ 1048577 := by rw [nms_count]; have : b.data.toList.count 47 ≤ b.data.toList.length := List.count_le_length; have : b.data.toList.length = b.size := rfl; omega
  obtain ⟨V, hV⟩ : ∃ V, ncmp (nms a.data.toList) (nms b.data.toList) = V := ⟨_, rfl⟩
  rw [← ncmp_nms, hV]
  generalize nms a.data.toList = X at *
  generalize nms b.data.toList = Y at *
  have HV := Lib.hid hV
  clear hV
  go_enter Tryd.func26, Tryd.ntmps26
  go_wp2_with fail
  refine (HNA.out _).mono ?_
  rintro e w1 ⟨⟨v, rfl, q, c, rfl, hc, hx⟩, hb1⟩
  have HB1 := Lib.hid hb1
  have HX1 := Lib.hid hx
  clear hb1 hx hc
  go_wp2_with fail
  refine (HNB.out _).mono ?_
  rintro e w2 ⟨⟨v, rfl, q2, c2, rfl, hc2, hy⟩, hb2⟩
  have HX2 := Lib.hid ((HX1.out.keep hb2).more hb2.size)
  have HY2 := Lib.hid hy
  have HB2 := Lib.hid (HB1.out.trans (hb2.mono HB1.out.size))
  clear hb2 hy hc2 HX1 HB1
  go_wp2_with fail
  go_loopw [7] (fun vi wr => ∃ i : Nat, i ≤ X.length ∧ i ≤ Y.length ∧ vi = .int .i64 i ∧ ncmp (X.drop i) (Y.drop i) = V ∧ Below w2.heap.size w2 wr) (fun vi _ => X.length - (intOf vi).toNat)
  case atStart => exact ⟨0, by omega, by omega, rfl, HV.out, Below.refl _ _⟩
  case round =>
    rename_i wr
    obtain ⟨i, hi, hi2, rfl, hv, hb⟩ := hrel
    have HB := Lib.hid hb
    clear hb
    by_cases h1 : i < X.length
    · by_cases h2 : i < Y.length
      · obtain ⟨ax, rfl, hax, hcx2⟩ := HX2.out.get (by rw [List.length_map]; omega)
        obtain ⟨ay, rfl, hay, hcy2⟩ := HY2.out.get (by rw [List.length_map]; omega)
        obtain ⟨x, hxe⟩ : ∃ x : ByteArray, x = ⟨X[i].toArray⟩ := ⟨_, rfl⟩
        obtain ⟨y, hye⟩ : ∃ y : ByteArray, y = ⟨Y[i].toArray⟩ := ⟨_, rfl⟩
        have HCX : Hid (∀ w', Below w2.heap.size w2 w' → w'.cell? (ax.add i) = some (.string x)) := Lib.hid (fun w' hb => (hb.cell (by rw [add_block]; exact hax)).trans (hcx2 i (.string x) (by rw [List.getElem?_map, List.getElem?_eq_getElem h1, hxe]; rfl)))
        have HCY : Hid (∀ w', Below w2.heap.size w2 w' → w'.cell? (ay.add i) = some (.string y)) := Lib.hid (fun w' hb => (hb.cell (by rw [add_block]; exact hay)).trans (hcy2 i (.string y) (by rw [List.getElem?_map, List.getElem?_eq_getElem h2, hye]; rfl)))
        rw [List.drop_eq_getElem_cons h1, List.drop_eq_getElem_cons h2, ncmp] at hv
        have e1 : X[i] = x.data.toList := by rw [hxe]
        have e2 : Y[i] = y.data.toList := by rw [hye]
        rw [e1, e2] at hv
        have HVV := Lib.hid hv
        have hlx : x.toList = x.data.toList := Lib.toList_data x
        have hly : y.toList = y.data.toList := Lib.toList_data y
        have kx : (i : Int) < (X.length : Int) := by omega
        have ky : (i : Int) < (Y.length : Int) := by omega
        clear hcx2 hcy2 hax hay hxe hye e1 e2 hv
        go_wp2_with fail
        refine wp_region_org ((List.range 9).map (·, true)) (by kernel_rfl) (by kernel_rfl) (by kernel_rfl) ?_
        replace HB := Lib.hid HB.out.drew
        generalize wr.drew = wrd at *
        simp only [List.range_succ, List.range_zero, List.nil_append, List.cons_append, List.map_cons, List.map_nil, pickOrs, List.getElem?_cons_zero, List.getElem?_cons_succ]
        refine org_pure (v := ?_) (by kernel_rfl) ?_ ?_
        rotate_left
        · intro w' hv; clear hv; go_simp; try with_reducible rfl
        try simp only [Act.put, List.setIfInBounds_toArray, List.set_cons_zero, List.set_cons_succ]
        refine org_pure (v := ?_) (by kernel_rfl) ?_ ?_
        rotate_left
        · intro w' hv; clear hv; go_simp; try with_reducible rfl
        try simp only [Act.put, List.setIfInBounds_toArray, List.set_cons_zero, List.set_cons_succ]
        refine org_pure (v := ?_) (by kernel_rfl) ?_ ?_
        rotate_left
        · intro w' hv; clear hv; go_simp; try with_reducible rfl
        try simp only [Act.put, List.setIfInBounds_toArray, List.set_cons_zero, List.set_cons_succ]
        refine org_pure (v := ?_) (by kernel_rfl) ?_ ?_
        rotate_left
        · intro w' hv; have cp := HCX.out w' (HB.out.trans (Below.mono hv HB.out.size)); clear hv; go_simp; try with_reducible rfl
        try simp only [Act.put, List.setIfInBounds_toArray, List.set_cons_zero, List.set_cons_succ]
        refine org_pure (v := ?_) (by kernel_rfl) ?_ ?_
        rotate_left
        · intro w' hv; clear hv; go_simp; try with_reducible rfl
        try simp only [Act.put, List.setIfInBounds_toArray, List.set_cons_zero, List.set_cons_succ]
        refine org_pure (v := ?_) (by kernel_rfl) ?_ ?_
        rotate_left
        · intro w' hv; clear hv; go_simp; try with_reducible rfl
        try simp only [Act.put, List.setIfInBounds_toArray, List.set_cons_zero, List.set_cons_succ]
        refine org_pure (v := ?_) (by kernel_rfl) ?_ ?_
        rotate_left
        · intro w' hv; clear hv; go_simp; try with_reducible rfl
        try simp only [Act.put, List.setIfInBounds_toArray, List.set_cons_zero, List.set_cons_succ]
        refine org_pure (v := ?_) (by kernel_rfl) ?_ ?_
        rotate_left
        · intro w' hv; have cq := HCY.out w' (HB.out.trans (Below.mono hv HB.out.size)); clear hv; go_simp; try with_reducible rfl
        try simp only [Act.put, List.setIfInBounds_toArray, List.set_cons_zero, List.set_cons_succ]
        refine org_pure (v := ?_) (by kernel_rfl) ?_ ?_
        rotate_left
        · intro w' hv; clear hv; go_simp; try with_reducible rfl
        try simp only [Act.put, List.setIfInBounds_toArray, List.set_cons_zero, List.set_cons_succ]
        refine org_nil ?_
        cases hl : Op.bytesLess x.data.toList y.data.toList with
        | true =>
          have hvv := HVV.out
          rw [hl, if_pos rfl] at hvv
          subst hvv
          clear hl
          go_wp2_with fail
          go_ret
          exact ⟨rfl, HB2.out.trans (HB.out.mono HB2.out.size)⟩
        | false =>
          have hvv := HVV.out
          rw [hl, if_neg Bool.false_ne_true, Bool.false_or] at hvv
          have hgt := gtr_text 9 x y
          rw [hlx, hly, hl, Bool.false_or] at hgt
          cases he : (x.data.toList == y.data.toList) with
          | true =>
            rw [he, if_neg (by simp)] at hvv
            rw [he, Bool.not_true] at hgt
            have HV2 := Lib.hid hvv
            clear hvv
            go_wp2_with fail
            refine wp_region_org ((List.range 9).map (·, true)) (by kernel_rfl) (by kernel_rfl) (by kernel_rfl) ?_
            replace HB := Lib.hid HB.out.drew
            generalize wrd.drew = wre at *
            simp only [List.range_succ, List.range_zero, List.nil_append, List.cons_append, List.map_cons, List.map_nil, pickOrs, List.getElem?_cons_zero, List.getElem?_cons_succ]
            refine org_pure (v := ?_) (by kernel_rfl) ?_ ?_
            rotate_left
            · intro w' hv; clear hv; go_simp; try with_reducible rfl
            try simp only [Act.put, List.setIfInBounds_toArray, List.set_cons_zero, List.set_cons_succ]
            refine org_pure (v := ?_) (by kernel_rfl) ?_ ?_
            rotate_left
            · intro w' hv; clear hv; go_simp; try with_reducible rfl
            try simp only [Act.put, List.setIfInBounds_toArray, List.set_cons_zero, List.set_cons_succ]
            refine org_pure (v := ?_) (by kernel_rfl) ?_ ?_
            rotate_left
            · intro w' hv; clear hv; go_simp; try with_reducible rfl
            try simp only [Act.put, List.setIfInBounds_toArray, List.set_cons_zero, List.set_cons_succ]
            refine org_pure (v := ?_) (by kernel_rfl) ?_ ?_
            rotate_left
            · intro w' hv; have cp := HCX.out w' (HB.out.trans (Below.mono hv HB.out.size)); clear hv; go_simp; try with_reducible rfl
            try simp only [Act.put, List.setIfInBounds_toArray, List.set_cons_zero, List.set_cons_succ]
            refine org_pure (v := ?_) (by kernel_rfl) ?_ ?_
            rotate_left
            · intro w' hv; clear hv; go_simp; try with_reducible rfl
            try simp only [Act.put, List.setIfInBounds_toArray, List.set_cons_zero, List.set_cons_succ]
            refine org_pure (v := ?_) (by kernel_rfl) ?_ ?_
            rotate_left
            · intro w' hv; clear hv; go_simp; try with_reducible rfl
            try simp only [Act.put, List.setIfInBounds_toArray, List.set_cons_zero, List.set_cons_succ]
            refine org_pure (v := ?_) (by kernel_rfl) ?_ ?_
            rotate_left
            · intro w' hv; clear hv; go_simp; try with_reducible rfl
            try simp only [Act.put, List.setIfInBounds_toArray, List.set_cons_zero, List.set_cons_succ]
            refine org_pure (v := ?_) (by kernel_rfl) ?_ ?_
            rotate_left
            · intro w' hv; have cq := HCY.out w' (HB.out.trans (Below.mono hv HB.out.size)); clear hv; go_simp; try with_reducible rfl
            try simp only [Act.put, List.setIfInBounds_toArray, List.set_cons_zero, List.set_cons_succ]
            refine org_pure (v := ?_) (by kernel_rfl) ?_ ?_
            rotate_left
            · intro w' hv; clear hv; go_simp; try with_reducible rfl
            try simp only [Act.put, List.setIfInBounds_toArray, List.set_cons_zero, List.set_cons_succ]
            refine org_nil ?_
            go_wp2_with fail
            go_roundw
            case rel => exact ⟨i + 1, by omega, by omega, by go_num, HV2.out, HB.out⟩
            case measure => simp [intOf]; omega
          | false =>
            rw [he, if_pos rfl] at hvv
            rw [he, Bool.not_false] at hgt
            subst hvv
            go_wp2_with fail
            refine wp_region_org ((List.range 9).map (·, true)) (by kernel_rfl) (by kernel_rfl) (by kernel_rfl) ?_
            replace HB := Lib.hid HB.out.drew
            generalize wrd.drew = wre at *
            simp only [List.range_succ, List.range_zero, List.nil_append, List.cons_append, List.map_cons, List.map_nil, pickOrs, List.getElem?_cons_zero, List.getElem?_cons_succ]
            refine org_pure (v := ?_) (by kernel_rfl) ?_ ?_
            rotate_left
            · intro w' hv; clear hv; go_simp; try with_reducible rfl
            try simp only [Act.put, List.setIfInBounds_toArray, List.set_cons_zero, List.set_cons_succ]
            refine org_pure (v := ?_) (by kernel_rfl) ?_ ?_
            rotate_left
            · intro w' hv; clear hv; go_simp; try with_reducible rfl
            try simp only [Act.put, List.setIfInBounds_toArray, List.set_cons_zero, List.set_cons_succ]
            refine org_pure (v := ?_) (by kernel_rfl) ?_ ?_
            rotate_left
            · intro w' hv; clear hv; go_simp; try with_reducible rfl
            try simp only [Act.put, List.setIfInBounds_toArray, List.set_cons_zero, List.set_cons_succ]
            refine org_pure (v := ?_) (by kernel_rfl) ?_ ?_
            rotate_left
            · intro w' hv; have cp := HCX.out w' (HB.out.trans (Below.mono hv HB.out.size)); clear hv; go_simp; try with_reducible rfl
            try simp only [Act.put, List.setIfInBounds_toArray, List.set_cons_zero, List.set_cons_succ]
            refine org_pure (v := ?_) (by kernel_rfl) ?_ ?_
            rotate_left
            · intro w' hv; clear hv; go_simp; try with_reducible rfl
            try simp only [Act.put, List.setIfInBounds_toArray, List.set_cons_zero, List.set_cons_succ]
            refine org_pure (v := ?_) (by kernel_rfl) ?_ ?_
            rotate_left
            · intro w' hv; clear hv; go_simp; try with_reducible rfl
            try simp only [Act.put, List.setIfInBounds_toArray, List.set_cons_zero, List.set_cons_succ]
            refine org_pure (v := ?_) (by kernel_rfl) ?_ ?_
            rotate_left
            · intro w' hv; clear hv; go_simp; try with_reducible rfl
            try simp only [Act.put, List.setIfInBounds_toArray, List.set_cons_zero, List.set_cons_succ]
            refine org_pure (v := ?_) (by kernel_rfl) ?_ ?_
            rotate_left
            · intro w' hv; have cq := HCY.out w' (HB.out.trans (Below.mono hv HB.out.size)); clear hv; go_simp; try with_reducible rfl
            try simp only [Act.put, List.setIfInBounds_toArray, List.set_cons_zero, List.set_cons_succ]
            refine org_pure (v := ?_) (by kernel_rfl) ?_ ?_
            rotate_left
            · intro w' hv; clear hv; go_simp; try with_reducible rfl
            try simp only [Act.put, List.setIfInBounds_toArray, List.set_cons_zero, List.set_cons_succ]
            refine org_nil ?_
            go_wp2_with fail
            go_ret
            exact ⟨rfl, HB2.out.trans (HB.out.mono HB2.out.size)⟩
      · have hie : i = Y.length := by omega
        subst hie
        rw [ncmp_end _ _ (.inr (List.drop_of_length_le (Nat.le_refl _))), List.length_drop, List.length_drop] at hv
        have hv1 : V = 1 := by rw [← hv]; exact cmpI_gt (by omega)
        subst hv1
        have kx : (Y.length : Int) < (X.length : Int) := by omega
        have ky : ¬ (Y.length : Int) < (Y.length : Int) := by omega
        have kz : ¬ (X.length : Int) = (Y.length : Int) := by omega
        have kz2 : ((X.length : Int) != (Y.length : Int)) = true := by simp; omega
        have kt : ¬ (X.length : Int) < (Y.length : Int) := by omega
        clear hv h2
        go_wp2_with fail
        go_ret
        exact ⟨rfl, HB2.out.trans (HB.out.mono HB2.out.size)⟩
    · have hie : i = X.length := by omega
      subst hie
      rw [ncmp_end _ _ (.inl (List.drop_of_length_le (Nat.le_refl _))), List.length_drop, List.length_drop] at hv
      have kx : ¬ (X.length : Int) < (X.length : Int) := by omega
      by_cases hxy : X.length < Y.length
      · have hv1 : V = -1 := by rw [← hv]; exact cmpI_lt (by omega)
        subst hv1
        have kz2 : ((X.length : Int) != (Y.length : Int)) = true := by simp; omega
        have kz : ¬ (X.length : Int) = (Y.length : Int) := by omega
        have kt : (X.length : Int) < (Y.length : Int) := by omega
        clear hv hxy
        go_wp2_with fail
        go_ret
        exact ⟨rfl, HB2.out.trans (HB.out.mono HB2.out.size)⟩
      · have hle : X.length = Y.length := by omega
        have hv1 : V = 0 := by rw [← hv, hle]; exact cmpI_eq _
        subst hv1
        have kz2 : ((X.length : Int) != (Y.length : Int)) = false := by simp; omega
        have kz : (X.length : Int) = (Y.length : Int) := by omega
        clear hv hxy hle
        go_wp2_with fail
        go_ret
        exact ⟨rfl, HB2.out.trans (HB.out.mono HB2.out.size)⟩
end Go.Proofs.YtflgncagoiigfaaDoor
