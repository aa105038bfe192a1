/- The law PathParts, walked: what a path is in, and its last name, make it again; it is under what it is in; the order. Condition: texts shorter than 2^60 bytes. -/
import Derived.Test.YtflgncagoiigfaaDoorAwake7
namespace Go.Proofs.YtflgncagoiigfaaDoor
open Go.RowKit
theorem base_no (p : Tx) : 47 ∉ baseL p := by
  unfold baseL
  have h := nms_no p
  rw [List.getLastD_eq_getLast?]
  cases hl : (nms p).getLast? with
  | none => simp
  | some b => exact h b (List.mem_of_getLast? hl)
theorem last_parts (p : Tx) : (47 ∉ p ∧ upL p = [] ∧ baseL p = p) ∨ ∃ u b, p = u ++ 47 :: b ∧ 47 ∉ b ∧ upL p = u ∧ baseL p = b := by
  rcases last_cases ⟨p.toArray⟩ with ⟨_, h⟩ | ⟨i, _, _, h, h2⟩
  · exact .inl ⟨h, up_plain h⟩
  · refine .inr ⟨p.take i, p.drop (i + 1), h, h2, ?_⟩
    have h4 := up_sep (p.take i) (p.drop (i + 1)) h2
    have h' : p = p.take i ++ 47 :: p.drop (i + 1) := h
    rwa [← h'] at h4
theorem up_nil {u b : Tx} (h : okPath (u ++ 47 :: b) = true) : u ≠ [] := by
  rintro rfl
  have := ok_sep [] b h
  rw [ok_nil] at this
  cases this
theorem join_back {p : Tx} (h : okPath p = true) : joinOk (upL p) (baseL p) = true ∧ joinL (upL p) (baseL p) = p := by
  have hj : joinL (upL p) (baseL p) = p := by
    rcases last_parts p with ⟨_, h1, h2⟩ | ⟨u, b, he, _, h1, h2⟩
    · rw [h1, h2]; rfl
    · rw [h1, h2, he]
      exact if_neg (up_nil (he ▸ h))
  refine ⟨?_, hj⟩
  unfold joinOk
  rw [hj, h]
  have : (baseL p).contains 47 = false := by simpa using base_no p
  rw [this]; rfl
theorem up_less (p : Tx) : (upL p).length ≤ p.length ∧ (baseL p).length ≤ p.length := by
  rcases last_parts p with ⟨_, h1, h2⟩ | ⟨u, b, he, _, h1, h2⟩
  · rw [h1, h2]; simp
  · rw [h1, h2, he]; simp; omega
theorem up_within {p : Tx} (h : okPath p = true) (hu : upL p ≠ []) : underL p (upL p) = true ∧ cmpL (upL p) p = -1 ∧ depthV p = depthV (upL p) + 1 := by
  rcases last_parts p with ⟨_, h1, h2⟩ | ⟨u, b, he, hb, h1, h2⟩
  · exact absurd h1 hu
  · rw [h1]
    refine ⟨(under_iff _ _).2 ⟨h, b, he⟩, by rw [he]; exact cmpL_up u b, ?_⟩
    unfold depthV
    rw [h, he, ok_sep u b (he ▸ h), if_pos rfl, if_pos rfl, nms_sep, nms_plain hb]
    simp
theorem under_trans {p q r : Tx} (h1 : underL q p = true) (h2 : underL r q = true) : underL r p = true := by
  obtain ⟨_, s, rfl⟩ := (under_iff _ _).1 h1
  obtain ⟨h3, t, rfl⟩ := (under_iff _ _).1 h2
  exact (under_iff _ _).2 ⟨h3, s ++ 47 :: t, by simp⟩
theorem text_eq (p q : ByteArray) : (p.toList = q.toList) ↔ p = q := by
  rw [Lib.toList_data, Lib.toList_data]
  constructor
  · intro h; rw [← Lib.mk_data p, ← Lib.mk_data q, h]
  · rintro rfl; rfl
set_option maxHeartbeats 1000000 in
theorem parts_no (p q r : ByteArray) (hp : p.size < 1152921504606846976) (h : okPath p.data.toList = false ∨ 200 < q.size ∨ 200 < r.size) (w : World) :
    Calls Tryd.prog 5 #[.string p, .string q, .string r] w fun e w' => e = .returned (.bool true) ∧ Below w.heap.size w w' := by
  have HA := Lib.hid (fun w1 => awake_any w1)
  have HG := Lib.hid (fun w1 => good_any p (by omega) w1)
  cases hg : okPath p.data.toList with
  | false =>
    rw [hg] at HG
    clear h hg
    go_enter Tryd.func5, Tryd.ntmps5
    go_wp2_with fail
    refine (HA.out _).mono ?_
    rintro e w1 ⟨rfl, hb⟩
    have HB := Lib.hid hb
    clear hb
    go_wp2_with fail
    refine (HG.out _).mono ?_
    rintro e w2 ⟨rfl, hb⟩
    replace HB := Lib.hid (HB.out.trans (hb.mono HB.out.size))
    clear hb
    go_wp2_with fail
    go_ret
    exact ⟨rfl, HB.out⟩
  | true =>
    rw [hg] at HG
    rw [hg] at h
    by_cases hq : 200 < (q.size : Int)
    · clear h hg
      go_enter Tryd.func5, Tryd.ntmps5
      go_wp2_with fail
      refine (HA.out _).mono ?_
      rintro e w1 ⟨rfl, hb⟩
      have HB := Lib.hid hb
      clear hb
      go_wp2_with fail
      refine (HG.out _).mono ?_
      rintro e w2 ⟨rfl, hb⟩
      replace HB := Lib.hid (HB.out.trans (hb.mono HB.out.size))
      clear hb
      go_wp2_with fail
      go_ret
      exact ⟨rfl, HB.out⟩
    · have hr : 200 < (r.size : Int) := by
        rcases h with h | h | h
        · cases h
        · omega
        · omega
      clear h hg
      go_enter Tryd.func5, Tryd.ntmps5
      go_wp2_with fail
      refine (HA.out _).mono ?_
      rintro e w1 ⟨rfl, hb⟩
      have HB := Lib.hid hb
      clear hb
      go_wp2_with fail
      refine (HG.out _).mono ?_
      rintro e w2 ⟨rfl, hb⟩
      replace HB := Lib.hid (HB.out.trans (hb.mono HB.out.size))
      clear hb
      go_wp2_with fail
      go_ret
      exact ⟨rfl, HB.out⟩
set_option maxHeartbeats 4000000 in
set_option maxRecDepth 100000 in
theorem parts_yes (p q r u b : ByteArray) (hp : p.size < 1152921504606846976) (hg : okPath p.data.toList = true) (hq : q.size ≤ 200) (hr : r.size ≤ 200)
    (hu : u.data.toList = upL p.data.toList) (hb : b.data.toList = baseL p.data.toList) (w : World) :
    Calls Tryd.prog 5 #[.string p, .string q, .string r] w fun e w' => e = .returned (.bool true) ∧ Below w.heap.size w w' := by
  have hus : u.size ≤ p.size := by have := (up_less p.data.toList).1; rw [← hu] at this; exact this
  have hbs : b.size ≤ p.size := by have := (up_less p.data.toList).2; rw [← hb] at this; exact this
  have HA := Lib.hid (fun w1 => awake_any w1)
  have HG := Lib.hid (fun w1 => good_any p (by omega) w1)
  have HU := Lib.hid (fun w1 => up_any p (by omega) w1)
  have HBA := Lib.hid (fun w1 => base_any p (by omega) w1)
  have HJ := Lib.hid (fun w1 => join_any u b (by omega) (by omega) w1)
  have jb := join_back hg
  have hv1 : upV p.data.toList = upL p.data.toList := by unfold upV; rw [hg]; rfl
  have hv2 : baseV p.data.toList = baseL p.data.toList := by unfold baseV; rw [hg]; rfl
  have hv3 : joinV (upL p.data.toList) (baseL p.data.toList) = p.data.toList := by unfold joinV; rw [jb.1]; exact jb.2
  have hz1 : (⟨(upL p.data.toList).toArray⟩ : ByteArray) = u := by rw [← hu]
  have hz2 : (⟨(baseL p.data.toList).toArray⟩ : ByteArray) = b := by rw [← hb]
  rw [hg] at HG
  rw [hg, hv1, hz1] at HU
  rw [hv2, hz2] at HBA
  rw [hu, hb, hv3, jb.1, Lib.mk_data] at HJ
  have HX := Lib.hid (fun w1 => cmpB_any p q (by omega) (by omega) w1)
  have HY := Lib.hid (fun w1 => cmpB_any q r (by omega) (by omega) w1)
  have HZ := Lib.hid (fun w1 => cmpB_any p r (by omega) (by omega) w1)
  have HW := Lib.hid (fun w1 => cmpB_any q p (by omega) (by omega) w1)
  rw [cmpL_neg p.data.toList q.data.toList] at HW
  have HU1 := Lib.hid (fun w1 => under_any q p (by omega) w1)
  have HU2 := Lib.hid (fun w1 => under_any r q (by omega) w1)
  have HU3 := Lib.hid (fun w1 => under_any r p (by omega) w1)
  have HUP := Lib.hid (fun w1 => under_any p u (by omega) w1)
  have HCP := Lib.hid (fun w1 => cmpB_any u p (by omega) (by omega) w1)
  have HD1 := Lib.hid (fun w1 => depth_any u (by omega) w1)
  have HD2 := Lib.hid (fun w1 => depth_any p (by omega) w1)
  have hx0 : (cmpL p.data.toList q.data.toList = 0 ∧ p = q) ∨ (cmpL p.data.toList q.data.toList ≠ 0 ∧ ¬ p.data.toList = q.data.toList) := by
    by_cases h : p = q
    · exact .inl ⟨cmpL_zero.2 (by rw [h]), h⟩
    · exact .inr ⟨fun e => h (by rw [← Lib.mk_data p, ← Lib.mk_data q, cmpL_zero.1 e]), fun e => h (by rw [← Lib.mk_data p, ← Lib.mk_data q, e])⟩
  have hxb : cmpL p.data.toList q.data.toList = -1 ∨ cmpL p.data.toList q.data.toList = 0 ∨ cmpL p.data.toList q.data.toList = 1 := cmpL_vals _ _
  have htr : 0 < cmpL p.data.toList q.data.toList ∨ (cmpL p.data.toList q.data.toList ≤ 0 ∧ 0 < cmpL q.data.toList r.data.toList) ∨ (cmpL p.data.toList q.data.toList ≤ 0 ∧ cmpL q.data.toList r.data.toList ≤ 0 ∧ cmpL p.data.toList r.data.toList ≤ 0) := by
    by_cases h1 : 0 < cmpL p.data.toList q.data.toList
    · exact .inl h1
    · by_cases h2 : 0 < cmpL q.data.toList r.data.toList
      · exact .inr (.inl ⟨by omega, h2⟩)
      · exact .inr (.inr ⟨by omega, by omega, cmpL_trans (q := q.data.toList) (by omega) (by omega)⟩)
  have hun : underL q.data.toList p.data.toList = false ∨ (underL q.data.toList p.data.toList = true ∧ underL r.data.toList q.data.toList = false) ∨ (underL q.data.toList p.data.toList = true ∧ underL r.data.toList q.data.toList = true ∧ underL r.data.toList p.data.toList = true) := by
    cases h1 : underL q.data.toList p.data.toList with
    | false => exact .inl rfl
    | true => cases h2 : underL r.data.toList q.data.toList with
      | false => exact .inr (.inl ⟨rfl, rfl⟩)
      | true => exact .inr (.inr ⟨rfl, rfl, under_trans h1 h2⟩)
  have hpu : u.data = #[] ∨ (¬ u.data = #[] ∧ underL p.data.toList u.data.toList = true ∧ cmpL u.data.toList p.data.toList = -1 ∧ depthV p.data.toList = depthV u.data.toList + 1 ∧ depthV p.data.toList < 100) := by
    by_cases h : u.data = #[]
    · exact .inl h
    · have hne : upL p.data.toList ≠ [] := by rw [← hu]; exact fun e => h (Array.toList_eq_nil_iff.1 e)
      obtain ⟨h1, h2, h3⟩ := up_within hg hne
      rw [← hu] at h1 h2 h3
      refine .inr ⟨h, h1, h2, h3, ?_⟩
      unfold depthV; rw [hg, if_pos rfl]
      unfold okPath at hg
      simp only [Bool.and_eq_true, decide_eq_true_eq] at hg
      omega
  have HX0 := Lib.hid hx0
  have HXB := Lib.hid hxb
  have HTR := Lib.hid htr
  have HUN := Lib.hid hun
  have HPU := Lib.hid hpu
  have hlp : p.toList = p.data.toList := Lib.toList_data p
  have hlq : q.toList = q.data.toList := Lib.toList_data q
  have k1 : ¬ (200 : Int) < (q.size : Int) := by omega
  have k2 : ¬ (200 : Int) < (r.size : Int) := by omega
  clear hx0 hxb htr hun hpu hg jb hv1 hv2 hv3 hz1 hz2 hu hb hus hbs hq hr
  generalize cmpL p.data.toList q.data.toList = x at *
  generalize cmpL q.data.toList r.data.toList = y at *
  generalize cmpL p.data.toList r.data.toList = z at *
  go_enter Tryd.func5, Tryd.ntmps5
  go_wp2_with fail
  refine (HA.out _).mono ?_
  rintro e w1 ⟨rfl, hb⟩
  have HB := Lib.hid hb
  clear hb
  go_wp2_with fail
  refine (HG.out _).mono ?_
  rintro e w2 ⟨rfl, hb⟩
  replace HB := Lib.hid (HB.out.trans (hb.mono HB.out.size))
  clear hb
  go_wp2_with fail
  refine (HU.out _).mono ?_
  rintro e w3 ⟨rfl, hb⟩
  replace HB := Lib.hid (HB.out.trans (hb.mono HB.out.size))
  clear hb
  go_wp2_with fail
  refine (HBA.out _).mono ?_
  rintro e w4 ⟨rfl, hb⟩
  replace HB := Lib.hid (HB.out.trans (hb.mono HB.out.size))
  clear hb
  go_wp2_with fail
  refine (HJ.out _).mono ?_
  rintro e w5 ⟨rfl, hb⟩
  replace HB := Lib.hid (HB.out.trans (hb.mono HB.out.size))
  clear hb
  rcases HPU.out with h | ⟨h, h1, h2, h3, h4⟩
  · have hq := no_text h
    clear h
    have kw : IntKind.i64.wrap (-x) = -x := by rw [IntWalk.i64_in _ (by have := HXB.out; omega)]
    go_wp2_with fail
    refine (HX.out _).mono ?_
    rintro e w6 ⟨rfl, hb⟩
    replace HB := Lib.hid (HB.out.trans (hb.mono HB.out.size))
    clear hb
    go_wp2_with fail
    refine (HY.out _).mono ?_
    rintro e w7 ⟨rfl, hb⟩
    replace HB := Lib.hid (HB.out.trans (hb.mono HB.out.size))
    clear hb
    go_wp2_with fail
    refine (HZ.out _).mono ?_
    rintro e w8 ⟨rfl, hb⟩
    replace HB := Lib.hid (HB.out.trans (hb.mono HB.out.size))
    clear hb
    go_wp2_with fail
    refine (HW.out _).mono ?_
    rintro e w9 ⟨rfl, hb⟩
    replace HB := Lib.hid (HB.out.trans (hb.mono HB.out.size))
    clear hb
    rcases HX0.out with ⟨hx, hpq⟩ | ⟨hx, hpq⟩
    · subst hx
      subst hpq
      rcases HTR.out with t1 | ⟨t1, t2⟩ | ⟨t1, t2, t3⟩
      · rcases HUN.out with u1 | ⟨u1, u2⟩ | ⟨u1, u2, u3⟩
        · rw [u1] at HU1
          clear u1
          exact absurd t1 (by omega)
        · rw [u1] at HU1
          rw [u2] at HU2
          clear u1 u2
          exact absurd t1 (by omega)
        · rw [u1] at HU1
          rw [u2] at HU2
          rw [u3] at HU3
          clear u1 u2 u3
          exact absurd t1 (by omega)
      · rcases HUN.out with u1 | ⟨u1, u2⟩ | ⟨u1, u2, u3⟩
        · rw [u1] at HU1
          clear u1
          go_wp2_with (first | ((with_reducible refine (HU1.out _).mono ?_); rintro e w12 ⟨rfl, hb⟩; replace HB := Lib.hid (HB.out.trans (hb.mono HB.out.size)); clear hb))
          all_goals go_ret
          all_goals first | exact ⟨rfl, HB.out⟩ | (refine ⟨congrArg (fun b => Ending.returned (.bool b)) ?_, HB.out⟩; simp [hx1, hpq, hlq])
        · rw [u1] at HU1
          rw [u2] at HU2
          clear u1 u2
          go_wp2_with (first | ((with_reducible refine (HU1.out _).mono ?_); rintro e w12 ⟨rfl, hb⟩; replace HB := Lib.hid (HB.out.trans (hb.mono HB.out.size)); clear hb) | ((with_reducible refine (HU2.out _).mono ?_); rintro e w12 ⟨rfl, hb⟩; replace HB := Lib.hid (HB.out.trans (hb.mono HB.out.size)); clear hb))
          all_goals go_ret
          all_goals first | exact ⟨rfl, HB.out⟩ | (refine ⟨congrArg (fun b => Ending.returned (.bool b)) ?_, HB.out⟩; simp [hx1, hpq, hlq])
        · rw [u1] at HU1
          rw [u2] at HU2
          rw [u3] at HU3
          clear u1 u2 u3
          go_wp2_with (first | ((with_reducible refine (HU1.out _).mono ?_); rintro e w12 ⟨rfl, hb⟩; replace HB := Lib.hid (HB.out.trans (hb.mono HB.out.size)); clear hb) | ((with_reducible refine (HU2.out _).mono ?_); rintro e w12 ⟨rfl, hb⟩; replace HB := Lib.hid (HB.out.trans (hb.mono HB.out.size)); clear hb) | ((with_reducible refine (HU3.out _).mono ?_); rintro e w12 ⟨rfl, hb⟩; replace HB := Lib.hid (HB.out.trans (hb.mono HB.out.size)); clear hb))
          all_goals go_ret
          all_goals first | exact ⟨rfl, HB.out⟩ | (refine ⟨congrArg (fun b => Ending.returned (.bool b)) ?_, HB.out⟩; simp [hx1, hpq, hlq])
      · rcases HUN.out with u1 | ⟨u1, u2⟩ | ⟨u1, u2, u3⟩
        · rw [u1] at HU1
          clear u1
          go_wp2_with (first | ((with_reducible refine (HU1.out _).mono ?_); rintro e w12 ⟨rfl, hb⟩; replace HB := Lib.hid (HB.out.trans (hb.mono HB.out.size)); clear hb))
          all_goals go_ret
          all_goals first | exact ⟨rfl, HB.out⟩ | (refine ⟨congrArg (fun b => Ending.returned (.bool b)) ?_, HB.out⟩; simp [hx1, hpq, hlq])
        · rw [u1] at HU1
          rw [u2] at HU2
          clear u1 u2
          go_wp2_with (first | ((with_reducible refine (HU1.out _).mono ?_); rintro e w12 ⟨rfl, hb⟩; replace HB := Lib.hid (HB.out.trans (hb.mono HB.out.size)); clear hb) | ((with_reducible refine (HU2.out _).mono ?_); rintro e w12 ⟨rfl, hb⟩; replace HB := Lib.hid (HB.out.trans (hb.mono HB.out.size)); clear hb))
          all_goals go_ret
          all_goals first | exact ⟨rfl, HB.out⟩ | (refine ⟨congrArg (fun b => Ending.returned (.bool b)) ?_, HB.out⟩; simp [hx1, hpq, hlq])
        · rw [u1] at HU1
          rw [u2] at HU2
          rw [u3] at HU3
          clear u1 u2 u3
          go_wp2_with (first | ((with_reducible refine (HU1.out _).mono ?_); rintro e w12 ⟨rfl, hb⟩; replace HB := Lib.hid (HB.out.trans (hb.mono HB.out.size)); clear hb) | ((with_reducible refine (HU2.out _).mono ?_); rintro e w12 ⟨rfl, hb⟩; replace HB := Lib.hid (HB.out.trans (hb.mono HB.out.size)); clear hb) | ((with_reducible refine (HU3.out _).mono ?_); rintro e w12 ⟨rfl, hb⟩; replace HB := Lib.hid (HB.out.trans (hb.mono HB.out.size)); clear hb))
          all_goals go_ret
          all_goals first | exact ⟨rfl, HB.out⟩ | (refine ⟨congrArg (fun b => Ending.returned (.bool b)) ?_, HB.out⟩; simp [hx1, hpq, hlq])
    · have hx1 : (x == 0) = false := by rw [beq_eq_false_iff_ne]; exact hx
      have hx2 : (p.data.toList == q.data.toList) = false := by rw [beq_eq_false_iff_ne]; exact hpq
      rcases HTR.out with t1 | ⟨t1, t2⟩ | ⟨t1, t2, t3⟩
      · rcases HUN.out with u1 | ⟨u1, u2⟩ | ⟨u1, u2, u3⟩
        · rw [u1] at HU1
          clear u1
          go_wp2_with (first | ((with_reducible refine (HU1.out _).mono ?_); rintro e w12 ⟨rfl, hb⟩; replace HB := Lib.hid (HB.out.trans (hb.mono HB.out.size)); clear hb))
          all_goals go_ret
          all_goals first | exact ⟨rfl, HB.out⟩ | (refine ⟨congrArg (fun b => Ending.returned (.bool b)) ?_, HB.out⟩; simp [hx1, hpq, hlq])
        · rw [u1] at HU1
          rw [u2] at HU2
          clear u1 u2
          go_wp2_with (first | ((with_reducible refine (HU1.out _).mono ?_); rintro e w12 ⟨rfl, hb⟩; replace HB := Lib.hid (HB.out.trans (hb.mono HB.out.size)); clear hb) | ((with_reducible refine (HU2.out _).mono ?_); rintro e w12 ⟨rfl, hb⟩; replace HB := Lib.hid (HB.out.trans (hb.mono HB.out.size)); clear hb))
          all_goals go_ret
          all_goals first | exact ⟨rfl, HB.out⟩ | (refine ⟨congrArg (fun b => Ending.returned (.bool b)) ?_, HB.out⟩; simp [hx1, hpq, hlq])
        · rw [u1] at HU1
          rw [u2] at HU2
          rw [u3] at HU3
          clear u1 u2 u3
          go_wp2_with (first | ((with_reducible refine (HU1.out _).mono ?_); rintro e w12 ⟨rfl, hb⟩; replace HB := Lib.hid (HB.out.trans (hb.mono HB.out.size)); clear hb) | ((with_reducible refine (HU2.out _).mono ?_); rintro e w12 ⟨rfl, hb⟩; replace HB := Lib.hid (HB.out.trans (hb.mono HB.out.size)); clear hb) | ((with_reducible refine (HU3.out _).mono ?_); rintro e w12 ⟨rfl, hb⟩; replace HB := Lib.hid (HB.out.trans (hb.mono HB.out.size)); clear hb))
          all_goals go_ret
          all_goals first | exact ⟨rfl, HB.out⟩ | (refine ⟨congrArg (fun b => Ending.returned (.bool b)) ?_, HB.out⟩; simp [hx1, hpq, hlq])
      · rcases HUN.out with u1 | ⟨u1, u2⟩ | ⟨u1, u2, u3⟩
        · rw [u1] at HU1
          clear u1
          go_wp2_with (first | ((with_reducible refine (HU1.out _).mono ?_); rintro e w12 ⟨rfl, hb⟩; replace HB := Lib.hid (HB.out.trans (hb.mono HB.out.size)); clear hb))
          all_goals go_ret
          all_goals first | exact ⟨rfl, HB.out⟩ | (refine ⟨congrArg (fun b => Ending.returned (.bool b)) ?_, HB.out⟩; simp [hx1, hpq, hlq])
        · rw [u1] at HU1
          rw [u2] at HU2
          clear u1 u2
          go_wp2_with (first | ((with_reducible refine (HU1.out _).mono ?_); rintro e w12 ⟨rfl, hb⟩; replace HB := Lib.hid (HB.out.trans (hb.mono HB.out.size)); clear hb) | ((with_reducible refine (HU2.out _).mono ?_); rintro e w12 ⟨rfl, hb⟩; replace HB := Lib.hid (HB.out.trans (hb.mono HB.out.size)); clear hb))
          all_goals go_ret
          all_goals first | exact ⟨rfl, HB.out⟩ | (refine ⟨congrArg (fun b => Ending.returned (.bool b)) ?_, HB.out⟩; simp [hx1, hpq, hlq])
        · rw [u1] at HU1
          rw [u2] at HU2
          rw [u3] at HU3
          clear u1 u2 u3
          go_wp2_with (first | ((with_reducible refine (HU1.out _).mono ?_); rintro e w12 ⟨rfl, hb⟩; replace HB := Lib.hid (HB.out.trans (hb.mono HB.out.size)); clear hb) | ((with_reducible refine (HU2.out _).mono ?_); rintro e w12 ⟨rfl, hb⟩; replace HB := Lib.hid (HB.out.trans (hb.mono HB.out.size)); clear hb) | ((with_reducible refine (HU3.out _).mono ?_); rintro e w12 ⟨rfl, hb⟩; replace HB := Lib.hid (HB.out.trans (hb.mono HB.out.size)); clear hb))
          all_goals go_ret
          all_goals first | exact ⟨rfl, HB.out⟩ | (refine ⟨congrArg (fun b => Ending.returned (.bool b)) ?_, HB.out⟩; simp [hx1, hpq, hlq])
      · rcases HUN.out with u1 | ⟨u1, u2⟩ | ⟨u1, u2, u3⟩
        · rw [u1] at HU1
          clear u1
          go_wp2_with (first | ((with_reducible refine (HU1.out _).mono ?_); rintro e w12 ⟨rfl, hb⟩; replace HB := Lib.hid (HB.out.trans (hb.mono HB.out.size)); clear hb))
          all_goals go_ret
          all_goals first | exact ⟨rfl, HB.out⟩ | (refine ⟨congrArg (fun b => Ending.returned (.bool b)) ?_, HB.out⟩; simp [hx1, hpq, hlq])
        · rw [u1] at HU1
          rw [u2] at HU2
          clear u1 u2
          go_wp2_with (first | ((with_reducible refine (HU1.out _).mono ?_); rintro e w12 ⟨rfl, hb⟩; replace HB := Lib.hid (HB.out.trans (hb.mono HB.out.size)); clear hb) | ((with_reducible refine (HU2.out _).mono ?_); rintro e w12 ⟨rfl, hb⟩; replace HB := Lib.hid (HB.out.trans (hb.mono HB.out.size)); clear hb))
          all_goals go_ret
          all_goals first | exact ⟨rfl, HB.out⟩ | (refine ⟨congrArg (fun b => Ending.returned (.bool b)) ?_, HB.out⟩; simp [hx1, hpq, hlq])
        · rw [u1] at HU1
          rw [u2] at HU2
          rw [u3] at HU3
          clear u1 u2 u3
          go_wp2_with (first | ((with_reducible refine (HU1.out _).mono ?_); rintro e w12 ⟨rfl, hb⟩; replace HB := Lib.hid (HB.out.trans (hb.mono HB.out.size)); clear hb) | ((with_reducible refine (HU2.out _).mono ?_); rintro e w12 ⟨rfl, hb⟩; replace HB := Lib.hid (HB.out.trans (hb.mono HB.out.size)); clear hb) | ((with_reducible refine (HU3.out _).mono ?_); rintro e w12 ⟨rfl, hb⟩; replace HB := Lib.hid (HB.out.trans (hb.mono HB.out.size)); clear hb))
          all_goals go_ret
          all_goals first | exact ⟨rfl, HB.out⟩ | (refine ⟨congrArg (fun b => Ending.returned (.bool b)) ?_, HB.out⟩; simp [hx1, hpq, hlq])
  · have hq := some_text h
    rw [h1] at HUP
    rw [h2] at HCP
    rw [h3] at HD2 h4
    have kd : IntKind.i64.wrap (((depthV u.data.toList + 1 : Nat) : Int) - 1) = (depthV u.data.toList : Int) := by rw [IntWalk.i64_in _ (by omega)]; omega
    generalize depthV u.data.toList = dd at *
    clear h h1 h2 h3
    go_wp2_with fail
    refine (HUP.out _).mono ?_
    rintro e wa ⟨rfl, hb⟩
    replace HB := Lib.hid (HB.out.trans (hb.mono HB.out.size))
    clear hb
    go_wp2_with fail
    refine (HCP.out _).mono ?_
    rintro e wb ⟨rfl, hb⟩
    replace HB := Lib.hid (HB.out.trans (hb.mono HB.out.size))
    clear hb
    go_wp2_with fail
    refine (HD1.out _).mono ?_
    rintro e wc ⟨rfl, hb⟩
    replace HB := Lib.hid (HB.out.trans (hb.mono HB.out.size))
    clear hb
    go_wp2_with fail
    refine (HD2.out _).mono ?_
    rintro e wd ⟨rfl, hb⟩
    replace HB := Lib.hid (HB.out.trans (hb.mono HB.out.size))
    clear hb
    have kw : IntKind.i64.wrap (-x) = -x := by rw [IntWalk.i64_in _ (by have := HXB.out; omega)]
    go_wp2_with fail
    refine (HX.out _).mono ?_
    rintro e w6 ⟨rfl, hb⟩
    replace HB := Lib.hid (HB.out.trans (hb.mono HB.out.size))
    clear hb
    go_wp2_with fail
    refine (HY.out _).mono ?_
    rintro e w7 ⟨rfl, hb⟩
    replace HB := Lib.hid (HB.out.trans (hb.mono HB.out.size))
    clear hb
    go_wp2_with fail
    refine (HZ.out _).mono ?_
    rintro e w8 ⟨rfl, hb⟩
    replace HB := Lib.hid (HB.out.trans (hb.mono HB.out.size))
    clear hb
    go_wp2_with fail
    refine (HW.out _).mono ?_
    rintro e w9 ⟨rfl, hb⟩
    replace HB := Lib.hid (HB.out.trans (hb.mono HB.out.size))
    clear hb
    rcases HX0.out with ⟨hx, hpq⟩ | ⟨hx, hpq⟩
    · subst hx
      subst hpq
      rcases HTR.out with t1 | ⟨t1, t2⟩ | ⟨t1, t2, t3⟩
      · rcases HUN.out with u1 | ⟨u1, u2⟩ | ⟨u1, u2, u3⟩
        · rw [u1] at HU1
          clear u1
          exact absurd t1 (by omega)
        · rw [u1] at HU1
          rw [u2] at HU2
          clear u1 u2
          exact absurd t1 (by omega)
        · rw [u1] at HU1
          rw [u2] at HU2
          rw [u3] at HU3
          clear u1 u2 u3
          exact absurd t1 (by omega)
      · rcases HUN.out with u1 | ⟨u1, u2⟩ | ⟨u1, u2, u3⟩
        · rw [u1] at HU1
          clear u1
          go_wp2_with (first | ((with_reducible refine (HU1.out _).mono ?_); rintro e w12 ⟨rfl, hb⟩; replace HB := Lib.hid (HB.out.trans (hb.mono HB.out.size)); clear hb))
          all_goals go_ret
          all_goals first | exact ⟨rfl, HB.out⟩ | (refine ⟨congrArg (fun b => Ending.returned (.bool b)) ?_, HB.out⟩; simp [hx1, hpq, hlq])
        · rw [u1] at HU1
          rw [u2] at HU2
          clear u1 u2
          go_wp2_with (first | ((with_reducible refine (HU1.out _).mono ?_); rintro e w12 ⟨rfl, hb⟩; replace HB := Lib.hid (HB.out.trans (hb.mono HB.out.size)); clear hb) | ((with_reducible refine (HU2.out _).mono ?_); rintro e w12 ⟨rfl, hb⟩; replace HB := Lib.hid (HB.out.trans (hb.mono HB.out.size)); clear hb))
          all_goals go_ret
          all_goals first | exact ⟨rfl, HB.out⟩ | (refine ⟨congrArg (fun b => Ending.returned (.bool b)) ?_, HB.out⟩; simp [hx1, hpq, hlq])
        · rw [u1] at HU1
          rw [u2] at HU2
          rw [u3] at HU3
          clear u1 u2 u3
          go_wp2_with (first | ((with_reducible refine (HU1.out _).mono ?_); rintro e w12 ⟨rfl, hb⟩; replace HB := Lib.hid (HB.out.trans (hb.mono HB.out.size)); clear hb) | ((with_reducible refine (HU2.out _).mono ?_); rintro e w12 ⟨rfl, hb⟩; replace HB := Lib.hid (HB.out.trans (hb.mono HB.out.size)); clear hb) | ((with_reducible refine (HU3.out _).mono ?_); rintro e w12 ⟨rfl, hb⟩; replace HB := Lib.hid (HB.out.trans (hb.mono HB.out.size)); clear hb))
          all_goals go_ret
          all_goals first | exact ⟨rfl, HB.out⟩ | (refine ⟨congrArg (fun b => Ending.returned (.bool b)) ?_, HB.out⟩; simp [hx1, hpq, hlq])
      · rcases HUN.out with u1 | ⟨u1, u2⟩ | ⟨u1, u2, u3⟩
        · rw [u1] at HU1
          clear u1
          go_wp2_with (first | ((with_reducible refine (HU1.out _).mono ?_); rintro e w12 ⟨rfl, hb⟩; replace HB := Lib.hid (HB.out.trans (hb.mono HB.out.size)); clear hb))
          all_goals go_ret
          all_goals first | exact ⟨rfl, HB.out⟩ | (refine ⟨congrArg (fun b => Ending.returned (.bool b)) ?_, HB.out⟩; simp [hx1, hpq, hlq])
        · rw [u1] at HU1
          rw [u2] at HU2
          clear u1 u2
          go_wp2_with (first | ((with_reducible refine (HU1.out _).mono ?_); rintro e w12 ⟨rfl, hb⟩; replace HB := Lib.hid (HB.out.trans (hb.mono HB.out.size)); clear hb) | ((with_reducible refine (HU2.out _).mono ?_); rintro e w12 ⟨rfl, hb⟩; replace HB := Lib.hid (HB.out.trans (hb.mono HB.out.size)); clear hb))
          all_goals go_ret
          all_goals first | exact ⟨rfl, HB.out⟩ | (refine ⟨congrArg (fun b => Ending.returned (.bool b)) ?_, HB.out⟩; simp [hx1, hpq, hlq])
        · rw [u1] at HU1
          rw [u2] at HU2
          rw [u3] at HU3
          clear u1 u2 u3
          go_wp2_with (first | ((with_reducible refine (HU1.out _).mono ?_); rintro e w12 ⟨rfl, hb⟩; replace HB := Lib.hid (HB.out.trans (hb.mono HB.out.size)); clear hb) | ((with_reducible refine (HU2.out _).mono ?_); rintro e w12 ⟨rfl, hb⟩; replace HB := Lib.hid (HB.out.trans (hb.mono HB.out.size)); clear hb) | ((with_reducible refine (HU3.out _).mono ?_); rintro e w12 ⟨rfl, hb⟩; replace HB := Lib.hid (HB.out.trans (hb.mono HB.out.size)); clear hb))
          all_goals go_ret
          all_goals first | exact ⟨rfl, HB.out⟩ | (refine ⟨congrArg (fun b => Ending.returned (.bool b)) ?_, HB.out⟩; simp [hx1, hpq, hlq])
    · have hx1 : (x == 0) = false := by rw [beq_eq_false_iff_ne]; exact hx
      have hx2 : (p.data.toList == q.data.toList) = false := by rw [beq_eq_false_iff_ne]; exact hpq
      rcases HTR.out with t1 | ⟨t1, t2⟩ | ⟨t1, t2, t3⟩
      · rcases HUN.out with u1 | ⟨u1, u2⟩ | ⟨u1, u2, u3⟩
        · rw [u1] at HU1
          clear u1
          go_wp2_with (first | ((with_reducible refine (HU1.out _).mono ?_); rintro e w12 ⟨rfl, hb⟩; replace HB := Lib.hid (HB.out.trans (hb.mono HB.out.size)); clear hb))
          all_goals go_ret
          all_goals first | exact ⟨rfl, HB.out⟩ | (refine ⟨congrArg (fun b => Ending.returned (.bool b)) ?_, HB.out⟩; simp [hx1, hpq, hlq])
        · rw [u1] at HU1
          rw [u2] at HU2
          clear u1 u2
          go_wp2_with (first | ((with_reducible refine (HU1.out _).mono ?_); rintro e w12 ⟨rfl, hb⟩; replace HB := Lib.hid (HB.out.trans (hb.mono HB.out.size)); clear hb) | ((with_reducible refine (HU2.out _).mono ?_); rintro e w12 ⟨rfl, hb⟩; replace HB := Lib.hid (HB.out.trans (hb.mono HB.out.size)); clear hb))
          all_goals go_ret
          all_goals first | exact ⟨rfl, HB.out⟩ | (refine ⟨congrArg (fun b => Ending.returned (.bool b)) ?_, HB.out⟩; simp [hx1, hpq, hlq])
        · rw [u1] at HU1
          rw [u2] at HU2
          rw [u3] at HU3
          clear u1 u2 u3
          go_wp2_with (first | ((with_reducible refine (HU1.out _).mono ?_); rintro e w12 ⟨rfl, hb⟩; replace HB := Lib.hid (HB.out.trans (hb.mono HB.out.size)); clear hb) | ((with_reducible refine (HU2.out _).mono ?_); rintro e w12 ⟨rfl, hb⟩; replace HB := Lib.hid (HB.out.trans (hb.mono HB.out.size)); clear hb) | ((with_reducible refine (HU3.out _).mono ?_); rintro e w12 ⟨rfl, hb⟩; replace HB := Lib.hid (HB.out.trans (hb.mono HB.out.size)); clear hb))
          all_goals go_ret
          all_goals first | exact ⟨rfl, HB.out⟩ | (refine ⟨congrArg (fun b => Ending.returned (.bool b)) ?_, HB.out⟩; simp [hx1, hpq, hlq])
      · rcases HUN.out with u1 | ⟨u1, u2⟩ | ⟨u1, u2, u3⟩
        · rw [u1] at HU1
          clear u1
          go_wp2_with (first | ((with_reducible refine (HU1.out _).mono ?_); rintro e w12 ⟨rfl, hb⟩; replace HB := Lib.hid (HB.out.trans (hb.mono HB.out.size)); clear hb))
          all_goals go_ret
          all_goals first | exact ⟨rfl, HB.out⟩ | (refine ⟨congrArg (fun b => Ending.returned (.bool b)) ?_, HB.out⟩; simp [hx1, hpq, hlq])
        · rw [u1] at HU1
          rw [u2] at HU2
          clear u1 u2
          go_wp2_with (first | ((with_reducible refine (HU1.out _).mono ?_); rintro e w12 ⟨rfl, hb⟩; replace HB := Lib.hid (HB.out.trans (hb.mono HB.out.size)); clear hb) | ((with_reducible refine (HU2.out _).mono ?_); rintro e w12 ⟨rfl, hb⟩; replace HB := Lib.hid (HB.out.trans (hb.mono HB.out.size)); clear hb))
          all_goals go_ret
          all_goals first | exact ⟨rfl, HB.out⟩ | (refine ⟨congrArg (fun b => Ending.returned (.bool b)) ?_, HB.out⟩; simp [hx1, hpq, hlq])
        · rw [u1] at HU1
          rw [u2] at HU2
          rw [u3] at HU3
          clear u1 u2 u3
          go_wp2_with (first | ((with_reducible refine (HU1.out _).mono ?_); rintro e w12 ⟨rfl, hb⟩; replace HB := Lib.hid (HB.out.trans (hb.mono HB.out.size)); clear hb) | ((with_reducible refine (HU2.out _).mono ?_); rintro e w12 ⟨rfl, hb⟩; replace HB := Lib.hid (HB.out.trans (hb.mono HB.out.size)); clear hb) | ((with_reducible refine (HU3.out _).mono ?_); rintro e w12 ⟨rfl, hb⟩; replace HB := Lib.hid (HB.out.trans (hb.mono HB.out.size)); clear hb))
          all_goals go_ret
          all_goals first | exact ⟨rfl, HB.out⟩ | (refine ⟨congrArg (fun b => Ending.returned (.bool b)) ?_, HB.out⟩; simp [hx1, hpq, hlq])
      · rcases HUN.out with u1 | ⟨u1, u2⟩ | ⟨u1, u2, u3⟩
        · rw [u1] at HU1
          clear u1
          go_wp2_with (first | ((with_reducible refine (HU1.out _).mono ?_); rintro e w12 ⟨rfl, hb⟩; replace HB := Lib.hid (HB.out.trans (hb.mono HB.out.size)); clear hb))
          all_goals go_ret
          all_goals first | exact ⟨rfl, HB.out⟩ | (refine ⟨congrArg (fun b => Ending.returned (.bool b)) ?_, HB.out⟩; simp [hx1, hpq, hlq])
        · rw [u1] at HU1
          rw [u2] at HU2
          clear u1 u2
          go_wp2_with (first | ((with_reducible refine (HU1.out _).mono ?_); rintro e w12 ⟨rfl, hb⟩; replace HB := Lib.hid (HB.out.trans (hb.mono HB.out.size)); clear hb) | ((with_reducible refine (HU2.out _).mono ?_); rintro e w12 ⟨rfl, hb⟩; replace HB := Lib.hid (HB.out.trans (hb.mono HB.out.size)); clear hb))
          all_goals go_ret
          all_goals first | exact ⟨rfl, HB.out⟩ | (refine ⟨congrArg (fun b => Ending.returned (.bool b)) ?_, HB.out⟩; simp [hx1, hpq, hlq])
        · rw [u1] at HU1
          rw [u2] at HU2
          rw [u3] at HU3
          clear u1 u2 u3
          go_wp2_with (first | ((with_reducible refine (HU1.out _).mono ?_); rintro e w12 ⟨rfl, hb⟩; replace HB := Lib.hid (HB.out.trans (hb.mono HB.out.size)); clear hb) | ((with_reducible refine (HU2.out _).mono ?_); rintro e w12 ⟨rfl, hb⟩; replace HB := Lib.hid (HB.out.trans (hb.mono HB.out.size)); clear hb) | ((with_reducible refine (HU3.out _).mono ?_); rintro e w12 ⟨rfl, hb⟩; replace HB := Lib.hid (HB.out.trans (hb.mono HB.out.size)); clear hb))
          all_goals go_ret
          all_goals first | exact ⟨rfl, HB.out⟩ | (refine ⟨congrArg (fun b => Ending.returned (.bool b)) ?_, HB.out⟩; simp [hx1, hpq, hlq])
theorem parts_any (p q r : ByteArray) (hp : p.size < 1152921504606846976) (w : World) :
    Calls Tryd.prog 5 #[.string p, .string q, .string r] w fun e w' => e = .returned (.bool true) ∧ Below w.heap.size w w' := by
  by_cases h : okPath p.data.toList = false ∨ 200 < q.size ∨ 200 < r.size
  · exact parts_no p q r hp h w
  · have hg : okPath p.data.toList = true := by
      cases hg : okPath p.data.toList with
      | true => rfl
      | false => exact absurd (.inl hg) h
    exact parts_yes p q r ⟨(upL p.data.toList).toArray⟩ ⟨(baseL p.data.toList).toArray⟩ hp hg (by omega) (by omega) rfl rfl w
end Go.Proofs.YtflgncagoiigfaaDoor
