/- Contracts: the document's own Depth, Up, Base, Join, Under, Inside. Condition: texts of at most 2^18 bytes. -/
import Derived.Test.YtflgncagoiigfaaDoorRgood
namespace Go.Proofs.YtflgncagoiigfaaDoor
open Go.RowKit
set_option maxHeartbeats 1000000 in
theorem rdepth_any (s : ByteArray) (hs : s.size ≤ 1048576) (w : World) :
    Calls Tryd.prog 23 #[.string s] w fun e w' => e = .returned (.int .i64 (depthV s.data.toList : Nat)) ∧ Below w.heap.size w w' := by
  have HG := Lib.hid (rgood_any s hs w)
  have HN := Lib.hid (fun w1 => names_any s hs w1)
  unfold depthV
  cases hg : okPath s.data.toList with
  | false =>
    rw [hg] at HG
    clear hg
    go_enter Tryd.func23, Tryd.ntmps23
    go_wp2_with fail
    refine (HG.out).mono ?_
    rintro e w1 ⟨rfl, hb⟩
    go_wp2_with fail
    go_ret
    exact ⟨rfl, hb⟩
  | true =>
    rw [hg] at HG
    rw [if_pos rfl]
    clear hg
    go_enter Tryd.func23, Tryd.ntmps23
    go_wp2_with fail
    refine (HG.out).mono ?_
    rintro e w1 ⟨rfl, hb⟩
    have HB := Lib.hid hb
    clear hb
    go_wp2_with fail
    refine (HN.out _).mono ?_
    rintro e w2 ⟨⟨v, rfl, q, c, rfl, hc, hsee⟩, hb⟩
    replace HB := Lib.hid (HB.out.trans (hb.mono HB.out.size))
    clear hb
    go_wp2_with fail
    go_ret
    exact ⟨rfl, HB.out⟩
theorem base_at (S : Tx) : ∃ j, j + 1 = (nms S).length ∧ ∃ h : j < (nms S).length, baseL S = (nms S)[j] := by
  have h0 := nms_pos S
  refine ⟨(nms S).length - 1, by omega, by omega, ?_⟩
  unfold baseL
  rw [List.getLastD_eq_getLast?, List.getLast?_eq_getElem?, List.getElem?_eq_getElem (show (nms S).length - 1 < (nms S).length by omega)]
  rfl
set_option maxHeartbeats 1000000 in
theorem rbase_any (s : ByteArray) (hs : s.size ≤ 1048576) (w : World) :
    Calls Tryd.prog 22 #[.string s] w fun e w' => e = .returned (.string ⟨(baseV s.data.toList).toArray⟩) ∧ Below w.heap.size w w' := by
  have HG := Lib.hid (rgood_any s hs w)
  have HN := Lib.hid (fun w1 => names_any s hs w1)
  unfold baseV
  cases hg : okPath s.data.toList with
  | false =>
    rw [hg] at HG
    clear hg
    go_enter Tryd.func22, Tryd.ntmps22
    go_wp2_with fail
    refine (HG.out).mono ?_
    rintro e w1 ⟨rfl, hb⟩
    go_wp2_with fail
    go_ret
    exact ⟨rfl, hb⟩
  | true =>
    rw [hg] at HG
    rw [if_pos rfl]
    clear hg
    obtain ⟨j, hj, hjl, hb2⟩ := base_at s.data.toList
    rw [hb2]
    have h0 := nms_pos s.data.toList
    have hcl : (nms s.data.toList).length ≤ 1048577 := by rw [nms_count]; have : s.data.toList.count 47 ≤ s.data.toList.length := List.count_le_length; have : s.data.toList.length = s.size := rfl; omega
    clear hb2
    generalize nms s.data.toList = N at *
    obtain ⟨x, hx⟩ : ∃ x : ByteArray, (⟨N[j].toArray⟩ : ByteArray) = x := ⟨_, rfl⟩
    rw [hx]
    have kw : IntKind.i64.wrap ((N.length : Int) - 1) = (j : Int) := by rw [IntWalk.i64_in _ (by omega)]; omega
    go_enter Tryd.func22, Tryd.ntmps22
    go_wp2_with fail
    refine (HG.out).mono ?_
    rintro e w1 ⟨rfl, hb⟩
    have HB := Lib.hid hb
    clear hb
    go_wp2_with fail
    refine (HN.out _).mono ?_
    rintro e w2 ⟨⟨v, rfl, q, c, rfl, hc, hsee⟩, hb⟩
    replace HB := Lib.hid (HB.out.trans (hb.mono HB.out.size))
    clear hb
    obtain ⟨ad, rfl, hap, hcell⟩ := hsee.get (by rw [List.length_map]; omega)
    have c1 := hcell j (.string ⟨N[j].toArray⟩) (by rw [List.getElem?_map, List.getElem?_eq_getElem hjl]; rfl)
    rw [hx] at c1
    clear hx
    have kj : (j : Int) < (N.length : Int) := by omega
    clear hj hcell hsee
    go_wp2_with fail
    go_ret
    exact ⟨rfl, HB.out⟩
theorem take_last (N : List Tx) {j : Nat} (h : j + 1 = N.length) : N.take j = N.dropLast := by
  rw [List.dropLast_eq_take]; congr 1; omega
set_option maxHeartbeats 2000000 in
theorem rup_any (s : ByteArray) (hs : s.size ≤ 1048576) (w : World) :
    Calls Tryd.prog 19 #[.string s] w fun e w' => e = .returned (.tuple #[.string ⟨(upV s.data.toList).toArray⟩, .bool (okPath s.data.toList)]) ∧ Below w.heap.size w w' := by
  have HG := Lib.hid (rgood_any s hs w)
  have HN := Lib.hid (fun w1 => names_any s hs w1)
  unfold upV upL
  cases hg : okPath s.data.toList with
  | false =>
    rw [hg] at HG
    clear hg
    go_enter Tryd.func19, Tryd.ntmps19
    go_wp2_with fail
    refine (HG.out).mono ?_
    rintro e w1 ⟨rfl, hb⟩
    go_wp2_with fail
    go_ret2
    exact ⟨rfl, hb⟩
  | true =>
    rw [hg] at HG
    rw [if_pos rfl]
    have hall : ∀ n ∈ nms s.data.toList, okName n = true ∧ 47 ∉ n := fun n hn => by
      unfold okPath at hg
      rw [Bool.and_eq_true] at hg
      exact ⟨List.all_eq_true.1 hg.2 n hn, nms_no _ n hn⟩
    have hn4 : (nms s.data.toList).length ≤ 4 := by
      unfold okPath at hg
      rw [Bool.and_eq_true] at hg
      exact of_decide_eq_true hg.1
    clear hg
    have h0 := nms_pos s.data.toList
    have hcl : (nms s.data.toList).length ≤ 1048577 := by rw [nms_count]; have : s.data.toList.count 47 ≤ s.data.toList.length := List.count_le_length; have : s.data.toList.length = s.size := rfl; omega
    generalize nms s.data.toList = N at *
    obtain ⟨V, hV⟩ : ∃ V : ByteArray, (⟨(jn N.dropLast).toArray⟩ : ByteArray) = V := ⟨_, rfl⟩
    have HV : Hid (V.data.toList = jn N.dropLast) := Lib.hid (by rw [← hV])
    rw [hV]
    clear hV
    go_enter Tryd.func19, Tryd.ntmps19
    go_wp2_with fail
    refine (HG.out).mono ?_
    rintro e w1 ⟨rfl, hb⟩
    have HB := Lib.hid hb
    clear hb
    go_wp2_with fail
    refine (HN.out _).mono ?_
    rintro e w2 ⟨⟨v, rfl, q, c, rfl, hc, hsee⟩, hb⟩
    replace HB := Lib.hid (HB.out.trans (hb.mono HB.out.size))
    clear hb
    obtain ⟨ad, rfl, hap, hcell⟩ := hsee.get (by rw [List.length_map]; omega)
    have HC := Lib.hid hcell
    clear hcell hsee
    go_wp2_with fail
    go_loop [5, 6] (fun vs vi => ∃ (i : Nat) (t : ByteArray), i + 1 ≤ N.length ∧ vi = .int .i64 i ∧ vs = .string t ∧ t.data.toList = jn (N.take i)) (fun _ vi => N.length - (intOf vi).toNat)
    case atStart => exact ⟨0, ⟨#[]⟩, by omega, rfl, rfl, rfl⟩
    case round =>
      obtain ⟨i, t, hi, rfl, rfl, ht⟩ := hrel
      have kw : IntKind.i64.wrap ((i : Int) + 1) = (i : Int) + 1 := by rw [IntWalk.i64_in _ (by omega)]
      have hts : t.size ≤ 68 := by
        have h1 := jn_len (T := N.take i) (fun n hn => hall n (List.mem_of_mem_take hn))
        rw [← ht] at h1
        have h2 : t.data.toList.length = t.size := rfl
        rw [h2, List.length_take] at h1
        omega
      by_cases hlt : i + 1 < N.length
      · have hil : i < N.length := by omega
        have c1 := HC.out i (.string ⟨N[i].toArray⟩) (by rw [List.getElem?_map, List.getElem?_eq_getElem hil]; rfl)
        have htk : N.take (i + 1) = N.take i ++ [N[i]] := by rw [List.take_add_one, List.getElem?_eq_getElem hil]; rfl
        have hx : (⟨N[i].toArray⟩ : ByteArray).data.toList = N[i] := rfl
        have hxs : (⟨N[i].toArray⟩ : ByteArray).size ≤ 16 := by
          have h1 := ok_len (hall N[i] (List.getElem_mem hil)).1
          show N[i].toArray.size ≤ 16
          simpa using h1
        have kl : (i : Int) + 1 < (N.length : Int) := by omega
        have kl2 : (i : Int) < (N.length : Int) := by omega
        by_cases h0 : i = 0
        · have hte : t.data.toList = [] := by rw [ht, h0]; rfl
          have ht0 : N.take i = [] := by rw [h0]; rfl
          have HRES : Hid ((t ++ ⟨N[i].toArray⟩).data.toList = jn (N.take (i + 1))) := Lib.hid (by
            rw [htk, ht0, ByteArray.data_append, Array.toList_append, hte, hx]; rfl)
          have k0 : ¬ (0 : Int) < (i : Int) := by omega
          have k0n : ¬ 0 < i := by omega
          clear ht0
          generalize (⟨N[i].toArray⟩ : ByteArray) = x at *
          clear htk hx h0 hte ht
          go_wp2_with fail
          go_round
          case rel => exact ⟨i + 1, _, by omega, by go_num, rfl, HRES.out⟩
          case measure => simp [intOf]; omega
        · have hne : N.take i ≠ [] := fun e => h0 (by have h9 := congrArg List.length e; rw [List.length_take, List.length_nil] at h9; omega)
          have HRES : Hid ((t ++ ⟨#[47]⟩ ++ ⟨N[i].toArray⟩).data.toList = jn (N.take (i + 1))) := Lib.hid (by
            rw [htk, jn_snoc hne, ByteArray.data_append, ByteArray.data_append, Array.toList_append, Array.toList_append, ht, hx]; simp)
          have k0 : (0 : Int) < (i : Int) := by omega
          have k0n : 0 < i := by omega
          generalize (⟨N[i].toArray⟩ : ByteArray) = x at *
          clear htk hx h0 hne ht
          go_wp2_with fail
          go_round
          case rel => exact ⟨i + 1, _, by omega, by go_num, rfl, HRES.out⟩
          case measure => simp [intOf]; omega
      · have hie : i + 1 = N.length := by omega
        have htv : t = V := by
          have h1 := HV.out
          rw [← take_last N hie, ← ht] at h1
          rw [← Lib.mk_data t, ← Lib.mk_data V, h1]
        subst htv
        have kl : ¬ (i : Int) + 1 < (N.length : Int) := by omega
        clear ht hlt hie
        go_wp2_with fail
        go_ret2
        exact ⟨rfl, HB.out⟩
theorem one_no (X : Tx) : ((nms X).length = 1) ↔ X.contains 47 = false := by
  rw [nms_count]
  have : X.count 47 = 0 ↔ 47 ∉ X := List.count_eq_zero
  constructor
  · intro h; have h2 := this.1 (by omega); simpa using h2
  · intro h; have h2 := this.2 (by simpa using h); omega
set_option maxHeartbeats 2000000 in
theorem rjoin_core (p n r : ByteArray) (hp : p.size ≤ 262144) (hr : r.size ≤ 1048576) (hn : n.size ≤ 1048576) (hrw : r.data.toList = joinL p.data.toList n.data.toList) (w : World)
    (hcase : (p.toList = [] ∧ r = n) ∨ (p.toList.isEmpty = false ∧ r = p ++ ⟨#[47]⟩ ++ n)) :
    Calls Tryd.prog 20 #[.string p, .string n] w fun e w' => e = .returned (.tuple #[.string ⟨(joinV p.data.toList n.data.toList).toArray⟩, .bool (joinOk p.data.toList n.data.toList)]) ∧ Below w.heap.size w w' := by
  have HG := Lib.hid (fun w1 => rgood_any r hr w1)
  have HN := Lib.hid (fun w1 => names_any n hn w1)
  rw [hrw] at HG
  have hrz : (⟨(joinL p.data.toList n.data.toList).toArray⟩ : ByteArray) = r := by rw [← hrw, Lib.mk_data]
  have HZ := Lib.hid hrz
  have h1 := one_no n.data.toList
  unfold joinV joinOk
  cases hg : okPath (joinL p.data.toList n.data.toList) with
  | false =>
    rw [hg] at HG
    rw [Bool.and_false, if_neg Bool.false_ne_true]
    clear hg hrz hrw h1
    rcases hcase with ⟨hq, rfl⟩ | ⟨hq, rfl⟩
    · go_enter Tryd.func20, Tryd.ntmps20
      go_wp2_with fail
      refine (HG.out _).mono ?_
      rintro e w1 ⟨rfl, hb⟩
      go_wp2_with fail
      go_ret2
      exact ⟨rfl, hb⟩
    · go_enter Tryd.func20, Tryd.ntmps20
      go_wp2_with fail
      refine (HG.out _).mono ?_
      rintro e w1 ⟨rfl, hb⟩
      go_wp2_with fail
      go_ret2
      exact ⟨rfl, hb⟩
  | true =>
    rw [hg] at HG
    rw [Bool.and_true]
    cases hc : n.data.toList.contains 47 with
    | true =>
      have hne : ¬ ((nms n.data.toList).length : Int) = 1 := fun e => by
        have := h1.1 (by omega)
        rw [hc] at this; cases this
      rw [Bool.not_true, if_neg Bool.false_ne_true]
      generalize nms n.data.toList = N at *
      clear hg hrz hrw h1 hc
      rcases hcase with ⟨hq, rfl⟩ | ⟨hq, rfl⟩
      all_goals
        go_enter Tryd.func20, Tryd.ntmps20
        go_wp2_with fail
        refine (HG.out _).mono ?_
        rintro e w1 ⟨rfl, hb⟩
        have HB := Lib.hid hb
        clear hb
        go_wp2_with fail
        refine (HN.out _).mono ?_
        rintro e w2 ⟨⟨v, rfl, q, c, rfl, hcc, hsee⟩, hb⟩
        replace HB := Lib.hid (HB.out.trans (hb.mono HB.out.size))
        clear hb hsee
        go_wp2_with fail
        go_ret2
        exact ⟨rfl, HB.out⟩
    | false =>
      have hne : ((nms n.data.toList).length : Int) = 1 := by have := h1.2 hc; omega
      rw [Bool.not_false, if_pos rfl, HZ.out]
      generalize nms n.data.toList = N at *
      clear hg hrz hrw h1 hc
      rcases hcase with ⟨hq, rfl⟩ | ⟨hq, rfl⟩
      all_goals
        go_enter Tryd.func20, Tryd.ntmps20
        go_wp2_with fail
        refine (HG.out _).mono ?_
        rintro e w1 ⟨rfl, hb⟩
        have HB := Lib.hid hb
        clear hb
        go_wp2_with fail
        refine (HN.out _).mono ?_
        rintro e w2 ⟨⟨v, rfl, q, c, rfl, hcc, hsee⟩, hb⟩
        replace HB := Lib.hid (HB.out.trans (hb.mono HB.out.size))
        clear hb hsee
        go_wp2_with fail
        go_ret2
        exact ⟨rfl, HB.out⟩
theorem rjoin_any (p n : ByteArray) (hp : p.size ≤ 262144) (hn : n.size ≤ 262144) (w : World) :
    Calls Tryd.prog 20 #[.string p, .string n] w fun e w' => e = .returned (.tuple #[.string ⟨(joinV p.data.toList n.data.toList).toArray⟩, .bool (joinOk p.data.toList n.data.toList)]) ∧ Below w.heap.size w w' := by
  by_cases he : p.data = #[]
  · exact rjoin_core p n n hp (by omega) (by omega) (by unfold joinL; rw [if_pos (by rw [he])]) w (.inl ⟨no_text he, rfl⟩)
  · have hsz : (p ++ ⟨#[47]⟩ ++ n).size = p.size + 1 + n.size := by simp [ByteArray.size_append]; rfl
    exact rjoin_core p n (p ++ ⟨#[47]⟩ ++ n) hp (by omega) (by omega) (whole_eq p n he) w (.inr ⟨some_text he, rfl⟩)
theorem under_no {p d : Tx} (h : okPath p = false ∨ okPath d = false ∨ ¬ d.length < p.length ∨ ¬ p.take d.length = d) : underL p d = false := by
  cases hu : underL p d with
  | false => rfl
  | true =>
    exfalso
    obtain ⟨h1, r, rfl⟩ := (under_iff _ _).1 hu
    rcases h with h | h | h | h
    · rw [h1] at h; cases h
    · rw [ok_sep _ _ h1] at h; cases h
    · rw [List.length_append, List.length_cons] at h; omega
    · rw [List.take_left] at h; exact h rfl
theorem under_at {p d : Tx} (h1 : okPath p = true) (h3 : d.length < p.length) (h4 : p.take d.length = d) : underL p d = (p[d.length] == 47) := by
  have hs : p = d ++ p[d.length] :: p.drop (d.length + 1) := by
    have := (List.take_append_drop d.length p).symm
    rw [h4, List.drop_eq_getElem_cons h3] at this
    exact this
  cases hc : (p[d.length] == 47) with
  | true =>
    rw [beq_iff_eq] at hc
    rw [hc] at hs
    exact (under_iff _ _).2 ⟨h1, _, hs⟩
  | false =>
    cases hu : underL p d with
    | false => rfl
    | true =>
      exfalso
      obtain ⟨_, r, hr⟩ := (under_iff _ _).1 hu
      rw [hs] at hr
      have := List.append_cancel_left hr
      injection this with e1 _
      rw [e1] at hc
      cases hc
set_option maxHeartbeats 4000000 in
theorem runder_any (p d : ByteArray) (hp : p.size ≤ 1048576) (hd : d.size ≤ 1048576) (w : World) :
    Calls Tryd.prog 24 #[.string p, .string d] w fun e w' => e = .returned (.bool (underL p.data.toList d.data.toList)) ∧ Below w.heap.size w w' := by
  have HG := Lib.hid (fun w1 => rgood_any p hp w1)
  have HD := Lib.hid (fun w1 => rgood_any d hd w1)
  have hpl : p.data.toList.length = p.size := rfl
  have hdl : d.data.toList.length = d.size := rfl
  have hld : d.toList = d.data.toList := Lib.toList_data d
  cases hg : okPath p.data.toList with
  | false =>
    rw [hg] at HG
    rw [under_no (.inl hg)]
    clear hg
    go_enter Tryd.func24, Tryd.ntmps24
    go_wp2_with fail
    refine (HG.out _).mono ?_
    rintro e w1 ⟨rfl, hb⟩
    go_wp2_with fail
    go_ret
    exact ⟨rfl, hb⟩
  | true =>
    rw [hg] at HG
    cases hgd : okPath d.data.toList with
    | false =>
      rw [hgd] at HD
      rw [under_no (.inr (.inl hgd))]
      clear hg hgd
      go_enter Tryd.func24, Tryd.ntmps24
      go_wp2_with fail
      refine (HG.out _).mono ?_
      rintro e w1 ⟨rfl, hb⟩
      have HB := Lib.hid hb
      clear hb
      go_wp2_with fail
      refine (HD.out _).mono ?_
      rintro e w2 ⟨rfl, hb⟩
      replace HB := Lib.hid (HB.out.trans (hb.mono HB.out.size))
      clear hb
      go_wp2_with fail
      go_ret
      exact ⟨rfl, HB.out⟩
    | true =>
      rw [hgd] at HD
      by_cases hlt : d.size < p.size
      · have hex : (p.extract 0 d.size).toList = p.data.toList.take d.size := by rw [Lib.extract_toList]; simp
        have k1 : (d.size : Int) < (p.size : Int) := by omega
        by_cases heq : p.data.toList.take d.size = d.data.toList
        · have hu := under_at (p := p.data.toList) (d := d.data.toList) hg (by rw [hpl, hdl]; exact hlt) (by rw [hdl]; exact heq)
          have hget : p.data.toList[d.data.toList.length]'(by rw [hpl, hdl]; exact hlt) = p[d.size]'hlt := by
            have h1 := byte_at p d.size hlt
            exact (List.getElem?_eq_some_iff.1 h1).2
          rw [hu, hget]
          have k2 : ((p.extract 0 d.size).toList == d.data.toList) = true := by rw [hex, beq_iff_eq]; exact heq
          have k3 : (((p[d.size]'hlt).toNat : Int) == 47) = (p[d.size]'hlt == 47) := by
            rw [Bool.eq_iff_iff, beq_iff_eq, beq_iff_eq, ← UInt8.toNat_inj]
            show _ ↔ (p[d.size]'hlt).toNat = 47
            omega
          have HK := Lib.hid k3
          clear hu hget heq hex hg hgd k3
          go_enter Tryd.func24, Tryd.ntmps24
          go_wp2_with fail
          refine (HG.out _).mono ?_
          rintro e w1 ⟨rfl, hb⟩
          have HB := Lib.hid hb
          clear hb
          go_wp2_with fail
          refine (HD.out _).mono ?_
          rintro e w2 ⟨rfl, hb⟩
          replace HB := Lib.hid (HB.out.trans (hb.mono HB.out.size))
          clear hb
          go_wp2_with fail
          go_ret
          exact ⟨congrArg (fun b => Ending.returned (.bool b)) HK.out, HB.out⟩
        · rw [under_no (.inr (.inr (.inr (by rw [hdl]; exact heq))))]
          have k2 : ((p.extract 0 d.size).toList == d.data.toList) = false := by rw [hex, beq_eq_false_iff_ne]; exact heq
          clear heq hex hg hgd
          go_enter Tryd.func24, Tryd.ntmps24
          go_wp2_with fail
          refine (HG.out _).mono ?_
          rintro e w1 ⟨rfl, hb⟩
          have HB := Lib.hid hb
          clear hb
          go_wp2_with fail
          refine (HD.out _).mono ?_
          rintro e w2 ⟨rfl, hb⟩
          replace HB := Lib.hid (HB.out.trans (hb.mono HB.out.size))
          clear hb
          go_wp2_with fail
          go_ret
          exact ⟨rfl, HB.out⟩
      · rw [under_no (.inr (.inr (.inl (by rw [hpl, hdl]; exact hlt))))]
        have k1 : ¬ (d.size : Int) < (p.size : Int) := by omega
        clear hg hgd
        go_enter Tryd.func24, Tryd.ntmps24
        go_wp2_with fail
        refine (HG.out _).mono ?_
        rintro e w1 ⟨rfl, hb⟩
        have HB := Lib.hid hb
        clear hb
        go_wp2_with fail
        refine (HD.out _).mono ?_
        rintro e w2 ⟨rfl, hb⟩
        replace HB := Lib.hid (HB.out.trans (hb.mono HB.out.size))
        clear hb
        go_wp2_with fail
        go_ret
        exact ⟨rfl, HB.out⟩
set_option maxHeartbeats 1000000 in
theorem rinside_any (p : ByteArray) (hp : p.size ≤ 1048576) (w : World) :
    Calls Tryd.prog 25 #[.string p] w fun e w' => e = .returned (.bool (insideL p.data.toList)) ∧ Below w.heap.size w w' := by
  have H1 := Lib.hid (fun w1 => runder_any p ⟨#[46, 119, 111, 114, 107]⟩ hp (by decide) w1)
  have hl : p.toList = p.data.toList := Lib.toList_data p
  unfold insideL
  cases h1 : (p.data.toList == [46, 119, 111, 114, 107]) with
  | true =>
    go_enter Tryd.func25, Tryd.ntmps25
    go_wp2_with fail
    go_ret
    exact ⟨rfl, Below.refl _ _⟩
  | false =>
    cases h2 : underL p.data.toList [46, 119, 111, 114, 107] with
    | true =>
      simp only [h2] at H1
      go_enter Tryd.func25, Tryd.ntmps25
      go_wp2_with (first | ((with_reducible refine (H1.out _).mono ?_); rintro e w1 ⟨rfl, hb1⟩))
      go_ret
      exact ⟨rfl, hb1⟩
    | false =>
      simp only [h2] at H1
      go_enter Tryd.func25, Tryd.ntmps25
      go_wp2_with (first | ((with_reducible refine (H1.out _).mono ?_); rintro e w1 ⟨rfl, hb1⟩))
      go_ret
      exact ⟨rfl, hb1⟩
end Go.Proofs.YtflgncagoiigfaaDoor
