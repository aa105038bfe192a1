/- The law PathJoins, walked: names joined one by one are as deep as there are names. Condition: what came in is within the model's reach. -/
import Derived.Test.YtflgncagoiigfaaDoorParts7
import Derived.Test.YtflgncagoiigfaaDoorMem
namespace Go.Proofs.YtflgncagoiigfaaDoor
open Go.RowKit
theorem ok_ne {n : Tx} (h : okName n = true) : n ≠ [] := by rintro rfl; cases h
theorem ok_len {n : Tx} (h : okName n = true) : n.length ≤ 16 := by
  unfold okName at h
  simp only [Bool.and_eq_true, Bool.not_eq_true', Bool.or_eq_false_iff, decide_eq_false_iff_not] at h
  omega
theorem jn_nil {T : List Tx} (h : ∀ n ∈ T, okName n = true ∧ 47 ∉ n) : jn T = [] ↔ T = [] := by
  constructor
  · intro e
    cases T with
    | nil => rfl
    | cons n r =>
      exfalso
      have hn := ok_ne (h n (by simp)).1
      cases r with
      | nil => exact hn e
      | cons m s => rw [jn_cons _ (by simp)] at e; simp at e
  · rintro rfl; rfl
theorem jn_len {T : List Tx} (h : ∀ n ∈ T, okName n = true ∧ 47 ∉ n) : (jn T).length ≤ 17 * T.length := by
  induction T with
  | nil => simp [jn]
  | cons n r ih =>
    have h1 := ok_len (h n (by simp)).1
    have h2 := ih (fun m hm => h m (List.mem_cons_of_mem _ hm))
    cases r with
    | nil => show n.length ≤ 17; omega
    | cons m s => rw [jn_cons _ (by simp), List.length_append, List.length_cons]; simp only [List.length_cons] at h2 ⊢; omega
theorem one_name {X : Tx} (h : okPath X = true) (hd : depthV X = 1) : 47 ∉ X ∧ okName X = true := by
  unfold depthV at hd
  rw [if_pos h] at hd
  obtain ⟨n, hn⟩ := List.length_eq_one_iff.1 hd
  have hx : X = n := by rw [← jn_nms X, hn]; rfl
  unfold okPath at h
  rw [hn] at h
  refine ⟨?_, ?_⟩
  · have := nms_no X n (by rw [hn]; simp)
    rwa [← hx] at this
  · rw [hx]; simpa using h
theorem name_one {X : Tx} (h : 47 ∉ X) (hn : okName X = true) : okPath X = true ∧ depthV X = 1 := by
  have h1 : okPath X = true := by unfold okPath; rw [nms_plain h]; simp [hn]
  exact ⟨h1, by unfold depthV; rw [if_pos h1, nms_plain h]; rfl⟩
theorem join_all {T : List Tx} (X : Tx) (h : ∀ n ∈ T, okName n = true ∧ 47 ∉ n) : joinL (jn T) X = jn (T ++ [X]) := by
  unfold joinL
  by_cases ht : T = []
  · rw [ht]; rfl
  · rw [if_neg (fun e => ht ((jn_nil h).1 e)), jn_snoc ht]
theorem nms_all {T : List Tx} {X : Tx} (h : ∀ n ∈ T, okName n = true ∧ 47 ∉ n) (hx : 47 ∉ X) : nms (jn (T ++ [X])) = T ++ [X] :=
  nms_jn (by simp) (fun n hn => by
    rcases List.mem_append.1 hn with h1 | h1
    · exact (h n h1).2
    · rw [List.mem_singleton.1 h1]; exact hx)
theorem join_step {T : List Tx} (X : Tx) (h : ∀ n ∈ T, okName n = true ∧ 47 ∉ n) (h4 : T.length ≤ 4) :
    joinOk (jn T) X = (okPath X && (depthV X == 1) && decide (T.length < 4)) := by
  unfold joinOk
  rw [join_all X h]
  by_cases hx : 47 ∈ X
  · have hc : X.contains 47 = true := by simpa using hx
    rw [hc, Bool.not_true, Bool.false_and]
    cases hg : okPath X with
    | false => rfl
    | true =>
      have : (depthV X == 1) = false := by
        rw [beq_eq_false_iff_ne]; intro hd; exact (one_name hg hd).1 hx
      rw [this]; rfl
  · have hc : X.contains 47 = false := by simpa using hx
    rw [hc, Bool.not_false, Bool.true_and]
    unfold okPath
    rw [nms_all h hx, List.all_append, List.length_append]
    have ha : T.all okName = true := List.all_eq_true.2 fun n hn => (h n hn).1
    rw [ha]
    cases hn : okName X with
    | false => simp [nms_plain hx, hn]
    | true =>
      have hd := (name_one hx hn).2
      rw [hd, nms_plain hx]
      simp [hn]
      omega
theorem join_got {T : List Tx} {X : Tx} (h : ∀ n ∈ T, okName n = true ∧ 47 ∉ n) (hk : joinOk (jn T) X = true) :
    joinV (jn T) X = jn (T ++ [X]) ∧ depthV (jn (T ++ [X])) = T.length + 1 ∧ baseV (jn (T ++ [X])) = X ∧ (T ≠ [] → underL (jn (T ++ [X])) (jn T) = true) ∧ (∀ n ∈ T ++ [X], okName n = true ∧ 47 ∉ n) := by
  have hv : joinV (jn T) X = jn (T ++ [X]) := by unfold joinV; rw [if_pos hk, join_all X h]
  have hk2 := hk
  unfold joinOk at hk
  rw [join_all X h, Bool.and_eq_true] at hk
  have hx : 47 ∉ X := by simpa using hk.1
  have hok := hk.2
  have hn := nms_all h hx
  refine ⟨hv, ?_, ?_, fun ht => ?_, ?_⟩
  · unfold depthV; rw [if_pos hok, hn]; simp
  · unfold baseV baseL; rw [if_pos hok, hn]; simp [List.getLastD_eq_getLast?]
  · exact (under_iff _ _).2 ⟨hok, X, jn_snoc ht X⟩
  · unfold okPath at hok
    rw [hn, Bool.and_eq_true] at hok
    intro n hm
    refine ⟨List.all_eq_true.1 hok.2 n hm, ?_⟩
    rcases List.mem_append.1 hm with h1 | h1
    · exact (h n h1).2
    · rw [List.mem_singleton.1 h1]; exact hx
abbrev bt (s : ByteArray) : Tx := s.data.toList
theorem text_size (p : ByteArray) : p.size = (bt p).length := rfl
set_option maxHeartbeats 8000000 in
set_option maxRecDepth 100000 in
theorem joins_any (l : List ByteArray) (q : Option Addr) (c : Nat) (hm : l.length ≤ maxLen) (hn : ∀ s ∈ l, s.size ≤ maxLen) (w : World) (hs : Sees w w.heap.size q (l.map Value.string)) :
    Calls Tryd.prog 7 #[.slice q l.length c] w fun e w' => e = .returned (.bool true) ∧ Below w.heap.size w w' := by
  have HA := Lib.hid (fun w1 => awake_any w1)
  have HS := Lib.hid hs
  have HN := Lib.hid hn
  clear hs hn
  unfold maxLen at hm
  by_cases h6 : 6 < (l.length : Int)
  · go_enter Tryd.func7, Tryd.ntmps7
    go_wp2_with fail
    refine (HA.out _).mono ?_
    rintro e w1 ⟨rfl, hb⟩
    go_wp2_with fail
    go_ret
    exact ⟨rfl, hb⟩
  go_enter Tryd.func7, Tryd.ntmps7
  go_wp2_with fail
  refine (HA.out _).mono ?_
  rintro e w1 ⟨rfl, hb⟩
  have HB1 := Lib.hid hb
  clear hb
  go_wp2_with fail
  go_loopw [3, 4, 5, 6] (fun vp vi _ _ wr => ∃ (i : Nat) (p : ByteArray), i ≤ l.length ∧ i ≤ 4 ∧ vi = .int .i64 i ∧ vp = .string p ∧ bt p = jn ((l.take i).map bt) ∧ (∀ n ∈ (l.take i).map bt, okName n = true ∧ 47 ∉ n) ∧ Below w.heap.size w wr) (fun _ vi _ _ _ => l.length - (intOf vi).toNat)
  case atStart => exact ⟨0, ⟨#[]⟩, by omega, by omega, rfl, rfl, rfl, by simp, HB1.out⟩
  case round =>
    clear HB1
    rename_i wr
    obtain ⟨i, p, hi, hi4, rfl, rfl, hp, hT, hb⟩ := hrel
    have HB := Lib.hid hb
    clear hb
    by_cases hlt : i < l.length
    · have hx : (l.take (i + 1)).map bt = (l.take i).map bt ++ [bt l[i]] := by rw [List.take_add_one, List.getElem?_eq_getElem hlt, List.map_append]; rfl
      have hlen : ((l.take i).map bt).length = i := by simp; omega
      have hxs := HN.out l[i] (List.getElem_mem hlt)
      unfold maxLen at hxs
      have hps : p.size ≤ 68 := by
        have := jn_len hT
        rw [← hp, hlen, ← text_size] at this
        omega
      obtain ⟨ad, rfl, hap, hcell⟩ := HS.out.get (by rw [List.length_map]; omega)
      have HC : Hid (∀ w', Below w.heap.size w w' → w'.cell? (ad.add i) = some (.string l[i])) := Lib.hid (fun w' hb => (hb.cell (by rw [add_block]; exact hap)).trans (hcell i (.string l[i]) (by rw [List.getElem?_map, List.getElem?_eq_getElem hlt]; rfl)))
      clear hcell hap
      have hj := join_step (bt l[i]) hT (by omega)
      rw [hlen, ← hp] at hj
      have HJ0 := Lib.hid hj
      have HG0 : Hid (joinOk (bt p) (bt l[i]) = true → joinV (bt p) (bt l[i]) = jn ((l.take (i + 1)).map bt) ∧ depthV (jn ((l.take (i + 1)).map bt)) = i + 1 ∧ baseV (jn ((l.take (i + 1)).map bt)) = bt l[i] ∧ ((l.take i).map bt ≠ [] → underL (jn ((l.take (i + 1)).map bt)) (bt p) = true) ∧ (∀ n ∈ (l.take (i + 1)).map bt, okName n = true ∧ 47 ∉ n)) := Lib.hid (fun hk => by
        rw [hp] at hk
        have := join_got hT hk
        rw [hlen, ← hx, ← hp] at this
        exact this)
      have hpe : (l.take i).map bt = [] ↔ i = 0 := by rw [← List.length_eq_zero_iff, hlen]
      have hpz : p.data = #[] ↔ i = 0 := by
        rw [← hpe, ← jn_nil hT, ← hp]; exact Array.toList_eq_nil_iff.symm
      have HPE := Lib.hid hpe
      have HPZ := Lib.hid hpz
      clear hj hpe hpz hT hp hx
      generalize hg : l[i] = x at *
      clear hg
      have c1 := HC.out _ HB.out
      have kl : (i : Int) < (l.length : Int) := by omega
      by_cases h50 : 50 < (x.size : Int)
      · go_wp2_with fail
        go_ret
        exact ⟨rfl, HB.out⟩
      · have HJ := Lib.hid (fun w1 => join_any p x (by omega) (by omega) w1)
        have HG := Lib.hid (fun w1 => good_any x (by omega) w1)
        have HD := Lib.hid (fun w1 => depth_any x (by omega) w1)
        cases hok : joinOk (bt p) (bt x) with
        | false =>
          have hv : joinV (bt p) (bt x) = [] := by unfold joinV; rw [hok]; rfl
          have hf := HJ0.out
          rw [hok] at hf
          have e1 : p.data.toList = bt p := rfl
          have e2 : x.data.toList = bt x := rfl
          rw [e1, e2, hok, hv] at HJ
          rw [e2] at HD HG
          cases hgx : okPath (bt x) with
          | false =>
            rw [hgx] at HG
            clear hf hok hv hgx e1 e2
            go_wp2_with fail
            refine (HJ.out _).mono ?_
            rintro e w2 ⟨rfl, hb⟩
            replace HB := Lib.hid (HB.out.trans (hb.mono HB.out.size))
            clear hb c1
            have c1 := HC.out _ HB.out
            go_wp2_with fail
            refine (HG.out _).mono ?_
            rintro e w3 ⟨rfl, hb⟩
            replace HB := Lib.hid (HB.out.trans (hb.mono HB.out.size))
            clear hb c1
            have c1 := HC.out _ HB.out
            go_wp2_with fail
            go_ret
            exact ⟨rfl, HB.out⟩
          | true =>
            rw [hgx] at HG
            rw [hgx, Bool.true_and] at hf
            have HF := Lib.hid hf
            clear hok hv hgx e1 e2 hf
            go_wp2_with fail
            refine (HJ.out _).mono ?_
            rintro e w2 ⟨rfl, hb⟩
            replace HB := Lib.hid (HB.out.trans (hb.mono HB.out.size))
            clear hb c1
            have c1 := HC.out _ HB.out
            go_wp2_with fail
            refine (HG.out _).mono ?_
            rintro e w3 ⟨rfl, hb⟩
            replace HB := Lib.hid (HB.out.trans (hb.mono HB.out.size))
            clear hb c1
            have c1 := HC.out _ HB.out
            go_wp2_with fail
            by_cases hd : depthV (bt x) = 1
            · have hf := HF.out
              rw [hd] at hf HD
              refine (HD.out _).mono ?_
              rintro e w4 ⟨rfl, hb⟩
              replace HB := Lib.hid (HB.out.trans (hb.mono HB.out.size))
              clear hb c1
              have h4 : ¬ (i : Int) < 4 := by
                have : decide (i < 4) = false := by simpa using hf.symm
                have := of_decide_eq_false this
                omega
              clear hf
              go_wp2_with fail
              go_ret
              exact ⟨rfl, HB.out⟩
            · have hd' : ¬ ((depthV (bt x) : Nat) : Int) = 1 := by omega
              clear HF
              generalize depthV (bt x) = dd at *
              refine (HD.out _).mono ?_
              rintro e w4 ⟨rfl, hb⟩
              replace HB := Lib.hid (HB.out.trans (hb.mono HB.out.size))
              clear hb c1
              go_wp2_with fail
              go_ret
              exact ⟨rfl, HB.out⟩
        | true =>
          have hf := HJ0.out
          rw [hok] at hf
          have e1 : p.data.toList = bt p := rfl
          have e2 : x.data.toList = bt x := rfl
          obtain ⟨g1, g2, g3, g4, g5⟩ := HG0.out hok
          have hf' := hf.symm
          simp only [Bool.and_eq_true, beq_iff_eq, decide_eq_true_eq] at hf'
          obtain ⟨⟨f1, f2⟩, f3⟩ := hf'
          rw [e2, f2] at HD
          rw [e1, e2, hok, g1] at HJ
          rw [e2, f1] at HG
          obtain ⟨P, hP⟩ : ∃ P : ByteArray, (⟨(jn ((l.take (i + 1)).map bt)).toArray⟩ : ByteArray) = P := ⟨_, rfl⟩
          have hPb : bt P = jn ((l.take (i + 1)).map bt) := by rw [← hP]
          rw [hP] at HJ
          rw [← hPb] at g2 g3 g4
          have hPs : P.size ≤ 200 := by
            have := jn_len g5
            rw [← hPb, ← text_size] at this
            simp only [List.length_map, List.length_take] at this
            omega
          have HDP := Lib.hid (fun w1 => depth_any P (by omega) w1)
          have HBP := Lib.hid (fun w1 => base_any P (by omega) w1)
          have HUP := Lib.hid (fun w1 => under_any P p (by omega) w1)
          have e3 : P.data.toList = bt P := rfl
          rw [e3, g2] at HDP
          rw [e3, g3] at HBP
          have hbx : (⟨(bt x).toArray⟩ : ByteArray) = x := Lib.mk_data x
          rw [hbx] at HBP
          rw [e3, e1] at HUP
          have kw : IntKind.i64.wrap ((i : Int) + 1) = (i : Int) + 1 := by rw [IntWalk.i64_in _ (by omega)]
          have k4 : (i : Int) < 4 := by omega
          have HREL : Hid (∀ wz, Below w.heap.size w wz → ∃ (j : Nat) (z : ByteArray), j ≤ l.length ∧ j ≤ 4 ∧ (.int .i64 ((i : Int) + 1) : Value) = .int .i64 j ∧ (.string P : Value) = .string z ∧ bt z = jn ((l.take j).map bt) ∧ (∀ n ∈ (l.take j).map bt, okName n = true ∧ 47 ∉ n) ∧ Below w.heap.size w wz) :=
            Lib.hid (fun wz hz => ⟨i + 1, P, by omega, by omega, by go_num, rfl, hPb, g5, hz⟩)
          have HG4 := Lib.hid g4
          clear hf f1 f2 f3 g1 g2 g3 g4 g5 hPb hP hok e1 e2 e3
          go_wp2_with fail
          refine (HJ.out _).mono ?_
          rintro e w2 ⟨rfl, hb⟩
          replace HB := Lib.hid (HB.out.trans (hb.mono HB.out.size))
          clear hb c1
          have c1 := HC.out _ HB.out
          go_wp2_with fail
          refine (HG.out _).mono ?_
          rintro e w3 ⟨rfl, hb⟩
          replace HB := Lib.hid (HB.out.trans (hb.mono HB.out.size))
          clear hb c1
          have c1 := HC.out _ HB.out
          go_wp2_with fail
          refine (HD.out _).mono ?_
          rintro e w4 ⟨rfl, hb⟩
          replace HB := Lib.hid (HB.out.trans (hb.mono HB.out.size))
          clear hb c1
          go_wp2_with fail
          by_cases h0 : i = 0
          · have hq := no_text (HPZ.out.2 h0)
            clear h0
            refine wp_region_org [(0, true), (2, true), (3, true), (1, false), (4, true), (5, true), (6, true), (8, true), (9, true), (10, true), (11, true), (7, false), (12, true), (13, true), (14, true), (15, true), (16, true), (17, true), (18, true), (19, true), (20, false), (21, true), (22, true), (23, true)] (by kernel_rfl) (by kernel_rfl) (by kernel_rfl) ?_
            replace HB := Lib.hid HB.out.drew
            generalize w4.drew = w14 at *
            simp only [pickOrs, List.getElem?_cons_zero, List.getElem?_cons_succ]
            refine org_pure (v := ?_) (by kernel_rfl) ?_ ?_
            rotate_left
            · intro w' hv; clear hv; go_simp; try with_reducible rfl
            try simp only [Act.put, List.setIfInBounds_toArray, List.set_cons_zero, List.set_cons_succ]
            refine org_pure (v := ?_) (by kernel_rfl) ?_ ?_
            rotate_left
            · intro w' hv; clear hv; go_simp; try with_reducible rfl
            try simp only [Act.put, List.setIfInBounds_toArray, List.set_cons_zero, List.set_cons_succ]
            refine org_pure (v := ?_) (by kernel_rfl) ?_ ?_
            rotate_left
            · intro w' hv; clear hv; go_simp; try with_reducible rfl
            try simp only [Act.put, List.setIfInBounds_toArray, List.set_cons_zero, List.set_cons_succ]
            refine org_step (by kernel_rfl) (fun K hK => ?_)
            go_wp2_with fail
            refine (HDP.out _).mono ?_
            rintro e wx ⟨rfl, hb⟩
            have HE := Lib.hid hb
            replace HB := Lib.hid (HB.out.trans (hb.mono HB.out.size))
            clear hb
            refine hK _ _ ⟨HE.out, ?_⟩
            clear hK HE
            try simp only [Act.put, List.setIfInBounds_toArray, List.set_cons_zero, List.set_cons_succ]
            refine org_pure (v := ?_) (by kernel_rfl) ?_ ?_
            rotate_left
            · intro w' hv; clear hv; go_simp; try with_reducible rfl
            try simp only [Act.put, List.setIfInBounds_toArray, List.set_cons_zero, List.set_cons_succ]
            refine org_pure (v := ?_) (by kernel_rfl) ?_ ?_
            rotate_left
            · intro w' hv; clear hv; go_simp; try with_reducible rfl
            try simp only [Act.put, List.setIfInBounds_toArray, List.set_cons_zero, List.set_cons_succ]
            refine org_pure (v := ?_) (by kernel_rfl) ?_ ?_
            rotate_left
            · intro w' hv; clear hv; go_simp; try with_reducible rfl
            try simp only [Act.put, List.setIfInBounds_toArray, List.set_cons_zero, List.set_cons_succ]
            refine org_pure (v := ?_) (by kernel_rfl) ?_ ?_
            rotate_left
            · intro w' hv; clear hv; go_simp; try with_reducible rfl
            try simp only [Act.put, List.setIfInBounds_toArray, List.set_cons_zero, List.set_cons_succ]
            refine org_pure (v := ?_) (by kernel_rfl) ?_ ?_
            rotate_left
            · intro w' hv; clear hv; go_simp; try with_reducible rfl
            try simp only [Act.put, List.setIfInBounds_toArray, List.set_cons_zero, List.set_cons_succ]
            refine org_pure (v := ?_) (by kernel_rfl) ?_ ?_
            rotate_left
            · intro w' hv; clear hv; go_simp; try with_reducible rfl
            try simp only [Act.put, List.setIfInBounds_toArray, List.set_cons_zero, List.set_cons_succ]
            refine org_pure (v := ?_) (by kernel_rfl) ?_ ?_
            rotate_left
            · intro w' hv; have cp := HC.out w' (HB.out.trans (Below.mono hv HB.out.size)); clear hv; go_simp; try with_reducible rfl
            try simp only [Act.put, List.setIfInBounds_toArray, List.set_cons_zero, List.set_cons_succ]
            refine org_step (by kernel_rfl) (fun K hK => ?_)
            go_wp2_with fail
            refine (HBP.out _).mono ?_
            rintro e wx ⟨rfl, hb⟩
            have HE := Lib.hid hb
            replace HB := Lib.hid (HB.out.trans (hb.mono HB.out.size))
            clear hb
            refine hK _ _ ⟨HE.out, ?_⟩
            clear hK HE
            try simp only [Act.put, List.setIfInBounds_toArray, List.set_cons_zero, List.set_cons_succ]
            refine org_pure (v := ?_) (by kernel_rfl) ?_ ?_
            rotate_left
            · intro w' hv; clear hv; go_simp; try with_reducible rfl
            try simp only [Act.put, List.setIfInBounds_toArray, List.set_cons_zero, List.set_cons_succ]
            refine org_pure (v := ?_) (by kernel_rfl) ?_ ?_
            rotate_left
            · intro w' hv; clear hv; go_simp; try with_reducible rfl
            try simp only [Act.put, List.setIfInBounds_toArray, List.set_cons_zero, List.set_cons_succ]
            refine org_pure (v := ?_) (by kernel_rfl) ?_ ?_
            rotate_left
            · intro w' hv; clear hv; go_simp; try with_reducible rfl
            try simp only [Act.put, List.setIfInBounds_toArray, List.set_cons_zero, List.set_cons_succ]
            refine org_pure (v := ?_) (by kernel_rfl) ?_ ?_
            rotate_left
            · intro w' hv; clear hv; go_simp; try with_reducible rfl
            try simp only [Act.put, List.setIfInBounds_toArray, List.set_cons_zero, List.set_cons_succ]
            refine org_pure (v := ?_) (by kernel_rfl) ?_ ?_
            rotate_left
            · intro w' hv; clear hv; go_simp; try with_reducible rfl
            try simp only [Act.put, List.setIfInBounds_toArray, List.set_cons_zero, List.set_cons_succ]
            refine org_pure (v := ?_) (by kernel_rfl) ?_ ?_
            rotate_left
            · intro w' hv; clear hv; go_simp; try with_reducible rfl
            try simp only [Act.put, List.setIfInBounds_toArray, List.set_cons_zero, List.set_cons_succ]
            refine org_skip (by kernel_rfl) ?_
            try simp only [Act.put, List.setIfInBounds_toArray, List.set_cons_zero, List.set_cons_succ]
            refine org_skip (by kernel_rfl) ?_
            try simp only [Act.put, List.setIfInBounds_toArray, List.set_cons_zero, List.set_cons_succ]
            refine org_pass (by kernel_rfl) ?_
            try simp only [Act.put, List.setIfInBounds_toArray, List.set_cons_zero, List.set_cons_succ]
            refine org_skip (by kernel_rfl) ?_
            try simp only [Act.put, List.setIfInBounds_toArray, List.set_cons_zero, List.set_cons_succ]
            refine org_pure (v := ?_) (by kernel_rfl) ?_ ?_
            rotate_left
            · intro w' hv; clear hv; go_simp; try with_reducible rfl
            try simp only [Act.put, List.setIfInBounds_toArray, List.set_cons_zero, List.set_cons_succ]
            refine org_pure (v := ?_) (by kernel_rfl) ?_ ?_
            rotate_left
            · intro w' hv; clear hv; go_simp; try with_reducible rfl
            try simp only [Act.put, List.setIfInBounds_toArray, List.set_cons_zero, List.set_cons_succ]
            refine org_nil ?_
            go_wp2_with fail
            go_roundw
            case rel => exact HREL.out _ HB.out
            case measure => simp [intOf]; omega
          · have hq := some_text (fun e => h0 (HPZ.out.1 e))
            have hu := HG4.out (fun e => h0 (HPE.out.1 e))
            rw [hu] at HUP
            clear hu h0
            refine wp_region_org [(0, true), (2, true), (3, true), (1, false), (4, true), (5, true), (6, true), (8, true), (9, true), (10, true), (11, true), (7, false), (12, true), (13, true), (14, true), (15, true), (16, true), (17, true), (18, true), (19, true), (20, false), (21, true), (22, true), (23, true)] (by kernel_rfl) (by kernel_rfl) (by kernel_rfl) ?_
            replace HB := Lib.hid HB.out.drew
            generalize w4.drew = w14 at *
            simp only [pickOrs, List.getElem?_cons_zero, List.getElem?_cons_succ]
            refine org_pure (v := ?_) (by kernel_rfl) ?_ ?_
            rotate_left
            · intro w' hv; clear hv; go_simp; try with_reducible rfl
            try simp only [Act.put, List.setIfInBounds_toArray, List.set_cons_zero, List.set_cons_succ]
            refine org_pure (v := ?_) (by kernel_rfl) ?_ ?_
            rotate_left
            · intro w' hv; clear hv; go_simp; try with_reducible rfl
            try simp only [Act.put, List.setIfInBounds_toArray, List.set_cons_zero, List.set_cons_succ]
            refine org_pure (v := ?_) (by kernel_rfl) ?_ ?_
            rotate_left
            · intro w' hv; clear hv; go_simp; try with_reducible rfl
            try simp only [Act.put, List.setIfInBounds_toArray, List.set_cons_zero, List.set_cons_succ]
            refine org_step (by kernel_rfl) (fun K hK => ?_)
            go_wp2_with fail
            refine (HDP.out _).mono ?_
            rintro e wx ⟨rfl, hb⟩
            have HE := Lib.hid hb
            replace HB := Lib.hid (HB.out.trans (hb.mono HB.out.size))
            clear hb
            refine hK _ _ ⟨HE.out, ?_⟩
            clear hK HE
            try simp only [Act.put, List.setIfInBounds_toArray, List.set_cons_zero, List.set_cons_succ]
            refine org_pure (v := ?_) (by kernel_rfl) ?_ ?_
            rotate_left
            · intro w' hv; clear hv; go_simp; try with_reducible rfl
            try simp only [Act.put, List.setIfInBounds_toArray, List.set_cons_zero, List.set_cons_succ]
            refine org_pure (v := ?_) (by kernel_rfl) ?_ ?_
            rotate_left
            · intro w' hv; clear hv; go_simp; try with_reducible rfl
            try simp only [Act.put, List.setIfInBounds_toArray, List.set_cons_zero, List.set_cons_succ]
            refine org_pure (v := ?_) (by kernel_rfl) ?_ ?_
            rotate_left
            · intro w' hv; clear hv; go_simp; try with_reducible rfl
            try simp only [Act.put, List.setIfInBounds_toArray, List.set_cons_zero, List.set_cons_succ]
            refine org_pure (v := ?_) (by kernel_rfl) ?_ ?_
            rotate_left
            · intro w' hv; clear hv; go_simp; try with_reducible rfl
            try simp only [Act.put, List.setIfInBounds_toArray, List.set_cons_zero, List.set_cons_succ]
            refine org_pure (v := ?_) (by kernel_rfl) ?_ ?_
            rotate_left
            · intro w' hv; clear hv; go_simp; try with_reducible rfl
            try simp only [Act.put, List.setIfInBounds_toArray, List.set_cons_zero, List.set_cons_succ]
            refine org_pure (v := ?_) (by kernel_rfl) ?_ ?_
            rotate_left
            · intro w' hv; clear hv; go_simp; try with_reducible rfl
            try simp only [Act.put, List.setIfInBounds_toArray, List.set_cons_zero, List.set_cons_succ]
            refine org_pure (v := ?_) (by kernel_rfl) ?_ ?_
            rotate_left
            · intro w' hv; have cp := HC.out w' (HB.out.trans (Below.mono hv HB.out.size)); clear hv; go_simp; try with_reducible rfl
            try simp only [Act.put, List.setIfInBounds_toArray, List.set_cons_zero, List.set_cons_succ]
            refine org_step (by kernel_rfl) (fun K hK => ?_)
            go_wp2_with fail
            refine (HBP.out _).mono ?_
            rintro e wx ⟨rfl, hb⟩
            have HE := Lib.hid hb
            replace HB := Lib.hid (HB.out.trans (hb.mono HB.out.size))
            clear hb
            refine hK _ _ ⟨HE.out, ?_⟩
            clear hK HE
            try simp only [Act.put, List.setIfInBounds_toArray, List.set_cons_zero, List.set_cons_succ]
            refine org_pure (v := ?_) (by kernel_rfl) ?_ ?_
            rotate_left
            · intro w' hv; clear hv; go_simp; try with_reducible rfl
            try simp only [Act.put, List.setIfInBounds_toArray, List.set_cons_zero, List.set_cons_succ]
            refine org_pure (v := ?_) (by kernel_rfl) ?_ ?_
            rotate_left
            · intro w' hv; clear hv; go_simp; try with_reducible rfl
            try simp only [Act.put, List.setIfInBounds_toArray, List.set_cons_zero, List.set_cons_succ]
            refine org_pure (v := ?_) (by kernel_rfl) ?_ ?_
            rotate_left
            · intro w' hv; clear hv; go_simp; try with_reducible rfl
            try simp only [Act.put, List.setIfInBounds_toArray, List.set_cons_zero, List.set_cons_succ]
            refine org_pure (v := ?_) (by kernel_rfl) ?_ ?_
            rotate_left
            · intro w' hv; clear hv; go_simp; try with_reducible rfl
            try simp only [Act.put, List.setIfInBounds_toArray, List.set_cons_zero, List.set_cons_succ]
            refine org_pure (v := ?_) (by kernel_rfl) ?_ ?_
            rotate_left
            · intro w' hv; clear hv; go_simp; try with_reducible rfl
            try simp only [Act.put, List.setIfInBounds_toArray, List.set_cons_zero, List.set_cons_succ]
            refine org_pure (v := ?_) (by kernel_rfl) ?_ ?_
            rotate_left
            · intro w' hv; clear hv; go_simp; try with_reducible rfl
            try simp only [Act.put, List.setIfInBounds_toArray, List.set_cons_zero, List.set_cons_succ]
            refine org_pure (v := ?_) (by kernel_rfl) ?_ ?_
            rotate_left
            · intro w' hv; clear hv; go_simp; try with_reducible rfl
            try simp only [Act.put, List.setIfInBounds_toArray, List.set_cons_zero, List.set_cons_succ]
            refine org_pure (v := ?_) (by kernel_rfl) ?_ ?_
            rotate_left
            · intro w' hv; clear hv; go_simp; try with_reducible rfl
            try simp only [Act.put, List.setIfInBounds_toArray, List.set_cons_zero, List.set_cons_succ]
            refine org_step (by kernel_rfl) (fun K hK => ?_)
            go_wp2_with fail
            refine (HUP.out _).mono ?_
            rintro e wx ⟨rfl, hb⟩
            have HE := Lib.hid hb
            replace HB := Lib.hid (HB.out.trans (hb.mono HB.out.size))
            clear hb
            refine hK _ _ ⟨HE.out, ?_⟩
            clear hK HE
            try simp only [Act.put, List.setIfInBounds_toArray, List.set_cons_zero, List.set_cons_succ]
            refine org_pure (v := ?_) (by kernel_rfl) ?_ ?_
            rotate_left
            · intro w' hv; clear hv; go_simp; try with_reducible rfl
            try simp only [Act.put, List.setIfInBounds_toArray, List.set_cons_zero, List.set_cons_succ]
            refine org_pure (v := ?_) (by kernel_rfl) ?_ ?_
            rotate_left
            · intro w' hv; clear hv; go_simp; try with_reducible rfl
            try simp only [Act.put, List.setIfInBounds_toArray, List.set_cons_zero, List.set_cons_succ]
            refine org_pure (v := ?_) (by kernel_rfl) ?_ ?_
            rotate_left
            · intro w' hv; clear hv; go_simp; try with_reducible rfl
            try simp only [Act.put, List.setIfInBounds_toArray, List.set_cons_zero, List.set_cons_succ]
            refine org_nil ?_
            go_wp2_with fail
            go_roundw
            case rel => exact HREL.out _ HB.out
            case measure => simp [intOf]; omega
    · have hil : i = l.length := by omega
      subst hil
      have kl : ¬ (l.length : Int) < (l.length : Int) := by omega
      go_wp2_with fail
      go_ret
      exact ⟨rfl, HB.out⟩
end Go.Proofs.YtflgncagoiigfaaDoor
