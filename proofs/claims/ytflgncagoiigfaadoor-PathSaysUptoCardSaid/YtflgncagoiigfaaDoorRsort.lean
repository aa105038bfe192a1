/- Contract: the document's own Sort. Conditions: at most 2^20 texts, of at most 2^20 bytes. -/
import Derived.Test.YtflgncagoiigfaaDoorTri
namespace Go.Proofs.YtflgncagoiigfaaDoor
open Go.RowKit
theorem srt_bad {L R : List Tx} {x : Tx} (h : Srt L R) (hx : okPath x = false) : Srt (L ++ [x]) R := ⟨h.1, fun y => by
  rw [h.2 y, List.mem_append, List.mem_singleton]
  constructor
  · exact fun ⟨h1, h2⟩ => ⟨.inl h1, h2⟩
  · rintro ⟨h1 | rfl, h2⟩
    · exact ⟨h1, h2⟩
    · rw [hx] at h2; cases h2⟩
theorem srt_same {L R : List Tx} {x : Tx} (h : Srt L R) (hx : x ∈ R) : Srt (L ++ [x]) R := ⟨h.1, fun y => by
  rw [List.mem_append, List.mem_singleton]
  constructor
  · intro hy; have := (h.2 y).1 hy; exact ⟨.inl this.1, this.2⟩
  · rintro ⟨h1 | rfl, h2⟩
    · exact (h.2 y).2 ⟨h1, h2⟩
    · exact hx⟩
theorem cmpL_back {x y : Tx} (h : cmpL x y = 1) : cmpL y x = -1 := by rw [cmpL_neg, h]
theorem before_all {R : List Tx} {x : Tx} {k : Nat} (h : Asc R) (hk : k < R.length) (h1 : cmpL R[k] x = -1) : ∀ y ∈ R.take (k + 1), cmpL y x = -1 := by
  intro y hy
  obtain ⟨j, hj, rfl⟩ := List.mem_take_iff_getElem.1 hy
  by_cases e : j = k
  · subst e; exact h1
  · have h2 := List.pairwise_iff_getElem.1 h j k (by omega) hk (by omega)
    have h3 := cmpL_trans (show cmpL R[j] R[k] ≤ 0 by omega) (show cmpL R[k] x ≤ 0 by omega)
    rcases cmpL_vals R[j] x with e1 | e1 | e1
    · exact e1
    · exfalso
      have e2 := cmpL_zero.1 e1
      rw [e2] at h2
      have := cmpL_neg x R[k]
      omega
    · omega
theorem after_more {R : List Tx} {x : Tx} {k : Nat} (hk : k < R.length) (h1 : cmpL R[k] x = 1) (h : ∀ y ∈ R.drop (k + 1), cmpL y x = 1) : ∀ y ∈ R.drop k, cmpL y x = 1 := by
  rw [List.drop_eq_getElem_cons hk]
  intro y hy
  rcases List.mem_cons.1 hy with rfl | hy
  · exact h1
  · exact h y hy
theorem srt_put {L R : List Tx} {x : Tx} {k : Nat} (h : Srt L R) (hx : okPath x = true) (ha : ∀ y ∈ R.drop k, cmpL y x = 1) (hb : ∀ y ∈ R.take k, cmpL y x = -1) : Srt (L ++ [x]) (R.take k ++ [x] ++ R.drop k) := by
  have hr : Asc (R.take k ++ R.drop k) := by rw [List.take_append_drop]; exact h.1
  obtain ⟨h1, h2, h3⟩ := List.pairwise_append.1 hr
  refine ⟨List.pairwise_append.2 ⟨List.pairwise_append.2 ⟨h1, by simp, fun y hy z hz => ?_⟩, h2, fun y hy z hz => ?_⟩, fun y => ?_⟩
  · rw [List.mem_singleton.1 hz]; exact hb y hy
  · rcases List.mem_append.1 hy with hy | hy
    · exact h3 y hy z hz
    · rw [List.mem_singleton.1 hy]; exact cmpL_back (ha z hz)
  · have hm : y ∈ R ↔ y ∈ R.take k ∨ y ∈ R.drop k := by rw [← List.mem_append, List.take_append_drop]
    rw [List.mem_append, List.mem_append, List.mem_append, List.mem_singleton]
    constructor
    · rintro ((h4 | rfl) | h4)
      · have := (h.2 y).1 (hm.2 (.inl h4)); exact ⟨.inl this.1, this.2⟩
      · exact ⟨.inr rfl, hx⟩
      · have := (h.2 y).1 (hm.2 (.inr h4)); exact ⟨.inl this.1, this.2⟩
    · rintro ⟨h4 | rfl, h5⟩
      · rcases hm.1 ((h.2 y).2 ⟨h4, h5⟩) with h6 | h6
        · exact .inl (.inl h6)
        · exact .inr h6
      · exact .inl (.inr rfl)
/-- As Ts, and a nil slice has no room. -/
def Tn (w : World) (v : Value) (L : List Tx) : Prop := ∃ q c, v = .slice q L.length c ∧ L.length ≤ c ∧ (q = none → c = 0) ∧ Sees w w.heap.size q (L.map encStr)
theorem Tn.ts {w : World} {v : Value} {L : List Tx} (h : Tn w v L) : Ts w v L := by
  obtain ⟨q, c, h1, h2, _, h3⟩ := h
  exact ⟨q, c, h1, h2, h3⟩
theorem Tn.keep {w w' : World} {v : Value} {L : List Tx} (h : Tn w v L) (hb : Below w.heap.size w w') : Tn w' v L := by
  obtain ⟨q, c, h1, h2, h3, h4⟩ := h
  exact ⟨q, c, h1, h2, h3, (h4.keep hb).more hb.size⟩
theorem Tn.nil (w : World) : Tn w (.slice none 0 0) [] := ⟨none, 0, rfl, Nat.le_refl _, fun _ => rfl, Sees.nil _ _ _⟩
theorem Tn.own {w : World} {base : Nat} {v : Value} {L : List Tx} (h : w.ownsRow base 9 1 v L.length (L.map encStr)) : Tn w v L := by
  rcases h.2 with ⟨rfl, h0⟩ | ⟨g, cap, cur, rfl, hb, hg, h1, _⟩
  · have : L = [] := List.eq_nil_of_length_eq_zero h0
    subst this
    exact Tn.nil w
  · refine ⟨_, cap, rfl, h1, fun e => by (cases e), fun _ => ⟨_, rfl, (Array.getElem?_eq_some_iff.1 hg).1, ?_⟩⟩
    exact h.cells (g := g) rfl
noncomputable def ops10 : Array Oper := regOf Tryd.f27.body 10
set_option maxRecDepth 100000 in
theorem chk10 : triB ops10 [1, 2, 3, 5, 6, 7, 8, 11, 12, 13] 0 4 9 [10, 14, 15] = true := by kernel_rfl
set_option maxHeartbeats 16000000 in
set_option maxRecDepth 100000 in
theorem rsort_any (L : List Tx) (q : Option Addr) (c : Nat) (hm : L.length ≤ 1048576) (hn : ∀ t ∈ L, t.length ≤ 1048576) (w : World) (hs : Sees w w.heap.size q (L.map encStr)) :
    Calls Tryd.prog 27 #[.slice q L.length c] w fun e w' => (∃ v R, e = .returned v ∧ Srt L R ∧ R.length ≤ L.length ∧ Ts w' v R) ∧ Below w.heap.size w w' := by
  have HS := Lib.hid hs
  have HN := Lib.hid hn
  have HNIL := Lib.hid (Tn.nil w)
  clear hs hn
  go_enter Tryd.func27, Tryd.ntmps27
  go_wp2_with fail
  go_loopw [3, 4, 5] (fun v vi _ wr => ∃ (R : List Tx) (i : Nat), i ≤ L.length ∧ vi = .int .i64 i ∧ Srt (L.take i) R ∧ R.length ≤ i ∧ Tn wr v R ∧ Below w.heap.size w wr) (fun _ vi _ _ => L.length - (intOf vi).toNat)
  case atStart => exact ⟨[], 0, by omega, rfl, ⟨by simp, by simp⟩, Nat.le_refl _, HNIL.out, Below.refl _ _⟩
  case round =>
    rename_i wr
    obtain ⟨R, i, hi, rfl, hsrt, hrl, ⟨qr, cr, rfl, hrc, hqr, htn⟩, hB⟩ := hrel
    have HSRT := Lib.hid hsrt
    have HTN := Lib.hid htn
    have HB := Lib.hid hB
    clear hsrt htn hB
    by_cases hlt : i < L.length
    · have hxs := HN.out L[i] (List.getElem_mem hlt)
      obtain ⟨ad, rfl, hap, hcell⟩ := HS.out.get (by rw [List.length_map]; omega)
      obtain ⟨x, hxe⟩ : ∃ x : ByteArray, x = ⟨L[i].toArray⟩ := ⟨_, rfl⟩
      have hxb : L[i] = x.data.toList := by rw [hxe]
      have HCX : Hid (∀ w', Below w.heap.size w w' → w'.cell? (ad.add i) = some (.string x)) := Lib.hid (fun w' hb => (hb.cell (by rw [add_block]; exact hap)).trans (hcell i (.string x) (by rw [List.getElem?_map, List.getElem?_eq_getElem hlt, hxe]; rfl)))
      have htk : L.take (i + 1) = L.take i ++ [x.data.toList] := by rw [List.take_add_one, List.getElem?_eq_getElem hlt, hxb]; rfl
      have HTK := Lib.hid htk
      rw [hxb] at hxs
      have hxz : x.size ≤ 1048576 := hxs
      have HG := Lib.hid (fun w1 => rgood_any x hxz w1)
      have kk : (i : Int) < (L.length : Int) := by omega
      have c1 := HCX.out wr HB.out
      clear hcell hap htk hxs hxe hxb
      cases hok : okPath x.data.toList with
      | false =>
        rw [hok] at HG
        have HNEW : Hid (Srt (L.take (i + 1)) R) := Lib.hid (by rw [HTK.out]; exact srt_bad HSRT.out hok)
        clear hok HTK HSRT
        go_wp2_with fail
        refine (HG.out _).mono ?_
        rintro e w1 ⟨rfl, hb⟩
        replace HTN := Lib.hid ((HTN.out.keep hb).more hb.size)
        replace HB := Lib.hid (HB.out.trans (hb.mono HB.out.size))
        clear hb c1
        go_wp2_with fail
        go_roundw
        case rel => exact ⟨R, i + 1, by omega, by go_num, HNEW.out, by omega, ⟨qr, cr, rfl, hrc, hqr, HTN.out⟩, HB.out⟩
        case measure => simp [intOf]; omega
      | true =>
        rw [hok] at HG
        have HOK := Lib.hid hok
        clear hok
        go_wp2_with fail
        refine (HG.out _).mono ?_
        rintro e w1 ⟨rfl, hb⟩
        replace HTN := Lib.hid ((HTN.out.keep hb).more hb.size)
        replace HB := Lib.hid (HB.out.trans (hb.mono HB.out.size))
        clear hb c1
        go_wp2_with fail
        go_loopw [5] (fun vk wk => ∃ k : Nat, k ≤ R.length ∧ vk = .int .i64 k ∧ (∀ y ∈ R.drop k, cmpL y x.data.toList = 1) ∧ Below w1.heap.size w1 wk) (fun vk _ => (intOf vk).toNat)
        case atStart => exact ⟨R.length, Nat.le_refl _, rfl, by simp, Below.refl _ _⟩
        case round =>
          obtain ⟨k, hk, rfl, haft, hbk⟩ := hrel
          have HAFT := Lib.hid haft
          have HBK := Lib.hid hbk
          replace HB := Lib.hid (HB.out.trans (hbk.mono HB.out.size))
          clear haft hbk
          by_cases hk0 : k = 0
          · subst hk0
            have HPUT : Hid (Srt (L.take (i + 1)) (R.take 0 ++ [x.data.toList] ++ R.drop 0)) := Lib.hid (by rw [HTK.out]; exact srt_put HSRT.out HOK.out HAFT.out (by simp))
            go_wp2_with fail
            refine wp_region_org [(0, true), (1, true), (2, true), (3, true), (4, true), (5, true), (6, true), (7, true), (8, true), (9, true), (10, true), (11, true), (12, false), (13, true), (14, true)] (by kernel_rfl) (by kernel_rfl) (by kernel_rfl) ?_
            replace HB := Lib.hid HB.out.drew
            replace HBK := Lib.hid HBK.out.drew
            generalize wr.drew = wd at *
            simp only [pickOrs, List.getElem?_cons_zero, List.getElem?_cons_succ]
            refine org_pure (v := ?_) (by kernel_rfl) ?_ ?_
            rotate_left
            · intro w' hv; clear hv; go_simp; try with_reducible rfl
            try simp only [Act.put, List.setIfInBounds_toArray, List.set_cons_zero, List.set_cons_succ]
            refine org_pure (v := ?_) (by kernel_rfl) ?_ ?_
            rotate_left
            · intro w' hv; clear hv; go_simp; try with_reducible rfl
            try simp only [Act.put, List.setIfInBounds_toArray, List.set_cons_zero, List.set_cons_succ]
            refine org_pure (v := ?_) (by kernel_rfl) ?_ ?_
            rotate_left
            · intro w' hv; clear hv; go_simp; try with_reducible rfl
            try simp only [Act.put, List.setIfInBounds_toArray, List.set_cons_zero, List.set_cons_succ]
            refine org_skip (by kernel_rfl) ?_
            try simp only [Act.put, List.setIfInBounds_toArray, List.set_cons_zero, List.set_cons_succ]
            refine org_skip (by kernel_rfl) ?_
            try simp only [Act.put, List.setIfInBounds_toArray, List.set_cons_zero, List.set_cons_succ]
            refine org_skip (by kernel_rfl) ?_
            try simp only [Act.put, List.setIfInBounds_toArray, List.set_cons_zero, List.set_cons_succ]
            refine org_skip (by kernel_rfl) ?_
            try simp only [Act.put, List.setIfInBounds_toArray, List.set_cons_zero, List.set_cons_succ]
            refine org_skip (by kernel_rfl) ?_
            try simp only [Act.put, List.setIfInBounds_toArray, List.set_cons_zero, List.set_cons_succ]
            refine org_skip (by kernel_rfl) ?_
            try simp only [Act.put, List.setIfInBounds_toArray, List.set_cons_zero, List.set_cons_succ]
            refine org_skip (by kernel_rfl) ?_
            try simp only [Act.put, List.setIfInBounds_toArray, List.set_cons_zero, List.set_cons_succ]
            refine org_skip (by kernel_rfl) ?_
            try simp only [Act.put, List.setIfInBounds_toArray, List.set_cons_zero, List.set_cons_succ]
            refine org_skip (by kernel_rfl) ?_
            try simp only [Act.put, List.setIfInBounds_toArray, List.set_cons_zero, List.set_cons_succ]
            refine org_pass (by kernel_rfl) ?_
            try simp only [Act.put, List.setIfInBounds_toArray, List.set_cons_zero, List.set_cons_succ]
            refine org_skip (by kernel_rfl) ?_
            try simp only [Act.put, List.setIfInBounds_toArray, List.set_cons_zero, List.set_cons_succ]
            refine org_pure (v := ?_) (by kernel_rfl) ?_ ?_
            rotate_left
            · intro w' hv; clear hv; go_simp; try with_reducible rfl
            try simp only [Act.put, List.setIfInBounds_toArray, List.set_cons_zero, List.set_cons_succ]
            refine org_nil ?_
            go_wp2_with fail
            refine wp_region_org [(0, true), (1, true), (2, true), (3, true), (4, true), (5, true), (6, true), (7, true), (8, true), (9, true), (10, true), (11, true), (12, true), (13, true)] (by kernel_rfl) (by kernel_rfl) (by kernel_rfl) ?_
            replace HB := Lib.hid HB.out.drew
            replace HBK := Lib.hid HBK.out.drew
            generalize wd.drew = we at *
            simp only [pickOrs, List.getElem?_cons_zero, List.getElem?_cons_succ]
            refine org_pure (v := ?_) (by kernel_rfl) ?_ ?_
            rotate_left
            · intro w' hv; clear hv; go_simp; try with_reducible rfl
            try simp only [Act.put, List.setIfInBounds_toArray, List.set_cons_zero, List.set_cons_succ]
            refine org_pure (v := ?_) (by kernel_rfl) ?_ ?_
            rotate_left
            · intro w' hv; clear hv; go_simp; try with_reducible rfl
            try simp only [Act.put, List.setIfInBounds_toArray, List.set_cons_zero, List.set_cons_succ]
            refine org_pure (v := ?_) (by kernel_rfl) ?_ ?_
            rotate_left
            · intro w' hv; clear hv; go_simp; try with_reducible rfl
            try simp only [Act.put, List.setIfInBounds_toArray, List.set_cons_zero, List.set_cons_succ]
            refine org_skip (by kernel_rfl) ?_
            try simp only [Act.put, List.setIfInBounds_toArray, List.set_cons_zero, List.set_cons_succ]
            refine org_skip (by kernel_rfl) ?_
            try simp only [Act.put, List.setIfInBounds_toArray, List.set_cons_zero, List.set_cons_succ]
            refine org_skip (by kernel_rfl) ?_
            try simp only [Act.put, List.setIfInBounds_toArray, List.set_cons_zero, List.set_cons_succ]
            refine org_skip (by kernel_rfl) ?_
            try simp only [Act.put, List.setIfInBounds_toArray, List.set_cons_zero, List.set_cons_succ]
            refine org_skip (by kernel_rfl) ?_
            try simp only [Act.put, List.setIfInBounds_toArray, List.set_cons_zero, List.set_cons_succ]
            refine org_skip (by kernel_rfl) ?_
            try simp only [Act.put, List.setIfInBounds_toArray, List.set_cons_zero, List.set_cons_succ]
            refine org_skip (by kernel_rfl) ?_
            try simp only [Act.put, List.setIfInBounds_toArray, List.set_cons_zero, List.set_cons_succ]
            refine org_skip (by kernel_rfl) ?_
            try simp only [Act.put, List.setIfInBounds_toArray, List.set_cons_zero, List.set_cons_succ]
            refine org_skip (by kernel_rfl) ?_
            try simp only [Act.put, List.setIfInBounds_toArray, List.set_cons_zero, List.set_cons_succ]
            refine org_skip (by kernel_rfl) ?_
            try simp only [Act.put, List.setIfInBounds_toArray, List.set_cons_zero, List.set_cons_succ]
            refine org_pure (v := ?_) (by kernel_rfl) ?_ ?_
            rotate_left
            · intro w' hv; clear hv; go_simp; try with_reducible rfl
            try simp only [Act.put, List.setIfInBounds_toArray, List.set_cons_zero, List.set_cons_succ]
            refine org_nil ?_
            go_wp2_with fail
            refine wp_region_tri [1, 2, 3, 5, 6, 7, 8, 11, 12, 13] 0 4 9 [10, 14, 15] _ _ _ rfl rfl rfl rfl rfl rfl (by decide) (by decide) (by intro d h; cases h; decide) (by intro d h; cases h; decide) (by kernel_rfl) (by kernel_rfl) _ chk10 rfl ?_
            replace HB := Lib.hid HB.out.drew
            replace HBK := Lib.hid HBK.out.drew
            generalize we.drew = wf at *
            simp only [pickPur, List.getElem?_cons_zero, List.getElem?_cons_succ]
            refine pur_step (v := ?_) (by kernel_rfl) ?_ ?_
            rotate_left
            · intro w' hv; clear hv; go_simp; try with_reducible rfl
            try simp only [Act.put, List.setIfInBounds_toArray, List.set_cons_zero, List.set_cons_succ]
            refine pur_step (v := ?_) (by kernel_rfl) ?_ ?_
            rotate_left
            · intro w' hv; clear hv; go_simp; try with_reducible rfl
            try simp only [Act.put, List.setIfInBounds_toArray, List.set_cons_zero, List.set_cons_succ]
            refine pur_step (v := .slice qr 0 cr) (by kernel_rfl) (fun w' hv => ?_) ?_
            · exact slice_head (.tmp 52) (.tmp 53) qr R.length cr 0 rfl rfl rfl (by omega) (by omega)
            try simp only [Act.put, List.setIfInBounds_toArray, List.set_cons_zero, List.set_cons_succ]
            refine pur_step (v := ?_) (by kernel_rfl) ?_ ?_
            rotate_left
            · intro w' hv; clear hv; go_simp; try with_reducible rfl
            try simp only [Act.put, List.setIfInBounds_toArray, List.set_cons_zero, List.set_cons_succ]
            refine pur_step (v := ?_) (by kernel_rfl) ?_ ?_
            rotate_left
            · intro w' hv; clear hv; go_simp; try with_reducible rfl
            try simp only [Act.put, List.setIfInBounds_toArray, List.set_cons_zero, List.set_cons_succ]
            refine pur_step (v := ?_) (by kernel_rfl) ?_ ?_
            rotate_left
            · intro w' hv; clear hv; go_simp; try with_reducible rfl
            try simp only [Act.put, List.setIfInBounds_toArray, List.set_cons_zero, List.set_cons_succ]
            refine pur_step (v := ?_) (by kernel_rfl) ?_ ?_
            rotate_left
            · intro w' hv; have cp := HCX.out w' (HB.out.trans (Below.mono hv HB.out.size)); clear hv; go_simp; try with_reducible rfl
            try simp only [Act.put, List.setIfInBounds_toArray, List.set_cons_zero, List.set_cons_succ]
            refine pur_step (v := ?_) (by kernel_rfl) ?_ ?_
            rotate_left
            · intro w' hv; clear hv; go_simp; try with_reducible rfl
            try simp only [Act.put, List.setIfInBounds_toArray, List.set_cons_zero, List.set_cons_succ]
            refine pur_step (v := ?_) (by kernel_rfl) ?_ ?_
            rotate_left
            · intro w' hv; clear hv; go_simp; try with_reducible rfl
            try simp only [Act.put, List.setIfInBounds_toArray, List.set_cons_zero, List.set_cons_succ]
            refine pur_step (v := .slice (if cr = 0 then qr else qr.map (·.add 0)) (R.length - 0) (cr - 0)) (by kernel_rfl) (fun w' hv => ?_) ?_
            · exact slice_tail (.tmp 62) (.tmp 63) qr R.length cr 0 rfl rfl rfl (by omega)
            try simp only [Act.put, List.setIfInBounds_toArray, List.set_cons_zero, List.set_cons_succ]
            refine pur_nil ?_
            have HRS : Hid (Sees wf wf.heap.size qr (R.map encStr)) := Lib.hid ((HTN.out.keep HBK.out).more HBK.out.size)
            refine tri_goal (.tmp 51) (.tmp 54) (.tmp 59) rfl rfl rfl qr (R.take 0) 0 cr x (by rw [List.length_take]; omega) hqr (by omega) (by rw [List.map_take]; exact HRS.out.head 0) (fun _ => rfl) (fun _ _ => rfl) (fun _ => rfl) (fun _ _ => rfl) rfl (fun _ => rfl) (fun _ _ => rfl) ?_
            rintro v0 v4 v9 w4 hE hown ⟨g9, rfl, hc9⟩
            try simp only [Act.put, List.setIfInBounds_toArray, List.set_cons_zero, List.set_cons_succ]
            refine ch_step rfl _ (leaves_more (.tmp 55) (.tmp 60) rfl v4 0 _ rfl hown hE (some ⟨g9, 0, none⟩) [x.data.toList] 1 1 _ rfl rfl (fun h => by cases h) (Sees.one (t := x.data.toList) hc9) (by omega)) ?_
            intro v5 w5 hE5 ho5
            try simp only [Act.put, List.setIfInBounds_toArray, List.set_cons_zero, List.set_cons_succ]
            refine ch_step rfl _ (leaves_more (.tmp 61) (.tmp 64) rfl v5 (0 + 1) _ rfl ho5 hE5 (if cr = 0 then qr else qr.map (·.add 0)) (R.drop 0) (R.length - 0) (cr - 0) wf.heap.size (by rw [List.length_drop]) rfl (fun h => by
              split at h
              · omega
              · have := hqr (by simpa using h); omega) (by rw [List.map_drop]; exact (HRS.out.keep hE5).cut (by rw [List.length_map]; exact hrc)) (by omega)) ?_
            intro v6 w6 hE6 ho6
            try simp only [Act.put, List.setIfInBounds_toArray, List.set_cons_zero, List.set_cons_succ]
            refine ch_pure (v := v6) rfl hE6 (by go_simp; try with_reducible rfl) ?_
            try simp only [Act.put, List.setIfInBounds_toArray, List.set_cons_zero, List.set_cons_succ]
            refine ch_nil ?_
            replace HB := Lib.hid (HB.out.trans (hE6.mono HB.out.size))
            have HO6 := Lib.hid ho6
            clear hE hown hc9 hE5 ho5 hE6 ho6 HRS HBK
            generalize (if cr = 0 then qr else qr.map (·.add 0)) = qt
            go_wp2_with fail
            go_roundw
            case rel =>
              have ho := HO6.out
              have he : (List.map encStr (R.take 0) ++ List.map encStr [x.data.toList] ++ List.map encStr (R.drop 0)) = List.map encStr (R.take 0 ++ [x.data.toList] ++ R.drop 0) := by simp
              rw [he] at ho
              have hl : (R.take 0 ++ [x.data.toList] ++ R.drop 0).length = 0 + 1 + (R.length - 0) := by simp; omega
              exact ⟨R.take 0 ++ [x.data.toList] ++ R.drop 0, i + 1, by omega, by go_num, HPUT.out, by rw [hl]; omega, Tn.own (by rw [hl]; exact ho), HB.out⟩
            case measure => simp [intOf]; omega
          · obtain ⟨j, hkj⟩ : ∃ j, k = j + 1 := ⟨k - 1, by omega⟩
            have hjl : j < R.length := by omega
            obtain ⟨y, hye⟩ : ∃ y : ByteArray, y = ⟨R[j].toArray⟩ := ⟨_, rfl⟩
            have hyb : R[j] = y.data.toList := by rw [hye]
            obtain ⟨ar, hqe, har, hcr⟩ := HTN.out.get (by rw [List.length_map]; omega)
            subst hqe
            have HCR : Hid (∀ w', Below w1.heap.size w1 w' → w'.cell? (ar.add j) = some (.string y)) := Lib.hid (fun w' hb => (hb.cell (by rw [add_block]; exact har)).trans (hcr j (.string y) (by rw [List.getElem?_map, List.getElem?_eq_getElem hjl, hye]; rfl)))
            have hyz : y.size ≤ 1048576 := by
              have h1 := (HSRT.out.2 R[j]).1 (List.getElem_mem hjl)
              have h2 := HN.out R[j] (List.mem_of_mem_take h1.1)
              rw [hyb] at h2
              exact h2
            have HCM := Lib.hid (fun w1 => rcmp_any y x hyz hxz w1)
            have kj : (j : Int) < (R.length : Int) := by omega
            have kp : (0 : Int) < (k : Int) := by omega
            have kpn : 0 < k := by omega
            have hlx : x.toList = x.data.toList := Lib.toList_data x
            have hly : y.toList = y.data.toList := Lib.toList_data y
            have kw : IntKind.i64.wrap ((k : Int) - 1) = (j : Int) := by rw [IntWalk.i64_in _ (by omega)]; omega
            have HYB := Lib.hid hyb
            have HAFT3 : Hid (∀ z ∈ R.drop (j + 1), cmpL z x.data.toList = 1) := Lib.hid (by rw [← hkj]; exact HAFT.out)
            have HKJ := Lib.hid hkj
            clear hye har hcr hyb hkj hk0
            generalize hv : cmpL y.data.toList x.data.toList = V at *
            by_cases hV : 0 < V
            · have HAFT2 : Hid (∀ z ∈ R.drop j, cmpL z x.data.toList = 1) := Lib.hid (after_more hjl (by rw [HYB.out, hv]; have := cmpL_vals y.data.toList x.data.toList; omega) HAFT3.out)
              have hjr : j ≤ R.length := by omega
              have hjk : j < k := by have := HKJ.out; omega
              clear hv
              go_wp2_with fail
              refine wp_region_org [(0, true), (1, true), (2, true), (3, true), (4, true), (5, true), (6, true), (7, true), (8, true), (9, true), (10, true), (11, true), (12, false), (13, true), (14, true)] (by kernel_rfl) (by kernel_rfl) (by kernel_rfl) ?_
              replace HB := Lib.hid HB.out.drew
              replace HBK := Lib.hid HBK.out.drew
              generalize wr.drew = wd at *
              simp only [pickOrs, List.getElem?_cons_zero, List.getElem?_cons_succ]
              refine org_pure (v := ?_) (by kernel_rfl) ?_ ?_
              rotate_left
              · intro w' hv; clear hv; go_simp; try with_reducible rfl
              try simp only [Act.put, List.setIfInBounds_toArray, List.set_cons_zero, List.set_cons_succ]
              refine org_pure (v := ?_) (by kernel_rfl) ?_ ?_
              rotate_left
              · intro w' hv; clear hv; go_simp; try with_reducible rfl
              try simp only [Act.put, List.setIfInBounds_toArray, List.set_cons_zero, List.set_cons_succ]
              refine org_pure (v := ?_) (by kernel_rfl) ?_ ?_
              rotate_left
              · intro w' hv; clear hv; go_simp; try with_reducible rfl
              try simp only [Act.put, List.setIfInBounds_toArray, List.set_cons_zero, List.set_cons_succ]
              refine org_pure (v := ?_) (by kernel_rfl) ?_ ?_
              rotate_left
              · intro w' hv; clear hv; go_simp; try with_reducible rfl
              try simp only [Act.put, List.setIfInBounds_toArray, List.set_cons_zero, List.set_cons_succ]
              refine org_pure (v := ?_) (by kernel_rfl) ?_ ?_
              rotate_left
              · intro w' hv; clear hv; go_simp; try with_reducible rfl
              try simp only [Act.put, List.setIfInBounds_toArray, List.set_cons_zero, List.set_cons_succ]
              refine org_pure (v := ?_) (by kernel_rfl) ?_ ?_
              rotate_left
              · intro w' hv; clear hv; go_simp; try with_reducible rfl
              try simp only [Act.put, List.setIfInBounds_toArray, List.set_cons_zero, List.set_cons_succ]
              refine org_pure (v := ?_) (by kernel_rfl) ?_ ?_
              rotate_left
              · intro w' hv; clear hv; go_simp; try with_reducible rfl
              try simp only [Act.put, List.setIfInBounds_toArray, List.set_cons_zero, List.set_cons_succ]
              refine org_pure (v := ?_) (by kernel_rfl) ?_ ?_
              rotate_left
              · intro w' hv; have cr := HCR.out w' (HBK.out.trans (Below.mono hv HBK.out.size)); clear hv; go_simp; try with_reducible rfl
              try simp only [Act.put, List.setIfInBounds_toArray, List.set_cons_zero, List.set_cons_succ]
              refine org_pure (v := ?_) (by kernel_rfl) ?_ ?_
              rotate_left
              · intro w' hv; clear hv; go_simp; try with_reducible rfl
              try simp only [Act.put, List.setIfInBounds_toArray, List.set_cons_zero, List.set_cons_succ]
              refine org_pure (v := ?_) (by kernel_rfl) ?_ ?_
              rotate_left
              · intro w' hv; clear hv; go_simp; try with_reducible rfl
              try simp only [Act.put, List.setIfInBounds_toArray, List.set_cons_zero, List.set_cons_succ]
              refine org_pure (v := ?_) (by kernel_rfl) ?_ ?_
              rotate_left
              · intro w' hv; clear hv; go_simp; try with_reducible rfl
              try simp only [Act.put, List.setIfInBounds_toArray, List.set_cons_zero, List.set_cons_succ]
              refine org_pure (v := ?_) (by kernel_rfl) ?_ ?_
              rotate_left
              · intro w' hv; have cp := HCX.out w' (HB.out.trans (Below.mono hv HB.out.size)); clear hv; go_simp; try with_reducible rfl
              try simp only [Act.put, List.setIfInBounds_toArray, List.set_cons_zero, List.set_cons_succ]
              refine org_step (by kernel_rfl) (fun K hK => ?_)
              go_wp2_with fail
              refine (HCM.out _).mono ?_
              rintro e wx ⟨rfl, hb⟩
              have HE := Lib.hid hb
              replace HB := Lib.hid (HB.out.trans (hb.mono HB.out.size))
              replace HBK := Lib.hid (HBK.out.trans (hb.mono HBK.out.size))
              clear hb
              refine hK _ _ ⟨HE.out, ?_⟩
              clear hK HE
              try simp only [Act.put, List.setIfInBounds_toArray, List.set_cons_zero, List.set_cons_succ]
              refine org_pure (v := ?_) (by kernel_rfl) ?_ ?_
              rotate_left
              · intro w' hv; clear hv; go_simp; try with_reducible rfl
              try simp only [Act.put, List.setIfInBounds_toArray, List.set_cons_zero, List.set_cons_succ]
              refine org_pure (v := ?_) (by kernel_rfl) ?_ ?_
              rotate_left
              · intro w' hv; clear hv; go_simp; try with_reducible rfl
              try simp only [Act.put, List.setIfInBounds_toArray, List.set_cons_zero, List.set_cons_succ]
              refine org_nil ?_
              go_wp2_with fail
              go_roundw
              case rel => exact ⟨j, hjr, by go_num, HAFT2.out, HBK.out⟩
              case measure => simp [intOf]; omega
            · by_cases hxy : (y.data.toList == x.data.toList) = true
              · have HNEW : Hid (Srt (L.take (i + 1)) R) := Lib.hid (by rw [HTK.out]; exact srt_same HSRT.out (by rw [← beq_iff_eq.1 hxy, ← HYB.out]; exact List.getElem_mem hjl))
                clear hv
                go_wp2_with fail
                refine wp_region_org [(0, true), (1, true), (2, true), (3, true), (4, true), (5, true), (6, true), (7, true), (8, true), (9, true), (10, true), (11, true), (12, false), (13, true), (14, true)] (by kernel_rfl) (by kernel_rfl) (by kernel_rfl) ?_
                replace HB := Lib.hid HB.out.drew
                replace HBK := Lib.hid HBK.out.drew
                generalize wr.drew = wd at *
                simp only [pickOrs, List.getElem?_cons_zero, List.getElem?_cons_succ]
                refine org_pure (v := ?_) (by kernel_rfl) ?_ ?_
                rotate_left
                · intro w' hv; clear hv; go_simp; try with_reducible rfl
                try simp only [Act.put, List.setIfInBounds_toArray, List.set_cons_zero, List.set_cons_succ]
                refine org_pure (v := ?_) (by kernel_rfl) ?_ ?_
                rotate_left
                · intro w' hv; clear hv; go_simp; try with_reducible rfl
                try simp only [Act.put, List.setIfInBounds_toArray, List.set_cons_zero, List.set_cons_succ]
                refine org_pure (v := ?_) (by kernel_rfl) ?_ ?_
                rotate_left
                · intro w' hv; clear hv; go_simp; try with_reducible rfl
                try simp only [Act.put, List.setIfInBounds_toArray, List.set_cons_zero, List.set_cons_succ]
                refine org_pure (v := ?_) (by kernel_rfl) ?_ ?_
                rotate_left
                · intro w' hv; clear hv; go_simp; try with_reducible rfl
                try simp only [Act.put, List.setIfInBounds_toArray, List.set_cons_zero, List.set_cons_succ]
                refine org_pure (v := ?_) (by kernel_rfl) ?_ ?_
                rotate_left
                · intro w' hv; clear hv; go_simp; try with_reducible rfl
                try simp only [Act.put, List.setIfInBounds_toArray, List.set_cons_zero, List.set_cons_succ]
                refine org_pure (v := ?_) (by kernel_rfl) ?_ ?_
                rotate_left
                · intro w' hv; clear hv; go_simp; try with_reducible rfl
                try simp only [Act.put, List.setIfInBounds_toArray, List.set_cons_zero, List.set_cons_succ]
                refine org_pure (v := ?_) (by kernel_rfl) ?_ ?_
                rotate_left
                · intro w' hv; clear hv; go_simp; try with_reducible rfl
                try simp only [Act.put, List.setIfInBounds_toArray, List.set_cons_zero, List.set_cons_succ]
                refine org_pure (v := ?_) (by kernel_rfl) ?_ ?_
                rotate_left
                · intro w' hv; have cr := HCR.out w' (HBK.out.trans (Below.mono hv HBK.out.size)); clear hv; go_simp; try with_reducible rfl
                try simp only [Act.put, List.setIfInBounds_toArray, List.set_cons_zero, List.set_cons_succ]
                refine org_pure (v := ?_) (by kernel_rfl) ?_ ?_
                rotate_left
                · intro w' hv; clear hv; go_simp; try with_reducible rfl
                try simp only [Act.put, List.setIfInBounds_toArray, List.set_cons_zero, List.set_cons_succ]
                refine org_pure (v := ?_) (by kernel_rfl) ?_ ?_
                rotate_left
                · intro w' hv; clear hv; go_simp; try with_reducible rfl
                try simp only [Act.put, List.setIfInBounds_toArray, List.set_cons_zero, List.set_cons_succ]
                refine org_pure (v := ?_) (by kernel_rfl) ?_ ?_
                rotate_left
                · intro w' hv; clear hv; go_simp; try with_reducible rfl
                try simp only [Act.put, List.setIfInBounds_toArray, List.set_cons_zero, List.set_cons_succ]
                refine org_pure (v := ?_) (by kernel_rfl) ?_ ?_
                rotate_left
                · intro w' hv; have cp := HCX.out w' (HB.out.trans (Below.mono hv HB.out.size)); clear hv; go_simp; try with_reducible rfl
                try simp only [Act.put, List.setIfInBounds_toArray, List.set_cons_zero, List.set_cons_succ]
                refine org_step (by kernel_rfl) (fun K hK => ?_)
                go_wp2_with fail
                refine (HCM.out _).mono ?_
                rintro e wx ⟨rfl, hb⟩
                have HE := Lib.hid hb
                replace HB := Lib.hid (HB.out.trans (hb.mono HB.out.size))
                replace HBK := Lib.hid (HBK.out.trans (hb.mono HBK.out.size))
                clear hb
                refine hK _ _ ⟨HE.out, ?_⟩
                clear hK HE
                try simp only [Act.put, List.setIfInBounds_toArray, List.set_cons_zero, List.set_cons_succ]
                refine org_pure (v := ?_) (by kernel_rfl) ?_ ?_
                rotate_left
                · intro w' hv; clear hv; go_simp; try with_reducible rfl
                try simp only [Act.put, List.setIfInBounds_toArray, List.set_cons_zero, List.set_cons_succ]
                refine org_pure (v := ?_) (by kernel_rfl) ?_ ?_
                rotate_left
                · intro w' hv; clear hv; go_simp; try with_reducible rfl
                try simp only [Act.put, List.setIfInBounds_toArray, List.set_cons_zero, List.set_cons_succ]
                refine org_nil ?_
                go_wp2_with fail
                refine wp_region_org [(0, true), (1, true), (2, true), (3, true), (4, true), (5, true), (6, true), (7, true), (8, true), (9, true), (10, true), (11, true), (12, true), (13, true)] (by kernel_rfl) (by kernel_rfl) (by kernel_rfl) ?_
                replace HB := Lib.hid HB.out.drew
                replace HBK := Lib.hid HBK.out.drew
                generalize wx.drew = we at *
                simp only [pickOrs, List.getElem?_cons_zero, List.getElem?_cons_succ]
                refine org_pure (v := ?_) (by kernel_rfl) ?_ ?_
                rotate_left
                · intro w' hv; clear hv; go_simp; try with_reducible rfl
                try simp only [Act.put, List.setIfInBounds_toArray, List.set_cons_zero, List.set_cons_succ]
                refine org_pure (v := ?_) (by kernel_rfl) ?_ ?_
                rotate_left
                · intro w' hv; clear hv; go_simp; try with_reducible rfl
                try simp only [Act.put, List.setIfInBounds_toArray, List.set_cons_zero, List.set_cons_succ]
                refine org_pure (v := ?_) (by kernel_rfl) ?_ ?_
                rotate_left
                · intro w' hv; clear hv; go_simp; try with_reducible rfl
                try simp only [Act.put, List.setIfInBounds_toArray, List.set_cons_zero, List.set_cons_succ]
                refine org_pure (v := ?_) (by kernel_rfl) ?_ ?_
                rotate_left
                · intro w' hv; clear hv; go_simp; try with_reducible rfl
                try simp only [Act.put, List.setIfInBounds_toArray, List.set_cons_zero, List.set_cons_succ]
                refine org_pure (v := ?_) (by kernel_rfl) ?_ ?_
                rotate_left
                · intro w' hv; clear hv; go_simp; try with_reducible rfl
                try simp only [Act.put, List.setIfInBounds_toArray, List.set_cons_zero, List.set_cons_succ]
                refine org_pure (v := ?_) (by kernel_rfl) ?_ ?_
                rotate_left
                · intro w' hv; clear hv; go_simp; try with_reducible rfl
                try simp only [Act.put, List.setIfInBounds_toArray, List.set_cons_zero, List.set_cons_succ]
                refine org_pure (v := ?_) (by kernel_rfl) ?_ ?_
                rotate_left
                · intro w' hv; clear hv; go_simp; try with_reducible rfl
                try simp only [Act.put, List.setIfInBounds_toArray, List.set_cons_zero, List.set_cons_succ]
                refine org_pure (v := ?_) (by kernel_rfl) ?_ ?_
                rotate_left
                · intro w' hv; have cr := HCR.out w' (HBK.out.trans (Below.mono hv HBK.out.size)); clear hv; go_simp; try with_reducible rfl
                try simp only [Act.put, List.setIfInBounds_toArray, List.set_cons_zero, List.set_cons_succ]
                refine org_pure (v := ?_) (by kernel_rfl) ?_ ?_
                rotate_left
                · intro w' hv; clear hv; go_simp; try with_reducible rfl
                try simp only [Act.put, List.setIfInBounds_toArray, List.set_cons_zero, List.set_cons_succ]
                refine org_pure (v := ?_) (by kernel_rfl) ?_ ?_
                rotate_left
                · intro w' hv; clear hv; go_simp; try with_reducible rfl
                try simp only [Act.put, List.setIfInBounds_toArray, List.set_cons_zero, List.set_cons_succ]
                refine org_pure (v := ?_) (by kernel_rfl) ?_ ?_
                rotate_left
                · intro w' hv; clear hv; go_simp; try with_reducible rfl
                try simp only [Act.put, List.setIfInBounds_toArray, List.set_cons_zero, List.set_cons_succ]
                refine org_pure (v := ?_) (by kernel_rfl) ?_ ?_
                rotate_left
                · intro w' hv; have cp := HCX.out w' (HB.out.trans (Below.mono hv HB.out.size)); clear hv; go_simp; try with_reducible rfl
                try simp only [Act.put, List.setIfInBounds_toArray, List.set_cons_zero, List.set_cons_succ]
                refine org_pure (v := ?_) (by kernel_rfl) ?_ ?_
                rotate_left
                · intro w' hv; clear hv; go_simp; try with_reducible rfl
                try simp only [Act.put, List.setIfInBounds_toArray, List.set_cons_zero, List.set_cons_succ]
                refine org_pure (v := ?_) (by kernel_rfl) ?_ ?_
                rotate_left
                · intro w' hv; clear hv; go_simp; try with_reducible rfl
                try simp only [Act.put, List.setIfInBounds_toArray, List.set_cons_zero, List.set_cons_succ]
                refine org_nil ?_
                go_wp2_with fail
                go_roundw
                case rel => exact ⟨R, i + 1, by omega, by go_num, HNEW.out, by omega, ⟨_, cr, rfl, hrc, hqr, (HTN.out.keep HBK.out).more HBK.out.size⟩, HB.out⟩
                case measure => simp [intOf]; omega
              · replace hxy : (y.data.toList == x.data.toList) = false := by simpa using hxy
                have HPUT : Hid (Srt (L.take (i + 1)) (R.take k ++ [x.data.toList] ++ R.drop k)) := Lib.hid (by
                  rw [HTK.out, HKJ.out]
                  refine srt_put HSRT.out HOK.out HAFT3.out (before_all HSRT.out.1 hjl ?_)
                  rw [HYB.out, hv]
                  have h1 := cmpL_vals y.data.toList x.data.toList
                  have h2 : ¬ cmpL y.data.toList x.data.toList = 0 := fun e => by
                    have := cmpL_zero.1 e
                    rw [this] at hxy
                    simp at hxy
                  omega)
                clear hv
                go_wp2_with fail
                refine wp_region_org [(0, true), (1, true), (2, true), (3, true), (4, true), (5, true), (6, true), (7, true), (8, true), (9, true), (10, true), (11, true), (12, false), (13, true), (14, true)] (by kernel_rfl) (by kernel_rfl) (by kernel_rfl) ?_
                replace HB := Lib.hid HB.out.drew
                replace HBK := Lib.hid HBK.out.drew
                generalize wr.drew = wd at *
                simp only [pickOrs, List.getElem?_cons_zero, List.getElem?_cons_succ]
                refine org_pure (v := ?_) (by kernel_rfl) ?_ ?_
                rotate_left
                · intro w' hv; clear hv; go_simp; try with_reducible rfl
                try simp only [Act.put, List.setIfInBounds_toArray, List.set_cons_zero, List.set_cons_succ]
                refine org_pure (v := ?_) (by kernel_rfl) ?_ ?_
                rotate_left
                · intro w' hv; clear hv; go_simp; try with_reducible rfl
                try simp only [Act.put, List.setIfInBounds_toArray, List.set_cons_zero, List.set_cons_succ]
                refine org_pure (v := ?_) (by kernel_rfl) ?_ ?_
                rotate_left
                · intro w' hv; clear hv; go_simp; try with_reducible rfl
                try simp only [Act.put, List.setIfInBounds_toArray, List.set_cons_zero, List.set_cons_succ]
                refine org_pure (v := ?_) (by kernel_rfl) ?_ ?_
                rotate_left
                · intro w' hv; clear hv; go_simp; try with_reducible rfl
                try simp only [Act.put, List.setIfInBounds_toArray, List.set_cons_zero, List.set_cons_succ]
                refine org_pure (v := ?_) (by kernel_rfl) ?_ ?_
                rotate_left
                · intro w' hv; clear hv; go_simp; try with_reducible rfl
                try simp only [Act.put, List.setIfInBounds_toArray, List.set_cons_zero, List.set_cons_succ]
                refine org_pure (v := ?_) (by kernel_rfl) ?_ ?_
                rotate_left
                · intro w' hv; clear hv; go_simp; try with_reducible rfl
                try simp only [Act.put, List.setIfInBounds_toArray, List.set_cons_zero, List.set_cons_succ]
                refine org_pure (v := ?_) (by kernel_rfl) ?_ ?_
                rotate_left
                · intro w' hv; clear hv; go_simp; try with_reducible rfl
                try simp only [Act.put, List.setIfInBounds_toArray, List.set_cons_zero, List.set_cons_succ]
                refine org_pure (v := ?_) (by kernel_rfl) ?_ ?_
                rotate_left
                · intro w' hv; have cr := HCR.out w' (HBK.out.trans (Below.mono hv HBK.out.size)); clear hv; go_simp; try with_reducible rfl
                try simp only [Act.put, List.setIfInBounds_toArray, List.set_cons_zero, List.set_cons_succ]
                refine org_pure (v := ?_) (by kernel_rfl) ?_ ?_
                rotate_left
                · intro w' hv; clear hv; go_simp; try with_reducible rfl
                try simp only [Act.put, List.setIfInBounds_toArray, List.set_cons_zero, List.set_cons_succ]
                refine org_pure (v := ?_) (by kernel_rfl) ?_ ?_
                rotate_left
                · intro w' hv; clear hv; go_simp; try with_reducible rfl
                try simp only [Act.put, List.setIfInBounds_toArray, List.set_cons_zero, List.set_cons_succ]
                refine org_pure (v := ?_) (by kernel_rfl) ?_ ?_
                rotate_left
                · intro w' hv; clear hv; go_simp; try with_reducible rfl
                try simp only [Act.put, List.setIfInBounds_toArray, List.set_cons_zero, List.set_cons_succ]
                refine org_pure (v := ?_) (by kernel_rfl) ?_ ?_
                rotate_left
                · intro w' hv; have cp := HCX.out w' (HB.out.trans (Below.mono hv HB.out.size)); clear hv; go_simp; try with_reducible rfl
                try simp only [Act.put, List.setIfInBounds_toArray, List.set_cons_zero, List.set_cons_succ]
                refine org_step (by kernel_rfl) (fun K hK => ?_)
                go_wp2_with fail
                refine (HCM.out _).mono ?_
                rintro e wx ⟨rfl, hb⟩
                have HE := Lib.hid hb
                replace HB := Lib.hid (HB.out.trans (hb.mono HB.out.size))
                replace HBK := Lib.hid (HBK.out.trans (hb.mono HBK.out.size))
                clear hb
                refine hK _ _ ⟨HE.out, ?_⟩
                clear hK HE
                try simp only [Act.put, List.setIfInBounds_toArray, List.set_cons_zero, List.set_cons_succ]
                refine org_pure (v := ?_) (by kernel_rfl) ?_ ?_
                rotate_left
                · intro w' hv; clear hv; go_simp; try with_reducible rfl
                try simp only [Act.put, List.setIfInBounds_toArray, List.set_cons_zero, List.set_cons_succ]
                refine org_pure (v := ?_) (by kernel_rfl) ?_ ?_
                rotate_left
                · intro w' hv; clear hv; go_simp; try with_reducible rfl
                try simp only [Act.put, List.setIfInBounds_toArray, List.set_cons_zero, List.set_cons_succ]
                refine org_nil ?_
                go_wp2_with fail
                refine wp_region_org [(0, true), (1, true), (2, true), (3, true), (4, true), (5, true), (6, true), (7, true), (8, true), (9, true), (10, true), (11, true), (12, true), (13, true)] (by kernel_rfl) (by kernel_rfl) (by kernel_rfl) ?_
                replace HB := Lib.hid HB.out.drew
                replace HBK := Lib.hid HBK.out.drew
                generalize wx.drew = we at *
                simp only [pickOrs, List.getElem?_cons_zero, List.getElem?_cons_succ]
                refine org_pure (v := ?_) (by kernel_rfl) ?_ ?_
                rotate_left
                · intro w' hv; clear hv; go_simp; try with_reducible rfl
                try simp only [Act.put, List.setIfInBounds_toArray, List.set_cons_zero, List.set_cons_succ]
                refine org_pure (v := ?_) (by kernel_rfl) ?_ ?_
                rotate_left
                · intro w' hv; clear hv; go_simp; try with_reducible rfl
                try simp only [Act.put, List.setIfInBounds_toArray, List.set_cons_zero, List.set_cons_succ]
                refine org_pure (v := ?_) (by kernel_rfl) ?_ ?_
                rotate_left
                · intro w' hv; clear hv; go_simp; try with_reducible rfl
                try simp only [Act.put, List.setIfInBounds_toArray, List.set_cons_zero, List.set_cons_succ]
                refine org_pure (v := ?_) (by kernel_rfl) ?_ ?_
                rotate_left
                · intro w' hv; clear hv; go_simp; try with_reducible rfl
                try simp only [Act.put, List.setIfInBounds_toArray, List.set_cons_zero, List.set_cons_succ]
                refine org_pure (v := ?_) (by kernel_rfl) ?_ ?_
                rotate_left
                · intro w' hv; clear hv; go_simp; try with_reducible rfl
                try simp only [Act.put, List.setIfInBounds_toArray, List.set_cons_zero, List.set_cons_succ]
                refine org_pure (v := ?_) (by kernel_rfl) ?_ ?_
                rotate_left
                · intro w' hv; clear hv; go_simp; try with_reducible rfl
                try simp only [Act.put, List.setIfInBounds_toArray, List.set_cons_zero, List.set_cons_succ]
                refine org_pure (v := ?_) (by kernel_rfl) ?_ ?_
                rotate_left
                · intro w' hv; clear hv; go_simp; try with_reducible rfl
                try simp only [Act.put, List.setIfInBounds_toArray, List.set_cons_zero, List.set_cons_succ]
                refine org_pure (v := ?_) (by kernel_rfl) ?_ ?_
                rotate_left
                · intro w' hv; have cr := HCR.out w' (HBK.out.trans (Below.mono hv HBK.out.size)); clear hv; go_simp; try with_reducible rfl
                try simp only [Act.put, List.setIfInBounds_toArray, List.set_cons_zero, List.set_cons_succ]
                refine org_pure (v := ?_) (by kernel_rfl) ?_ ?_
                rotate_left
                · intro w' hv; clear hv; go_simp; try with_reducible rfl
                try simp only [Act.put, List.setIfInBounds_toArray, List.set_cons_zero, List.set_cons_succ]
                refine org_pure (v := ?_) (by kernel_rfl) ?_ ?_
                rotate_left
                · intro w' hv; clear hv; go_simp; try with_reducible rfl
                try simp only [Act.put, List.setIfInBounds_toArray, List.set_cons_zero, List.set_cons_succ]
                refine org_pure (v := ?_) (by kernel_rfl) ?_ ?_
                rotate_left
                · intro w' hv; clear hv; go_simp; try with_reducible rfl
                try simp only [Act.put, List.setIfInBounds_toArray, List.set_cons_zero, List.set_cons_succ]
                refine org_pure (v := ?_) (by kernel_rfl) ?_ ?_
                rotate_left
                · intro w' hv; have cp := HCX.out w' (HB.out.trans (Below.mono hv HB.out.size)); clear hv; go_simp; try with_reducible rfl
                try simp only [Act.put, List.setIfInBounds_toArray, List.set_cons_zero, List.set_cons_succ]
                refine org_pure (v := ?_) (by kernel_rfl) ?_ ?_
                rotate_left
                · intro w' hv; clear hv; go_simp; try with_reducible rfl
                try simp only [Act.put, List.setIfInBounds_toArray, List.set_cons_zero, List.set_cons_succ]
                refine org_pure (v := ?_) (by kernel_rfl) ?_ ?_
                rotate_left
                · intro w' hv; clear hv; go_simp; try with_reducible rfl
                try simp only [Act.put, List.setIfInBounds_toArray, List.set_cons_zero, List.set_cons_succ]
                refine org_nil ?_
                go_wp2_with fail
                refine wp_region_tri [1, 2, 3, 5, 6, 7, 8, 11, 12, 13] 0 4 9 [10, 14, 15] _ _ _ rfl rfl rfl rfl rfl rfl (by decide) (by decide) (by intro d h; cases h; decide) (by intro d h; cases h; decide) (by kernel_rfl) (by kernel_rfl) _ chk10 rfl ?_
                replace HB := Lib.hid HB.out.drew
                replace HBK := Lib.hid HBK.out.drew
                generalize we.drew = wf at *
                simp only [pickPur, List.getElem?_cons_zero, List.getElem?_cons_succ]
                refine pur_step (v := ?_) (by kernel_rfl) ?_ ?_
                rotate_left
                · intro w' hv; clear hv; go_simp; try with_reducible rfl
                try simp only [Act.put, List.setIfInBounds_toArray, List.set_cons_zero, List.set_cons_succ]
                refine pur_step (v := ?_) (by kernel_rfl) ?_ ?_
                rotate_left
                · intro w' hv; clear hv; go_simp; try with_reducible rfl
                try simp only [Act.put, List.setIfInBounds_toArray, List.set_cons_zero, List.set_cons_succ]
                refine pur_step (v := .slice (some ar) k cr) (by kernel_rfl) (fun w' hv => ?_) ?_
                · exact slice_head (.tmp 52) (.tmp 53) (some ar) R.length cr k rfl rfl rfl (by omega) (by omega)
                try simp only [Act.put, List.setIfInBounds_toArray, List.set_cons_zero, List.set_cons_succ]
                refine pur_step (v := ?_) (by kernel_rfl) ?_ ?_
                rotate_left
                · intro w' hv; clear hv; go_simp; try with_reducible rfl
                try simp only [Act.put, List.setIfInBounds_toArray, List.set_cons_zero, List.set_cons_succ]
                refine pur_step (v := ?_) (by kernel_rfl) ?_ ?_
                rotate_left
                · intro w' hv; clear hv; go_simp; try with_reducible rfl
                try simp only [Act.put, List.setIfInBounds_toArray, List.set_cons_zero, List.set_cons_succ]
                refine pur_step (v := ?_) (by kernel_rfl) ?_ ?_
                rotate_left
                · intro w' hv; clear hv; go_simp; try with_reducible rfl
                try simp only [Act.put, List.setIfInBounds_toArray, List.set_cons_zero, List.set_cons_succ]
                refine pur_step (v := ?_) (by kernel_rfl) ?_ ?_
                rotate_left
                · intro w' hv; have cp := HCX.out w' (HB.out.trans (Below.mono hv HB.out.size)); clear hv; go_simp; try with_reducible rfl
                try simp only [Act.put, List.setIfInBounds_toArray, List.set_cons_zero, List.set_cons_succ]
                refine pur_step (v := ?_) (by kernel_rfl) ?_ ?_
                rotate_left
                · intro w' hv; clear hv; go_simp; try with_reducible rfl
                try simp only [Act.put, List.setIfInBounds_toArray, List.set_cons_zero, List.set_cons_succ]
                refine pur_step (v := ?_) (by kernel_rfl) ?_ ?_
                rotate_left
                · intro w' hv; clear hv; go_simp; try with_reducible rfl
                try simp only [Act.put, List.setIfInBounds_toArray, List.set_cons_zero, List.set_cons_succ]
                refine pur_step (v := .slice (if cr = k then (some ar) else (some ar).map (·.add k)) (R.length - k) (cr - k)) (by kernel_rfl) (fun w' hv => ?_) ?_
                · exact slice_tail (.tmp 62) (.tmp 63) (some ar) R.length cr k rfl rfl rfl (by omega)
                try simp only [Act.put, List.setIfInBounds_toArray, List.set_cons_zero, List.set_cons_succ]
                refine pur_nil ?_
                have HRS : Hid (Sees wf wf.heap.size (some ar) (R.map encStr)) := Lib.hid ((HTN.out.keep HBK.out).more HBK.out.size)
                refine tri_goal (.tmp 51) (.tmp 54) (.tmp 59) rfl rfl rfl (some ar) (R.take k) k cr x (by rw [List.length_take]; omega) hqr (by omega) (by rw [List.map_take]; exact HRS.out.head k) (fun _ => rfl) (fun _ _ => rfl) (fun _ => rfl) (fun _ _ => rfl) rfl (fun _ => rfl) (fun _ _ => rfl) ?_
                rintro v0 v4 v9 w4 hE hown ⟨g9, rfl, hc9⟩
                try simp only [Act.put, List.setIfInBounds_toArray, List.set_cons_zero, List.set_cons_succ]
                refine ch_step rfl _ (leaves_more (.tmp 55) (.tmp 60) rfl v4 k _ rfl hown hE (some ⟨g9, 0, none⟩) [x.data.toList] 1 1 _ rfl rfl (fun h => by cases h) (Sees.one (t := x.data.toList) hc9) (by omega)) ?_
                intro v5 w5 hE5 ho5
                try simp only [Act.put, List.setIfInBounds_toArray, List.set_cons_zero, List.set_cons_succ]
                refine ch_step rfl _ (leaves_more (.tmp 61) (.tmp 64) rfl v5 (k + 1) _ rfl ho5 hE5 (if cr = k then (some ar) else (some ar).map (·.add k)) (R.drop k) (R.length - k) (cr - k) wf.heap.size (by rw [List.length_drop]) rfl (fun h => by
                  split at h
                  · omega
                  · simp at h) (by rw [List.map_drop]; exact (HRS.out.keep hE5).cut (by rw [List.length_map]; exact hrc)) (by omega)) ?_
                intro v6 w6 hE6 ho6
                try simp only [Act.put, List.setIfInBounds_toArray, List.set_cons_zero, List.set_cons_succ]
                refine ch_pure (v := v6) rfl hE6 (by go_simp; try with_reducible rfl) ?_
                try simp only [Act.put, List.setIfInBounds_toArray, List.set_cons_zero, List.set_cons_succ]
                refine ch_nil ?_
                replace HB := Lib.hid (HB.out.trans (hE6.mono HB.out.size))
                have HO6 := Lib.hid ho6
                clear hE hown hc9 hE5 ho5 hE6 ho6 HRS HBK
                generalize (if cr = k then (some ar) else (some ar).map (·.add k)) = qt
                go_wp2_with fail
                go_roundw
                case rel =>
                  have ho := HO6.out
                  have he : (List.map encStr (R.take k) ++ List.map encStr [x.data.toList] ++ List.map encStr (R.drop k)) = List.map encStr (R.take k ++ [x.data.toList] ++ R.drop k) := by simp
                  rw [he] at ho
                  have hl : (R.take k ++ [x.data.toList] ++ R.drop k).length = k + 1 + (R.length - k) := by simp; omega
                  exact ⟨R.take k ++ [x.data.toList] ++ R.drop k, i + 1, by omega, by go_num, HPUT.out, by rw [hl]; omega, Tn.own (by rw [hl]; exact ho), HB.out⟩
                case measure => simp [intOf]; omega
    · have hil : i = L.length := by omega
      subst hil
      have k0 : ¬ (L.length : Int) < (L.length : Int) := by omega
      have hsr : Srt L R := by have := HSRT.out; rw [List.take_length] at this; exact this
      have HSR := Lib.hid hsr
      clear hsr hlt HSRT
      go_wp2_with fail
      go_ret
      exact ⟨⟨_, rfl, R, HSR.out, hrl, qr, cr, rfl, hrc, HTN.out⟩, HB.out⟩
end Go.Proofs.YtflgncagoiigfaaDoor
