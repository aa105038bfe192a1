/- Contract: the document's own GoodTree. -/
import Derived.Test.YthpendoblgndcaaDoorBase2
namespace Go.Proofs.YthpendoblgndcaaDoor
open Go.RowKit
def prevB (prev : Option Ent) (x : Tx) : Bool := match prev with | none => true | some y => decide (cmpL y.pa x < 0)
def upB (C : List Ent) (x : Tx) : Bool := decide (upV x = []) || (decide (0 ≤ atT C (upV x)) && dirT C (atT C (upV x)).toNat)
/-- One entry may stand there, behind that one. -/
def okE (C : List Ent) (prev : Option Ent) (e : Ent) : Bool :=
  okPath e.pa && (prevB prev e.pa && (!(e.dir && decide (0 < e.by.length)) && (decide (e.by.length ≤ 2048) && upB C e.pa)))
def goodR (C : List Ent) : List Ent → Option Ent → Bool
  | [], _ => true
  | e :: r, prev => okE C prev e && goodR C r (some e)
def goodT (C : List Ent) : Bool := goodR C C none && (decide (C.length ≤ 40) && decide (bytesT C ≤ 16384))
def prevOf (C : List Ent) (i : Nat) : Option Ent := if i = 0 then none else C[i - 1]?
set_option maxHeartbeats 16000000 in
set_option maxRecDepth 100000 in
theorem rgt_any (C : List Ent) (q : Option Addr) (c : Nat) (hm : C.length ≤ 100000) (hb : bytesT C ≤ 4611686018427387904) (hn : ∀ e ∈ C, e.1.size ≤ 1048576) (w : World) (hs : Sees w w.heap.size q (rowC C)) (hE : Ents w C) :
    Calls Tryd.prog 31 #[.slice q C.length c] w fun e w' => e = .returned (.bool (goodT C)) ∧ Below w.heap.size w w' := by
  have HS := Lib.hid hs
  have HE := Lib.hid hE
  have HN := Lib.hid hn
  clear hs hE hn
  obtain ⟨V, hV⟩ : ∃ V, goodT C = V := ⟨_, rfl⟩
  rw [hV]
  have HV := Lib.hid hV
  clear hV
  go_enter Tryd.func31, Tryd.ntmps31
  go_wp2_with fail
  go_loopw [3, 4, 5, 6, 7] (fun vi _ _ _ _ wr => ∃ (i : Nat), i ≤ C.length ∧ vi = .int .i64 i ∧ goodR C (C.drop i) (prevOf C i) = goodR C C none ∧ Below w.heap.size w wr) (fun vi _ _ _ _ _ => C.length - (intOf vi).toNat)
  case atStart => exact ⟨0, by omega, rfl, rfl, Below.refl _ _⟩
  case round =>
    rename_i wr
    obtain ⟨i, hi, rfl, heq, hB⟩ := hrel
    have HB := Lib.hid hB
    have HEQ := Lib.hid heq
    clear hB heq
    by_cases hlt : i < C.length
    · obtain ⟨a, rfl, ha, hc⟩ := HS.out.ent hlt
      obtain ⟨qb, cb, hv, _, _, _⟩ := HE.out C[i] (List.getElem_mem hlt)
      have hsz := HN.out C[i] (List.getElem_mem hlt)
      have hdr : C.drop i = C[i] :: C.drop (i + 1) := List.drop_eq_getElem_cons hlt
      have kk : (i : Int) < (C.length : Int) := by omega
      have hpn : prevOf C (i + 1) = some C[i] := by unfold prevOf; rw [if_neg (by omega), Nat.add_sub_cancel, List.getElem?_eq_getElem hlt]
      obtain ⟨e, he⟩ : ∃ e, C[i] = e := ⟨_, rfl⟩
      rw [he] at hc hv hsz hdr hpn
      obtain ⟨x, d, bv, bb⟩ := e
      have hv' : bv = .slice qb (List.length bb) cb := hv
      subst hv'
      have hxz : x.size ≤ 1048576 := hsz
      obtain ⟨n, hnn⟩ : ∃ n, List.length bb = n := ⟨_, rfl⟩
      rw [hnn] at hc hdr hpn
      obtain ⟨e0, he0⟩ : ∃ e0 : Ent, e0 = (x, d, .slice qb n cb, bb) := ⟨_, rfl⟩
      rw [← he0] at hdr hpn
      have HOKE : Hid (okE C (prevOf C i) e0 = (okPath x.data.toList && (prevB (prevOf C i) x.data.toList && (!(d && decide (0 < n)) && (decide (n ≤ 2048) && upB C x.data.toList))))) := Lib.hid (by rw [he0, ← hnn]; rfl)
      have HBAD : Hid (okE C (prevOf C i) e0 = false → V = false) := Lib.hid (fun h => by
        rw [← HV.out]; unfold goodT
        rw [← HEQ.out, hdr, goodR, h]; rfl)
      have HNEXT : Hid (okE C (prevOf C i) e0 = true → goodR C (C.drop (i + 1)) (prevOf C (i + 1)) = goodR C C none) := Lib.hid (fun h => by
        rw [← HEQ.out, hdr, goodR, h, hpn]; rfl)
      obtain ⟨U, hU⟩ : ∃ U : ByteArray, (⟨(upV x.data.toList).toArray⟩ : ByteArray) = U := ⟨_, rfl⟩
      have hUt : upV x.data.toList = U.data.toList := by rw [← hU]
      have HG := Lib.hid (fun w1 => rgood_any x hxz w1)
      have HU := Lib.hid (fun w1 => rup_any x hxz w1)
      rw [hU] at HU
      have HAT := Lib.hid (fun w1 h => rat_any C (some a) c U (by omega) w1 h)
      have hge := atT_ge C U.data.toList
      have hltt := atT_lt C U.data.toList
      obtain ⟨Kat, hK⟩ : ∃ K, atT C U.data.toList = K := ⟨_, rfl⟩
      have HUB1 : Hid (U.data = #[] → upB C x.data.toList = true) := Lib.hid (fun h => by unfold upB; rw [hUt, h]; rfl)
      have HUB2 : Hid (¬ U.data = #[] → Kat < 0 → upB C x.data.toList = false) := Lib.hid (fun h h0 => by
        unfold upB
        rw [hUt, decide_eq_false (fun e => h (by simpa using e)), hK, decide_eq_false (by omega)]; rfl)
      have HUB3 : Hid (¬ U.data = #[] → ∀ k : Nat, Kat = (k : Int) → upB C x.data.toList = dirT C k) := Lib.hid (fun h k h0 => by
        unfold upB
        rw [hUt, decide_eq_false (fun e => h (by simpa using e)), hK, h0, decide_eq_true (by omega)]; simp)
      rw [hK] at HAT hge hltt
      obtain ⟨c1, c2, c3⟩ := hc wr HB.out
      have hbox := Has.made' wr 51 #[.string x, .bool d, .slice qb n cb] [.string x, .bool d, .slice qb n cb] rfl
      have hgl : wr.heap.size < (wr.alloc (.cells #[.string x, .bool d, .slice qb n cb] 51)).heap.size := by simp
      have HBX3 : Hid (∀ w', Below (wr.alloc (.cells #[.string x, .bool d, .slice qb n cb] 51)).heap.size (wr.alloc (.cells #[.string x, .bool d, .slice qb n cb] 51)) w' → w'.cell? ⟨wr.heap.size, 0, none⟩ = some (.string x) ∧ w'.cell? ⟨wr.heap.size, 1, none⟩ = some (.bool d) ∧ w'.cell? ⟨wr.heap.size, 2, none⟩ = some (.slice qb n cb)) := Lib.hid (fun w' hb => ⟨(hb.cell hgl).trans (hbox.cellv rfl), (hb.cell hgl).trans (hbox.cellv rfl), (hb.cell hgl).trans (hbox.cellv rfl)⟩)
      have HBK := Lib.hid (Below.refl (wr.alloc (.cells #[.string x, .bool d, .slice qb n cb] 51)).heap.size (wr.alloc (.cells #[.string x, .bool d, .slice qb n cb] 51)))
      clear hc ha hsz he hdr hpn hv hbox hgl he0 hU hUt hK HEQ
      go_wp2_with fail
      replace HB := Lib.hid (HB.out.alloc HB.out.size (.cells #[.string x, .bool d, .slice qb n cb] 51))
      generalize wr.alloc (.cells #[.string x, .bool d, .slice qb n cb] 51) = wb at *
      clear c1 c2 c3
      cases hg : okPath x.data.toList with
      | false =>
        rw [hg] at HG
        have hv : V = false := HBAD.out (by rw [HOKE.out, hg]; simp)
        subst hv
        clear hg
        refine wp_region_org [(0, true), (1, true), (2, false), (3, true), (4, true), (5, true), (6, true), (7, true), (8, true), (9, true), (10, true), (11, true), (12, true), (13, true), (14, true), (15, true), (16, false), (17, true), (18, true), (19, true), (20, true), (21, true), (22, true), (23, true), (24, true), (25, true), (26, true), (27, true), (28, true), (29, true), (30, true), (31, true), (32, true), (33, true), (34, true), (35, true)] (by kernel_rfl) (by kernel_rfl) (by kernel_rfl) ?_
        replace HB := Lib.hid HB.out.drew
        replace HBK := Lib.hid HBK.out.drew
        generalize wb.drew = wd at *
        simp only [pickOrs, List.getElem?_cons_zero, List.getElem?_cons_succ]
        refine org_pure (v := ?_) (by kernel_rfl) ?_ ?_
        rotate_left
        · intro w' hv; clear hv; go_simp; try with_reducible rfl
        try simp only [Act.put, List.setIfInBounds_toArray, List.set_cons_zero, List.set_cons_succ]
        refine org_pure (v := ?_) (by kernel_rfl) ?_ ?_
        rotate_left
        · intro w' hv; have cx := (HBX3.out w' (HBK.out.trans (Below.mono hv HBK.out.size))).1; clear hv; go_simp; try with_reducible rfl
        try simp only [Act.put, List.setIfInBounds_toArray, List.set_cons_zero, List.set_cons_succ]
        refine org_step (by kernel_rfl) (fun K hK => ?_)
        go_wp2_with fail
        refine (HG.out _).mono ?_
        rintro e wg ⟨rfl, hb⟩
        have HE2 := Lib.hid hb
        replace HB := Lib.hid (HB.out.trans (hb.mono HB.out.size))
        replace HBK := Lib.hid (HBK.out.trans (hb.mono HBK.out.size))
        clear hb
        refine hK _ _ ⟨HE2.out, ?_⟩
        clear hK HE2
        try simp only [Act.put, List.setIfInBounds_toArray, List.set_cons_zero, List.set_cons_succ]
        refine org_pure (v := ?_) (by kernel_rfl) ?_ ?_
        rotate_left
        · intro w' hv; clear hv; go_simp; try with_reducible rfl
        try simp only [Act.put, List.setIfInBounds_toArray, List.set_cons_zero, List.set_cons_succ]
        refine org_pure (v := ?_) (by kernel_rfl) ?_ ?_
        rotate_left
        · intro w' hv; clear hv; go_simp; try with_reducible rfl
        try simp only [Act.put, List.setIfInBounds_toArray, List.set_cons_zero, List.set_cons_succ]
        refine org_skip (by kernel_rfl) ?_
        try simp only [Act.put, List.setIfInBounds_toArray, List.set_cons_zero, List.set_cons_succ]
        refine org_skip (by kernel_rfl) ?_
        try simp only [Act.put, List.setIfInBounds_toArray, List.set_cons_zero, List.set_cons_succ]
        refine org_skip (by kernel_rfl) ?_
        try simp only [Act.put, List.setIfInBounds_toArray, List.set_cons_zero, List.set_cons_succ]
        refine org_skip (by kernel_rfl) ?_
        try simp only [Act.put, List.setIfInBounds_toArray, List.set_cons_zero, List.set_cons_succ]
        refine org_skip (by kernel_rfl) ?_
        try simp only [Act.put, List.setIfInBounds_toArray, List.set_cons_zero, List.set_cons_succ]
        refine org_skip (by kernel_rfl) ?_
        try simp only [Act.put, List.setIfInBounds_toArray, List.set_cons_zero, List.set_cons_succ]
        refine org_skip (by kernel_rfl) ?_
        try simp only [Act.put, List.setIfInBounds_toArray, List.set_cons_zero, List.set_cons_succ]
        refine org_skip (by kernel_rfl) ?_
        try simp only [Act.put, List.setIfInBounds_toArray, List.set_cons_zero, List.set_cons_succ]
        refine org_skip (by kernel_rfl) ?_
        try simp only [Act.put, List.setIfInBounds_toArray, List.set_cons_zero, List.set_cons_succ]
        refine org_skip (by kernel_rfl) ?_
        try simp only [Act.put, List.setIfInBounds_toArray, List.set_cons_zero, List.set_cons_succ]
        refine org_skip (by kernel_rfl) ?_
        try simp only [Act.put, List.setIfInBounds_toArray, List.set_cons_zero, List.set_cons_succ]
        refine org_pass (by kernel_rfl) ?_
        try simp only [Act.put, List.setIfInBounds_toArray, List.set_cons_zero, List.set_cons_succ]
        refine org_skip (by kernel_rfl) ?_
        try simp only [Act.put, List.setIfInBounds_toArray, List.set_cons_zero, List.set_cons_succ]
        refine org_skip (by kernel_rfl) ?_
        try simp only [Act.put, List.setIfInBounds_toArray, List.set_cons_zero, List.set_cons_succ]
        refine org_pure (v := ?_) (by kernel_rfl) ?_ ?_
        rotate_left
        · intro w' hv; clear hv; go_simp; try with_reducible rfl
        try simp only [Act.put, List.setIfInBounds_toArray, List.set_cons_zero, List.set_cons_succ]
        refine org_pure (v := ?_) (by kernel_rfl) ?_ ?_
        rotate_left
        · intro w' hv; clear hv; go_simp; try with_reducible rfl
        try simp only [Act.put, List.setIfInBounds_toArray, List.set_cons_zero, List.set_cons_succ]
        refine org_skip (by kernel_rfl) ?_
        try simp only [Act.put, List.setIfInBounds_toArray, List.set_cons_zero, List.set_cons_succ]
        refine org_skip (by kernel_rfl) ?_
        try simp only [Act.put, List.setIfInBounds_toArray, List.set_cons_zero, List.set_cons_succ]
        refine org_skip (by kernel_rfl) ?_
        try simp only [Act.put, List.setIfInBounds_toArray, List.set_cons_zero, List.set_cons_succ]
        refine org_skip (by kernel_rfl) ?_
        try simp only [Act.put, List.setIfInBounds_toArray, List.set_cons_zero, List.set_cons_succ]
        refine org_skip (by kernel_rfl) ?_
        try simp only [Act.put, List.setIfInBounds_toArray, List.set_cons_zero, List.set_cons_succ]
        refine org_skip (by kernel_rfl) ?_
        try simp only [Act.put, List.setIfInBounds_toArray, List.set_cons_zero, List.set_cons_succ]
        refine org_skip (by kernel_rfl) ?_
        try simp only [Act.put, List.setIfInBounds_toArray, List.set_cons_zero, List.set_cons_succ]
        refine org_skip (by kernel_rfl) ?_
        try simp only [Act.put, List.setIfInBounds_toArray, List.set_cons_zero, List.set_cons_succ]
        refine org_pure (v := ?_) (by kernel_rfl) ?_ ?_
        rotate_left
        · intro w' hv; clear hv; go_simp; try with_reducible rfl
        try simp only [Act.put, List.setIfInBounds_toArray, List.set_cons_zero, List.set_cons_succ]
        refine org_pure (v := ?_) (by kernel_rfl) ?_ ?_
        rotate_left
        · intro w' hv; clear hv; go_simp; try with_reducible rfl
        try simp only [Act.put, List.setIfInBounds_toArray, List.set_cons_zero, List.set_cons_succ]
        refine org_skip (by kernel_rfl) ?_
        try simp only [Act.put, List.setIfInBounds_toArray, List.set_cons_zero, List.set_cons_succ]
        refine org_skip (by kernel_rfl) ?_
        try simp only [Act.put, List.setIfInBounds_toArray, List.set_cons_zero, List.set_cons_succ]
        refine org_skip (by kernel_rfl) ?_
        try simp only [Act.put, List.setIfInBounds_toArray, List.set_cons_zero, List.set_cons_succ]
        refine org_skip (by kernel_rfl) ?_
        try simp only [Act.put, List.setIfInBounds_toArray, List.set_cons_zero, List.set_cons_succ]
        refine org_pure (v := ?_) (by kernel_rfl) ?_ ?_
        rotate_left
        · intro w' hv; clear hv; go_simp; try with_reducible rfl
        try simp only [Act.put, List.setIfInBounds_toArray, List.set_cons_zero, List.set_cons_succ]
        refine org_nil ?_
        go_wp2_with fail
        go_ret
        exact ⟨rfl, HB.out⟩
      | true =>
        rw [hg] at HG
        by_cases hi0 : 0 < i
        · obtain ⟨j, hij⟩ : ∃ j, i = j + 1 := ⟨i - 1, by omega⟩
          have hj : j < C.length := by omega
          obtain ⟨a3, ha3, _, hc3⟩ := HS.out.ent hj
          cases ha3
          have hpr : prevOf C i = some C[j] := by unfold prevOf; rw [if_neg (by omega), hij, Nat.add_sub_cancel, List.getElem?_eq_getElem hj]
          have hyz := HN.out C[j] (List.getElem_mem hj)
          have HCY : Hid (∀ w', Below w.heap.size w w' → w'.cell? (a.add (j * 3)) = some (.string C[j].1)) := Lib.hid (fun w' hb => (hc3 w' hb).1)
          have hpv0 : prevB (prevOf C i) x.data.toList = decide (cmpL C[j].1.data.toList x.data.toList < 0) := by rw [hpr]; rfl
          have kw : IntKind.i64.wrap ((i : Int) - 1) = (j : Int) := by rw [IntWalk.i64_in _ (by omega)]; omega
          have kj : (j : Int) < (C.length : Int) := by omega
          have kp : (0 : Int) < (i : Int) := by omega
          generalize C[j].1 = y at *
          have HCM := Lib.hid (fun w1 => rcmp_any y x hyz hxz w1)
          clear hc3 hij hj hpr
          generalize cmpL y.data.toList x.data.toList = cv at *
          by_cases hcv : 0 ≤ cv
          · have hpv : prevB (prevOf C i) x.data.toList = false := by rw [hpv0]; exact decide_eq_false (by omega)
            have hv : V = false := HBAD.out (by rw [HOKE.out, hpv, hg]; simp)
            subst hv
            clear hpv hpv0 hg
            refine wp_region_org [(0, true), (1, true), (2, false), (3, true), (4, true), (5, true), (6, true), (7, true), (8, true), (9, true), (10, true), (11, true), (12, true), (13, true), (14, true), (15, true), (16, false), (17, true), (18, true), (19, true), (20, true), (21, true), (22, true), (23, true), (24, true), (25, true), (26, true), (27, true), (28, true), (29, true), (30, true), (31, true), (32, true), (33, true), (34, true), (35, true)] (by kernel_rfl) (by kernel_rfl) (by kernel_rfl) ?_
            replace HB := Lib.hid HB.out.drew
            replace HBK := Lib.hid HBK.out.drew
            generalize wb.drew = wd at *
            simp only [pickOrs, List.getElem?_cons_zero, List.getElem?_cons_succ]
            refine org_pure (v := ?_) (by kernel_rfl) ?_ ?_
            rotate_left
            · intro w' hv; clear hv; go_simp; try with_reducible rfl
            try simp only [Act.put, List.setIfInBounds_toArray, List.set_cons_zero, List.set_cons_succ]
            refine org_pure (v := ?_) (by kernel_rfl) ?_ ?_
            rotate_left
            · intro w' hv; have cx := (HBX3.out w' (HBK.out.trans (Below.mono hv HBK.out.size))).1; clear hv; go_simp; try with_reducible rfl
            try simp only [Act.put, List.setIfInBounds_toArray, List.set_cons_zero, List.set_cons_succ]
            refine org_step (by kernel_rfl) (fun K hK => ?_)
            go_wp2_with fail
            refine (HG.out _).mono ?_
            rintro e wg ⟨rfl, hb⟩
            have HE2 := Lib.hid hb
            replace HB := Lib.hid (HB.out.trans (hb.mono HB.out.size))
            replace HBK := Lib.hid (HBK.out.trans (hb.mono HBK.out.size))
            clear hb
            refine hK _ _ ⟨HE2.out, ?_⟩
            clear hK HE2
            try simp only [Act.put, List.setIfInBounds_toArray, List.set_cons_zero, List.set_cons_succ]
            refine org_pure (v := ?_) (by kernel_rfl) ?_ ?_
            rotate_left
            · intro w' hv; clear hv; go_simp; try with_reducible rfl
            try simp only [Act.put, List.setIfInBounds_toArray, List.set_cons_zero, List.set_cons_succ]
            refine org_pure (v := ?_) (by kernel_rfl) ?_ ?_
            rotate_left
            · intro w' hv; clear hv; go_simp; try with_reducible rfl
            try simp only [Act.put, List.setIfInBounds_toArray, List.set_cons_zero, List.set_cons_succ]
            refine org_pure (v := ?_) (by kernel_rfl) ?_ ?_
            rotate_left
            · intro w' hv; clear hv; go_simp; try with_reducible rfl
            try simp only [Act.put, List.setIfInBounds_toArray, List.set_cons_zero, List.set_cons_succ]
            refine org_pure (v := ?_) (by kernel_rfl) ?_ ?_
            rotate_left
            · intro w' hv; clear hv; go_simp; try with_reducible rfl
            try simp only [Act.put, List.setIfInBounds_toArray, List.set_cons_zero, List.set_cons_succ]
            refine org_pure (v := ?_) (by kernel_rfl) ?_ ?_
            rotate_left
            · intro w' hv; clear hv; go_simp; try with_reducible rfl
            try simp only [Act.put, List.setIfInBounds_toArray, List.set_cons_zero, List.set_cons_succ]
            refine org_pure (v := ?_) (by kernel_rfl) ?_ ?_
            rotate_left
            · intro w' hv; clear hv; go_simp; try with_reducible rfl
            try simp only [Act.put, List.setIfInBounds_toArray, List.set_cons_zero, List.set_cons_succ]
            refine org_pure (v := ?_) (by kernel_rfl) ?_ ?_
            rotate_left
            · intro w' hv; clear hv; go_simp; try with_reducible rfl
            try simp only [Act.put, List.setIfInBounds_toArray, List.set_cons_zero, List.set_cons_succ]
            refine org_pure (v := ?_) (by kernel_rfl) ?_ ?_
            rotate_left
            · intro w' hv; clear hv; go_simp; try with_reducible rfl
            try simp only [Act.put, List.setIfInBounds_toArray, List.set_cons_zero, List.set_cons_succ]
            refine org_pure (v := ?_) (by kernel_rfl) ?_ ?_
            rotate_left
            · intro w' hv; clear hv; go_simp; try with_reducible rfl
            try simp only [Act.put, List.setIfInBounds_toArray, List.set_cons_zero, List.set_cons_succ]
            refine org_pure (v := ?_) (by kernel_rfl) ?_ ?_
            rotate_left
            · intro w' hv; clear hv; go_simp; try with_reducible rfl
            try simp only [Act.put, List.setIfInBounds_toArray, List.set_cons_zero, List.set_cons_succ]
            refine org_pure (v := ?_) (by kernel_rfl) ?_ ?_
            rotate_left
            · intro w' hv; have cx := HCY.out w' (HB.out.trans (Below.mono hv HB.out.size)); clear hv; go_simp; try with_reducible rfl
            try simp only [Act.put, List.setIfInBounds_toArray, List.set_cons_zero, List.set_cons_succ]
            refine org_pure (v := ?_) (by kernel_rfl) ?_ ?_
            rotate_left
            · intro w' hv; clear hv; go_simp; try with_reducible rfl
            try simp only [Act.put, List.setIfInBounds_toArray, List.set_cons_zero, List.set_cons_succ]
            refine org_pure (v := ?_) (by kernel_rfl) ?_ ?_
            rotate_left
            · intro w' hv; have cx := (HBX3.out w' (HBK.out.trans (Below.mono hv HBK.out.size))).1; clear hv; go_simp; try with_reducible rfl
            try simp only [Act.put, List.setIfInBounds_toArray, List.set_cons_zero, List.set_cons_succ]
            refine org_step (by kernel_rfl) (fun K hK => ?_)
            go_wp2_with fail
            refine (HCM.out _).mono ?_
            rintro e wx ⟨rfl, hb⟩
            have HE2 := Lib.hid hb
            replace HB := Lib.hid (HB.out.trans (hb.mono HB.out.size))
            replace HBK := Lib.hid (HBK.out.trans (hb.mono HBK.out.size))
            clear hb
            refine hK _ _ ⟨HE2.out, ?_⟩
            clear hK HE2
            try simp only [Act.put, List.setIfInBounds_toArray, List.set_cons_zero, List.set_cons_succ]
            refine org_pure (v := ?_) (by kernel_rfl) ?_ ?_
            rotate_left
            · intro w' hv; clear hv; go_simp; try with_reducible rfl
            try simp only [Act.put, List.setIfInBounds_toArray, List.set_cons_zero, List.set_cons_succ]
            refine org_pure (v := ?_) (by kernel_rfl) ?_ ?_
            rotate_left
            · intro w' hv; clear hv; go_simp; try with_reducible rfl
            try simp only [Act.put, List.setIfInBounds_toArray, List.set_cons_zero, List.set_cons_succ]
            refine org_pure (v := ?_) (by kernel_rfl) ?_ ?_
            rotate_left
            · intro w' hv; clear hv; go_simp; try with_reducible rfl
            try simp only [Act.put, List.setIfInBounds_toArray, List.set_cons_zero, List.set_cons_succ]
            refine org_pure (v := ?_) (by kernel_rfl) ?_ ?_
            rotate_left
            · intro w' hv; clear hv; go_simp; try with_reducible rfl
            try simp only [Act.put, List.setIfInBounds_toArray, List.set_cons_zero, List.set_cons_succ]
            refine org_skip (by kernel_rfl) ?_
            try simp only [Act.put, List.setIfInBounds_toArray, List.set_cons_zero, List.set_cons_succ]
            refine org_skip (by kernel_rfl) ?_
            try simp only [Act.put, List.setIfInBounds_toArray, List.set_cons_zero, List.set_cons_succ]
            refine org_skip (by kernel_rfl) ?_
            try simp only [Act.put, List.setIfInBounds_toArray, List.set_cons_zero, List.set_cons_succ]
            refine org_skip (by kernel_rfl) ?_
            try simp only [Act.put, List.setIfInBounds_toArray, List.set_cons_zero, List.set_cons_succ]
            refine org_skip (by kernel_rfl) ?_
            try simp only [Act.put, List.setIfInBounds_toArray, List.set_cons_zero, List.set_cons_succ]
            refine org_skip (by kernel_rfl) ?_
            try simp only [Act.put, List.setIfInBounds_toArray, List.set_cons_zero, List.set_cons_succ]
            refine org_skip (by kernel_rfl) ?_
            try simp only [Act.put, List.setIfInBounds_toArray, List.set_cons_zero, List.set_cons_succ]
            refine org_skip (by kernel_rfl) ?_
            try simp only [Act.put, List.setIfInBounds_toArray, List.set_cons_zero, List.set_cons_succ]
            refine org_pure (v := ?_) (by kernel_rfl) ?_ ?_
            rotate_left
            · intro w' hv; clear hv; go_simp; try with_reducible rfl
            try simp only [Act.put, List.setIfInBounds_toArray, List.set_cons_zero, List.set_cons_succ]
            refine org_pure (v := ?_) (by kernel_rfl) ?_ ?_
            rotate_left
            · intro w' hv; clear hv; go_simp; try with_reducible rfl
            try simp only [Act.put, List.setIfInBounds_toArray, List.set_cons_zero, List.set_cons_succ]
            refine org_skip (by kernel_rfl) ?_
            try simp only [Act.put, List.setIfInBounds_toArray, List.set_cons_zero, List.set_cons_succ]
            refine org_skip (by kernel_rfl) ?_
            try simp only [Act.put, List.setIfInBounds_toArray, List.set_cons_zero, List.set_cons_succ]
            refine org_skip (by kernel_rfl) ?_
            try simp only [Act.put, List.setIfInBounds_toArray, List.set_cons_zero, List.set_cons_succ]
            refine org_skip (by kernel_rfl) ?_
            try simp only [Act.put, List.setIfInBounds_toArray, List.set_cons_zero, List.set_cons_succ]
            refine org_pure (v := ?_) (by kernel_rfl) ?_ ?_
            rotate_left
            · intro w' hv; clear hv; go_simp; try with_reducible rfl
            try simp only [Act.put, List.setIfInBounds_toArray, List.set_cons_zero, List.set_cons_succ]
            refine org_nil ?_
            go_wp2_with fail
            go_ret
            exact ⟨rfl, HB.out⟩
          · have hpv : prevB (prevOf C i) x.data.toList = true := by rw [hpv0]; exact decide_eq_true (by omega)
            have hcv2 : (0 ≤ cv) = False := eq_false hcv
            have hcv3 : cv < 0 := by omega
            clear hpv0
            cases d with
            | true =>
              by_cases hn0 : 0 < n
              · have n0 : (0 : Int) < (n : Int) := by omega
                have hv : V = false := HBAD.out (by rw [HOKE.out, hpv, hg, decide_eq_true hn0]; simp)
                subst hv
                refine wp_region_org [(0, true), (1, true), (2, false), (3, true), (4, true), (5, true), (6, true), (7, true), (8, true), (9, true), (10, true), (11, true), (12, true), (13, true), (14, true), (15, true), (16, false), (17, true), (18, true), (19, true), (20, true), (21, true), (22, true), (23, true), (24, true), (25, true), (26, true), (27, true), (28, true), (29, true), (30, true), (31, true), (32, true), (33, true), (34, true), (35, true)] (by kernel_rfl) (by kernel_rfl) (by kernel_rfl) ?_
                replace HB := Lib.hid HB.out.drew
                replace HBK := Lib.hid HBK.out.drew
                generalize wb.drew = wd at *
                simp only [pickOrs, List.getElem?_cons_zero, List.getElem?_cons_succ]
                refine org_pure (v := ?_) (by kernel_rfl) ?_ ?_
                rotate_left
                · intro w' hv; clear hv; go_simp; try with_reducible rfl
                try simp only [Act.put, List.setIfInBounds_toArray, List.set_cons_zero, List.set_cons_succ]
                refine org_pure (v := ?_) (by kernel_rfl) ?_ ?_
                rotate_left
                · intro w' hv; have cx := (HBX3.out w' (HBK.out.trans (Below.mono hv HBK.out.size))).1; clear hv; go_simp; try with_reducible rfl
                try simp only [Act.put, List.setIfInBounds_toArray, List.set_cons_zero, List.set_cons_succ]
                refine org_step (by kernel_rfl) (fun K hK => ?_)
                go_wp2_with fail
                refine (HG.out _).mono ?_
                rintro e wg ⟨rfl, hb⟩
                have HE2 := Lib.hid hb
                replace HB := Lib.hid (HB.out.trans (hb.mono HB.out.size))
                replace HBK := Lib.hid (HBK.out.trans (hb.mono HBK.out.size))
                clear hb
                refine hK _ _ ⟨HE2.out, ?_⟩
                clear hK HE2
                try simp only [Act.put, List.setIfInBounds_toArray, List.set_cons_zero, List.set_cons_succ]
                refine org_pure (v := ?_) (by kernel_rfl) ?_ ?_
                rotate_left
                · intro w' hv; clear hv; go_simp; try with_reducible rfl
                try simp only [Act.put, List.setIfInBounds_toArray, List.set_cons_zero, List.set_cons_succ]
                refine org_pure (v := ?_) (by kernel_rfl) ?_ ?_
                rotate_left
                · intro w' hv; clear hv; go_simp; try with_reducible rfl
                try simp only [Act.put, List.setIfInBounds_toArray, List.set_cons_zero, List.set_cons_succ]
                refine org_pure (v := ?_) (by kernel_rfl) ?_ ?_
                rotate_left
                · intro w' hv; clear hv; go_simp; try with_reducible rfl
                try simp only [Act.put, List.setIfInBounds_toArray, List.set_cons_zero, List.set_cons_succ]
                refine org_pure (v := ?_) (by kernel_rfl) ?_ ?_
                rotate_left
                · intro w' hv; clear hv; go_simp; try with_reducible rfl
                try simp only [Act.put, List.setIfInBounds_toArray, List.set_cons_zero, List.set_cons_succ]
                refine org_pure (v := ?_) (by kernel_rfl) ?_ ?_
                rotate_left
                · intro w' hv; clear hv; go_simp; try with_reducible rfl
                try simp only [Act.put, List.setIfInBounds_toArray, List.set_cons_zero, List.set_cons_succ]
                refine org_pure (v := ?_) (by kernel_rfl) ?_ ?_
                rotate_left
                · intro w' hv; clear hv; go_simp; try with_reducible rfl
                try simp only [Act.put, List.setIfInBounds_toArray, List.set_cons_zero, List.set_cons_succ]
                refine org_pure (v := ?_) (by kernel_rfl) ?_ ?_
                rotate_left
                · intro w' hv; clear hv; go_simp; try with_reducible rfl
                try simp only [Act.put, List.setIfInBounds_toArray, List.set_cons_zero, List.set_cons_succ]
                refine org_pure (v := ?_) (by kernel_rfl) ?_ ?_
                rotate_left
                · intro w' hv; clear hv; go_simp; try with_reducible rfl
                try simp only [Act.put, List.setIfInBounds_toArray, List.set_cons_zero, List.set_cons_succ]
                refine org_pure (v := ?_) (by kernel_rfl) ?_ ?_
                rotate_left
                · intro w' hv; clear hv; go_simp; try with_reducible rfl
                try simp only [Act.put, List.setIfInBounds_toArray, List.set_cons_zero, List.set_cons_succ]
                refine org_pure (v := ?_) (by kernel_rfl) ?_ ?_
                rotate_left
                · intro w' hv; clear hv; go_simp; try with_reducible rfl
                try simp only [Act.put, List.setIfInBounds_toArray, List.set_cons_zero, List.set_cons_succ]
                refine org_pure (v := ?_) (by kernel_rfl) ?_ ?_
                rotate_left
                · intro w' hv; have cx := HCY.out w' (HB.out.trans (Below.mono hv HB.out.size)); clear hv; go_simp; try with_reducible rfl
                try simp only [Act.put, List.setIfInBounds_toArray, List.set_cons_zero, List.set_cons_succ]
                refine org_pure (v := ?_) (by kernel_rfl) ?_ ?_
                rotate_left
                · intro w' hv; clear hv; go_simp; try with_reducible rfl
                try simp only [Act.put, List.setIfInBounds_toArray, List.set_cons_zero, List.set_cons_succ]
                refine org_pure (v := ?_) (by kernel_rfl) ?_ ?_
                rotate_left
                · intro w' hv; have cx := (HBX3.out w' (HBK.out.trans (Below.mono hv HBK.out.size))).1; clear hv; go_simp; try with_reducible rfl
                try simp only [Act.put, List.setIfInBounds_toArray, List.set_cons_zero, List.set_cons_succ]
                refine org_step (by kernel_rfl) (fun K hK => ?_)
                go_wp2_with fail
                refine (HCM.out _).mono ?_
                rintro e wx ⟨rfl, hb⟩
                have HE2 := Lib.hid hb
                replace HB := Lib.hid (HB.out.trans (hb.mono HB.out.size))
                replace HBK := Lib.hid (HBK.out.trans (hb.mono HBK.out.size))
                clear hb
                refine hK _ _ ⟨HE2.out, ?_⟩
                clear hK HE2
                try simp only [Act.put, List.setIfInBounds_toArray, List.set_cons_zero, List.set_cons_succ]
                refine org_pure (v := ?_) (by kernel_rfl) ?_ ?_
                rotate_left
                · intro w' hv; clear hv; go_simp; try with_reducible rfl
                try simp only [Act.put, List.setIfInBounds_toArray, List.set_cons_zero, List.set_cons_succ]
                refine org_pure (v := ?_) (by kernel_rfl) ?_ ?_
                rotate_left
                · intro w' hv; clear hv; go_simp; try with_reducible rfl
                try simp only [Act.put, List.setIfInBounds_toArray, List.set_cons_zero, List.set_cons_succ]
                refine org_pure (v := ?_) (by kernel_rfl) ?_ ?_
                rotate_left
                · intro w' hv; clear hv; go_simp; try with_reducible rfl
                try simp only [Act.put, List.setIfInBounds_toArray, List.set_cons_zero, List.set_cons_succ]
                refine org_pure (v := ?_) (by kernel_rfl) ?_ ?_
                rotate_left
                · intro w' hv; clear hv; go_simp; try with_reducible rfl
                try simp only [Act.put, List.setIfInBounds_toArray, List.set_cons_zero, List.set_cons_succ]
                refine org_pure (v := ?_) (by kernel_rfl) ?_ ?_
                rotate_left
                · intro w' hv; clear hv; go_simp; try with_reducible rfl
                try simp only [Act.put, List.setIfInBounds_toArray, List.set_cons_zero, List.set_cons_succ]
                refine org_pure (v := ?_) (by kernel_rfl) ?_ ?_
                rotate_left
                · intro w' hv; have cx := (HBX3.out w' (HBK.out.trans (Below.mono hv HBK.out.size))).2.1; clear hv; go_simp; try with_reducible rfl
                try simp only [Act.put, List.setIfInBounds_toArray, List.set_cons_zero, List.set_cons_succ]
                refine org_pure (v := ?_) (by kernel_rfl) ?_ ?_
                rotate_left
                · intro w' hv; clear hv; go_simp; try with_reducible rfl
                try simp only [Act.put, List.setIfInBounds_toArray, List.set_cons_zero, List.set_cons_succ]
                refine org_pure (v := ?_) (by kernel_rfl) ?_ ?_
                rotate_left
                · intro w' hv; clear hv; go_simp; try with_reducible rfl
                try simp only [Act.put, List.setIfInBounds_toArray, List.set_cons_zero, List.set_cons_succ]
                refine org_pure (v := ?_) (by kernel_rfl) ?_ ?_
                rotate_left
                · intro w' hv; have cx := (HBX3.out w' (HBK.out.trans (Below.mono hv HBK.out.size))).2.2; clear hv; go_simp; try with_reducible rfl
                try simp only [Act.put, List.setIfInBounds_toArray, List.set_cons_zero, List.set_cons_succ]
                refine org_pure (v := ?_) (by kernel_rfl) ?_ ?_
                rotate_left
                · intro w' hv; clear hv; go_simp; try with_reducible rfl
                try simp only [Act.put, List.setIfInBounds_toArray, List.set_cons_zero, List.set_cons_succ]
                refine org_pure (v := ?_) (by kernel_rfl) ?_ ?_
                rotate_left
                · intro w' hv; clear hv; go_simp; try with_reducible rfl
                try simp only [Act.put, List.setIfInBounds_toArray, List.set_cons_zero, List.set_cons_succ]
                refine org_pure (v := ?_) (by kernel_rfl) ?_ ?_
                rotate_left
                · intro w' hv; clear hv; go_simp; try with_reducible rfl
                try simp only [Act.put, List.setIfInBounds_toArray, List.set_cons_zero, List.set_cons_succ]
                refine org_pure (v := ?_) (by kernel_rfl) ?_ ?_
                rotate_left
                · intro w' hv; clear hv; go_simp; try with_reducible rfl
                try simp only [Act.put, List.setIfInBounds_toArray, List.set_cons_zero, List.set_cons_succ]
                refine org_pure (v := ?_) (by kernel_rfl) ?_ ?_
                rotate_left
                · intro w' hv; clear hv; go_simp; try with_reducible rfl
                try simp only [Act.put, List.setIfInBounds_toArray, List.set_cons_zero, List.set_cons_succ]
                refine org_skip (by kernel_rfl) ?_
                try simp only [Act.put, List.setIfInBounds_toArray, List.set_cons_zero, List.set_cons_succ]
                refine org_skip (by kernel_rfl) ?_
                try simp only [Act.put, List.setIfInBounds_toArray, List.set_cons_zero, List.set_cons_succ]
                refine org_skip (by kernel_rfl) ?_
                try simp only [Act.put, List.setIfInBounds_toArray, List.set_cons_zero, List.set_cons_succ]
                refine org_skip (by kernel_rfl) ?_
                try simp only [Act.put, List.setIfInBounds_toArray, List.set_cons_zero, List.set_cons_succ]
                refine org_pure (v := ?_) (by kernel_rfl) ?_ ?_
                rotate_left
                · intro w' hv; clear hv; go_simp; try with_reducible rfl
                try simp only [Act.put, List.setIfInBounds_toArray, List.set_cons_zero, List.set_cons_succ]
                refine org_nil ?_
                go_wp2_with fail
                go_ret
                exact ⟨rfl, HB.out⟩
              · have n0 : ¬ (0 : Int) < (n : Int) := by omega
                have n1 : ¬ (2048 : Int) < (n : Int) := by omega
                have n2 : ¬ 2048 < n := by omega
                have HOKE2 : Hid (okE C (prevOf C i) e0 = upB C x.data.toList) := Lib.hid (by rw [HOKE.out, hpv, hg, decide_eq_false hn0, decide_eq_true (show n ≤ 2048 by omega)]; simp)
                refine wp_region_org [(0, true), (1, true), (2, false), (3, true), (4, true), (5, true), (6, true), (7, true), (8, true), (9, true), (10, true), (11, true), (12, true), (13, true), (14, true), (15, true), (16, false), (17, true), (18, true), (19, true), (20, true), (21, true), (22, true), (23, true), (24, true), (25, true), (26, true), (27, true), (28, true), (29, true), (30, true), (31, true), (32, true), (33, true), (34, true), (35, true)] (by kernel_rfl) (by kernel_rfl) (by kernel_rfl) ?_
                replace HB := Lib.hid HB.out.drew
                replace HBK := Lib.hid HBK.out.drew
                generalize wb.drew = wd at *
                simp only [pickOrs, List.getElem?_cons_zero, List.getElem?_cons_succ]
                refine org_pure (v := ?_) (by kernel_rfl) ?_ ?_
                rotate_left
                · intro w' hv; clear hv; go_simp; try with_reducible rfl
                try simp only [Act.put, List.setIfInBounds_toArray, List.set_cons_zero, List.set_cons_succ]
                refine org_pure (v := ?_) (by kernel_rfl) ?_ ?_
                rotate_left
                · intro w' hv; have cx := (HBX3.out w' (HBK.out.trans (Below.mono hv HBK.out.size))).1; clear hv; go_simp; try with_reducible rfl
                try simp only [Act.put, List.setIfInBounds_toArray, List.set_cons_zero, List.set_cons_succ]
                refine org_step (by kernel_rfl) (fun K hK => ?_)
                go_wp2_with fail
                refine (HG.out _).mono ?_
                rintro e wg ⟨rfl, hb⟩
                have HE2 := Lib.hid hb
                replace HB := Lib.hid (HB.out.trans (hb.mono HB.out.size))
                replace HBK := Lib.hid (HBK.out.trans (hb.mono HBK.out.size))
                clear hb
                refine hK _ _ ⟨HE2.out, ?_⟩
                clear hK HE2
                try simp only [Act.put, List.setIfInBounds_toArray, List.set_cons_zero, List.set_cons_succ]
                refine org_pure (v := ?_) (by kernel_rfl) ?_ ?_
                rotate_left
                · intro w' hv; clear hv; go_simp; try with_reducible rfl
                try simp only [Act.put, List.setIfInBounds_toArray, List.set_cons_zero, List.set_cons_succ]
                refine org_pure (v := ?_) (by kernel_rfl) ?_ ?_
                rotate_left
                · intro w' hv; clear hv; go_simp; try with_reducible rfl
                try simp only [Act.put, List.setIfInBounds_toArray, List.set_cons_zero, List.set_cons_succ]
                refine org_pure (v := ?_) (by kernel_rfl) ?_ ?_
                rotate_left
                · intro w' hv; clear hv; go_simp; try with_reducible rfl
                try simp only [Act.put, List.setIfInBounds_toArray, List.set_cons_zero, List.set_cons_succ]
                refine org_pure (v := ?_) (by kernel_rfl) ?_ ?_
                rotate_left
                · intro w' hv; clear hv; go_simp; try with_reducible rfl
                try simp only [Act.put, List.setIfInBounds_toArray, List.set_cons_zero, List.set_cons_succ]
                refine org_pure (v := ?_) (by kernel_rfl) ?_ ?_
                rotate_left
                · intro w' hv; clear hv; go_simp; try with_reducible rfl
                try simp only [Act.put, List.setIfInBounds_toArray, List.set_cons_zero, List.set_cons_succ]
                refine org_pure (v := ?_) (by kernel_rfl) ?_ ?_
                rotate_left
                · intro w' hv; clear hv; go_simp; try with_reducible rfl
                try simp only [Act.put, List.setIfInBounds_toArray, List.set_cons_zero, List.set_cons_succ]
                refine org_pure (v := ?_) (by kernel_rfl) ?_ ?_
                rotate_left
                · intro w' hv; clear hv; go_simp; try with_reducible rfl
                try simp only [Act.put, List.setIfInBounds_toArray, List.set_cons_zero, List.set_cons_succ]
                refine org_pure (v := ?_) (by kernel_rfl) ?_ ?_
                rotate_left
                · intro w' hv; clear hv; go_simp; try with_reducible rfl
                try simp only [Act.put, List.setIfInBounds_toArray, List.set_cons_zero, List.set_cons_succ]
                refine org_pure (v := ?_) (by kernel_rfl) ?_ ?_
                rotate_left
                · intro w' hv; clear hv; go_simp; try with_reducible rfl
                try simp only [Act.put, List.setIfInBounds_toArray, List.set_cons_zero, List.set_cons_succ]
                refine org_pure (v := ?_) (by kernel_rfl) ?_ ?_
                rotate_left
                · intro w' hv; clear hv; go_simp; try with_reducible rfl
                try simp only [Act.put, List.setIfInBounds_toArray, List.set_cons_zero, List.set_cons_succ]
                refine org_pure (v := ?_) (by kernel_rfl) ?_ ?_
                rotate_left
                · intro w' hv; have cx := HCY.out w' (HB.out.trans (Below.mono hv HB.out.size)); clear hv; go_simp; try with_reducible rfl
                try simp only [Act.put, List.setIfInBounds_toArray, List.set_cons_zero, List.set_cons_succ]
                refine org_pure (v := ?_) (by kernel_rfl) ?_ ?_
                rotate_left
                · intro w' hv; clear hv; go_simp; try with_reducible rfl
                try simp only [Act.put, List.setIfInBounds_toArray, List.set_cons_zero, List.set_cons_succ]
                refine org_pure (v := ?_) (by kernel_rfl) ?_ ?_
                rotate_left
                · intro w' hv; have cx := (HBX3.out w' (HBK.out.trans (Below.mono hv HBK.out.size))).1; clear hv; go_simp; try with_reducible rfl
                try simp only [Act.put, List.setIfInBounds_toArray, List.set_cons_zero, List.set_cons_succ]
                refine org_step (by kernel_rfl) (fun K hK => ?_)
                go_wp2_with fail
                refine (HCM.out _).mono ?_
                rintro e wx ⟨rfl, hb⟩
                have HE2 := Lib.hid hb
                replace HB := Lib.hid (HB.out.trans (hb.mono HB.out.size))
                replace HBK := Lib.hid (HBK.out.trans (hb.mono HBK.out.size))
                clear hb
                refine hK _ _ ⟨HE2.out, ?_⟩
                clear hK HE2
                try simp only [Act.put, List.setIfInBounds_toArray, List.set_cons_zero, List.set_cons_succ]
                refine org_pure (v := ?_) (by kernel_rfl) ?_ ?_
                rotate_left
                · intro w' hv; clear hv; go_simp; try with_reducible rfl
                try simp only [Act.put, List.setIfInBounds_toArray, List.set_cons_zero, List.set_cons_succ]
                refine org_pure (v := ?_) (by kernel_rfl) ?_ ?_
                rotate_left
                · intro w' hv; clear hv; go_simp; try with_reducible rfl
                try simp only [Act.put, List.setIfInBounds_toArray, List.set_cons_zero, List.set_cons_succ]
                refine org_pure (v := ?_) (by kernel_rfl) ?_ ?_
                rotate_left
                · intro w' hv; clear hv; go_simp; try with_reducible rfl
                try simp only [Act.put, List.setIfInBounds_toArray, List.set_cons_zero, List.set_cons_succ]
                refine org_pure (v := ?_) (by kernel_rfl) ?_ ?_
                rotate_left
                · intro w' hv; clear hv; go_simp; try with_reducible rfl
                try simp only [Act.put, List.setIfInBounds_toArray, List.set_cons_zero, List.set_cons_succ]
                refine org_pure (v := ?_) (by kernel_rfl) ?_ ?_
                rotate_left
                · intro w' hv; clear hv; go_simp; try with_reducible rfl
                try simp only [Act.put, List.setIfInBounds_toArray, List.set_cons_zero, List.set_cons_succ]
                refine org_pure (v := ?_) (by kernel_rfl) ?_ ?_
                rotate_left
                · intro w' hv; have cx := (HBX3.out w' (HBK.out.trans (Below.mono hv HBK.out.size))).2.1; clear hv; go_simp; try with_reducible rfl
                try simp only [Act.put, List.setIfInBounds_toArray, List.set_cons_zero, List.set_cons_succ]
                refine org_pure (v := ?_) (by kernel_rfl) ?_ ?_
                rotate_left
                · intro w' hv; clear hv; go_simp; try with_reducible rfl
                try simp only [Act.put, List.setIfInBounds_toArray, List.set_cons_zero, List.set_cons_succ]
                refine org_pure (v := ?_) (by kernel_rfl) ?_ ?_
                rotate_left
                · intro w' hv; clear hv; go_simp; try with_reducible rfl
                try simp only [Act.put, List.setIfInBounds_toArray, List.set_cons_zero, List.set_cons_succ]
                refine org_pure (v := ?_) (by kernel_rfl) ?_ ?_
                rotate_left
                · intro w' hv; have cx := (HBX3.out w' (HBK.out.trans (Below.mono hv HBK.out.size))).2.2; clear hv; go_simp; try with_reducible rfl
                try simp only [Act.put, List.setIfInBounds_toArray, List.set_cons_zero, List.set_cons_succ]
                refine org_pure (v := ?_) (by kernel_rfl) ?_ ?_
                rotate_left
                · intro w' hv; clear hv; go_simp; try with_reducible rfl
                try simp only [Act.put, List.setIfInBounds_toArray, List.set_cons_zero, List.set_cons_succ]
                refine org_pure (v := ?_) (by kernel_rfl) ?_ ?_
                rotate_left
                · intro w' hv; clear hv; go_simp; try with_reducible rfl
                try simp only [Act.put, List.setIfInBounds_toArray, List.set_cons_zero, List.set_cons_succ]
                refine org_pure (v := ?_) (by kernel_rfl) ?_ ?_
                rotate_left
                · intro w' hv; clear hv; go_simp; try with_reducible rfl
                try simp only [Act.put, List.setIfInBounds_toArray, List.set_cons_zero, List.set_cons_succ]
                refine org_pure (v := ?_) (by kernel_rfl) ?_ ?_
                rotate_left
                · intro w' hv; clear hv; go_simp; try with_reducible rfl
                try simp only [Act.put, List.setIfInBounds_toArray, List.set_cons_zero, List.set_cons_succ]
                refine org_pure (v := ?_) (by kernel_rfl) ?_ ?_
                rotate_left
                · intro w' hv; clear hv; go_simp; try with_reducible rfl
                try simp only [Act.put, List.setIfInBounds_toArray, List.set_cons_zero, List.set_cons_succ]
                refine org_pure (v := ?_) (by kernel_rfl) ?_ ?_
                rotate_left
                · intro w' hv; clear hv; go_simp; try with_reducible rfl
                try simp only [Act.put, List.setIfInBounds_toArray, List.set_cons_zero, List.set_cons_succ]
                refine org_pure (v := ?_) (by kernel_rfl) ?_ ?_
                rotate_left
                · intro w' hv; have cx := (HBX3.out w' (HBK.out.trans (Below.mono hv HBK.out.size))).2.2; clear hv; go_simp; try with_reducible rfl
                try simp only [Act.put, List.setIfInBounds_toArray, List.set_cons_zero, List.set_cons_succ]
                refine org_pure (v := ?_) (by kernel_rfl) ?_ ?_
                rotate_left
                · intro w' hv; clear hv; go_simp; try with_reducible rfl
                try simp only [Act.put, List.setIfInBounds_toArray, List.set_cons_zero, List.set_cons_succ]
                refine org_pure (v := ?_) (by kernel_rfl) ?_ ?_
                rotate_left
                · intro w' hv; clear hv; go_simp; try with_reducible rfl
                try simp only [Act.put, List.setIfInBounds_toArray, List.set_cons_zero, List.set_cons_succ]
                refine org_pure (v := ?_) (by kernel_rfl) ?_ ?_
                rotate_left
                · intro w' hv; clear hv; go_simp; try with_reducible rfl
                try simp only [Act.put, List.setIfInBounds_toArray, List.set_cons_zero, List.set_cons_succ]
                refine org_nil ?_
                obtain ⟨e1, e2, e3⟩ := HBX3.out wx HBK.out
                go_wp2_with fail
                refine (HU.out _).mono ?_
                rintro e wu ⟨rfl, hb⟩
                replace HB := Lib.hid (HB.out.trans (hb.mono HB.out.size))
                replace HBK := Lib.hid (HBK.out.trans (hb.mono HBK.out.size))
                clear hb e1 e2 e3
                go_wp2_with fail
                refine (HAT.out _ ((HS.out.keep HB.out).more HB.out.size)).mono ?_
                rintro e wa ⟨rfl, rfl⟩
                by_cases hU : U.data = #[]
                · have HNX := Lib.hid (HNEXT.out (by rw [HOKE2.out, HUB1.out hU]))
                  have k1 := no_text hU
                  have k2 : (U.toList == []) = true := by rw [k1]; rfl
                  have k3 : (U.toList != []) = false := by rw [k1]; rfl
                  have k4 : U.toList.isEmpty = true := by rw [k1]; rfl
                  clear hU
                  go_wp2_with fail
                  go_roundw
                  case rel => exact ⟨i + 1, by omega, by go_num, HNX.out, HB.out⟩
                  case measure => simp [intOf]; omega
                · have k1 := some_text hU
                  have k2 : (U.toList == []) = false := by rw [beq_eq_false_iff_ne]; intro e; rw [e] at k1; cases k1
                  have k3 : (U.toList != []) = true := by simp [bne, k2]
                  by_cases h0 : Kat < 0
                  · have hv : V = false := HBAD.out (by rw [HOKE2.out, HUB2.out hU h0])
                    subst hv
                    clear hU
                    go_wp2_with fail
                    go_ret
                    exact ⟨rfl, HB.out⟩
                  · obtain ⟨k, hkk⟩ : ∃ k : Nat, Kat = (k : Int) := ⟨Kat.toNat, by omega⟩
                    have hk : k < C.length := by omega
                    obtain ⟨a2, ha2, _, hc2⟩ := HS.out.ent hk
                    cases ha2
                    have hd : dirT C k = C[k].2.1 := by unfold dirT; rw [List.getElem?_eq_getElem hk]; rfl
                    have hub := HUB3.out hU k hkk
                    rw [hd] at hub
                    have HCK : Hid (∀ w', Below w.heap.size w w' → w'.cell? ⟨(a.add (k * 3)).block, (a.add (k * 3)).off + 1, none⟩ = some (.bool C[k].2.1)) := Lib.hid (fun w' hb => (hc2 w' hb).2.1)
                    have kk2 : ((k : Int) < 0) = False := by simp
                    have kl2 : (k : Int) < (C.length : Int) := by omega
                    clear hc2 hd hU h0
                    subst hkk
                    generalize C[k].2.1 = d2 at *
                    cases d2 with
                    | true =>
                      have HNX := Lib.hid (HNEXT.out (by rw [HOKE2.out, hub]))
                      clear hub
                      have c5 := HCK.out wu HB.out
                      go_wp2_with fail
                      go_roundw
                      case rel => exact ⟨i + 1, by omega, by go_num, HNX.out, HB.out⟩
                      case measure => simp [intOf]; omega
                    | false =>
                      have hv : V = false := HBAD.out (by rw [HOKE2.out, hub])
                      subst hv
                      clear hub
                      have c5 := HCK.out wu HB.out
                      go_wp2_with fail
                      go_ret
                      exact ⟨rfl, HB.out⟩
            | false =>
              by_cases hn1 : 2048 < n
              · have n0 : (2048 : Int) < (n : Int) := by omega
                have hv : V = false := HBAD.out (by rw [HOKE.out, hpv, hg, decide_eq_false (show ¬ n ≤ 2048 by omega)]; simp)
                subst hv
                refine wp_region_org [(0, true), (1, true), (2, false), (3, true), (4, true), (5, true), (6, true), (7, true), (8, true), (9, true), (10, true), (11, true), (12, true), (13, true), (14, true), (15, true), (16, false), (17, true), (18, true), (19, true), (20, true), (21, true), (22, true), (23, true), (24, true), (25, true), (26, true), (27, true), (28, true), (29, true), (30, true), (31, true), (32, true), (33, true), (34, true), (35, true)] (by kernel_rfl) (by kernel_rfl) (by kernel_rfl) ?_
                replace HB := Lib.hid HB.out.drew
                replace HBK := Lib.hid HBK.out.drew
                generalize wb.drew = wd at *
                simp only [pickOrs, List.getElem?_cons_zero, List.getElem?_cons_succ]
                refine org_pure (v := ?_) (by kernel_rfl) ?_ ?_
                rotate_left
                · intro w' hv; clear hv; go_simp; try with_reducible rfl
                try simp only [Act.put, List.setIfInBounds_toArray, List.set_cons_zero, List.set_cons_succ]
                refine org_pure (v := ?_) (by kernel_rfl) ?_ ?_
                rotate_left
                · intro w' hv; have cx := (HBX3.out w' (HBK.out.trans (Below.mono hv HBK.out.size))).1; clear hv; go_simp; try with_reducible rfl
                try simp only [Act.put, List.setIfInBounds_toArray, List.set_cons_zero, List.set_cons_succ]
                refine org_step (by kernel_rfl) (fun K hK => ?_)
                go_wp2_with fail
                refine (HG.out _).mono ?_
                rintro e wg ⟨rfl, hb⟩
                have HE2 := Lib.hid hb
                replace HB := Lib.hid (HB.out.trans (hb.mono HB.out.size))
                replace HBK := Lib.hid (HBK.out.trans (hb.mono HBK.out.size))
                clear hb
                refine hK _ _ ⟨HE2.out, ?_⟩
                clear hK HE2
                try simp only [Act.put, List.setIfInBounds_toArray, List.set_cons_zero, List.set_cons_succ]
                refine org_pure (v := ?_) (by kernel_rfl) ?_ ?_
                rotate_left
                · intro w' hv; clear hv; go_simp; try with_reducible rfl
                try simp only [Act.put, List.setIfInBounds_toArray, List.set_cons_zero, List.set_cons_succ]
                refine org_pure (v := ?_) (by kernel_rfl) ?_ ?_
                rotate_left
                · intro w' hv; clear hv; go_simp; try with_reducible rfl
                try simp only [Act.put, List.setIfInBounds_toArray, List.set_cons_zero, List.set_cons_succ]
                refine org_pure (v := ?_) (by kernel_rfl) ?_ ?_
                rotate_left
                · intro w' hv; clear hv; go_simp; try with_reducible rfl
                try simp only [Act.put, List.setIfInBounds_toArray, List.set_cons_zero, List.set_cons_succ]
                refine org_pure (v := ?_) (by kernel_rfl) ?_ ?_
                rotate_left
                · intro w' hv; clear hv; go_simp; try with_reducible rfl
                try simp only [Act.put, List.setIfInBounds_toArray, List.set_cons_zero, List.set_cons_succ]
                refine org_pure (v := ?_) (by kernel_rfl) ?_ ?_
                rotate_left
                · intro w' hv; clear hv; go_simp; try with_reducible rfl
                try simp only [Act.put, List.setIfInBounds_toArray, List.set_cons_zero, List.set_cons_succ]
                refine org_pure (v := ?_) (by kernel_rfl) ?_ ?_
                rotate_left
                · intro w' hv; clear hv; go_simp; try with_reducible rfl
                try simp only [Act.put, List.setIfInBounds_toArray, List.set_cons_zero, List.set_cons_succ]
                refine org_pure (v := ?_) (by kernel_rfl) ?_ ?_
                rotate_left
                · intro w' hv; clear hv; go_simp; try with_reducible rfl
                try simp only [Act.put, List.setIfInBounds_toArray, List.set_cons_zero, List.set_cons_succ]
                refine org_pure (v := ?_) (by kernel_rfl) ?_ ?_
                rotate_left
                · intro w' hv; clear hv; go_simp; try with_reducible rfl
                try simp only [Act.put, List.setIfInBounds_toArray, List.set_cons_zero, List.set_cons_succ]
                refine org_pure (v := ?_) (by kernel_rfl) ?_ ?_
                rotate_left
                · intro w' hv; clear hv; go_simp; try with_reducible rfl
                try simp only [Act.put, List.setIfInBounds_toArray, List.set_cons_zero, List.set_cons_succ]
                refine org_pure (v := ?_) (by kernel_rfl) ?_ ?_
                rotate_left
                · intro w' hv; clear hv; go_simp; try with_reducible rfl
                try simp only [Act.put, List.setIfInBounds_toArray, List.set_cons_zero, List.set_cons_succ]
                refine org_pure (v := ?_) (by kernel_rfl) ?_ ?_
                rotate_left
                · intro w' hv; have cx := HCY.out w' (HB.out.trans (Below.mono hv HB.out.size)); clear hv; go_simp; try with_reducible rfl
                try simp only [Act.put, List.setIfInBounds_toArray, List.set_cons_zero, List.set_cons_succ]
                refine org_pure (v := ?_) (by kernel_rfl) ?_ ?_
                rotate_left
                · intro w' hv; clear hv; go_simp; try with_reducible rfl
                try simp only [Act.put, List.setIfInBounds_toArray, List.set_cons_zero, List.set_cons_succ]
                refine org_pure (v := ?_) (by kernel_rfl) ?_ ?_
                rotate_left
                · intro w' hv; have cx := (HBX3.out w' (HBK.out.trans (Below.mono hv HBK.out.size))).1; clear hv; go_simp; try with_reducible rfl
                try simp only [Act.put, List.setIfInBounds_toArray, List.set_cons_zero, List.set_cons_succ]
                refine org_step (by kernel_rfl) (fun K hK => ?_)
                go_wp2_with fail
                refine (HCM.out _).mono ?_
                rintro e wx ⟨rfl, hb⟩
                have HE2 := Lib.hid hb
                replace HB := Lib.hid (HB.out.trans (hb.mono HB.out.size))
                replace HBK := Lib.hid (HBK.out.trans (hb.mono HBK.out.size))
                clear hb
                refine hK _ _ ⟨HE2.out, ?_⟩
                clear hK HE2
                try simp only [Act.put, List.setIfInBounds_toArray, List.set_cons_zero, List.set_cons_succ]
                refine org_pure (v := ?_) (by kernel_rfl) ?_ ?_
                rotate_left
                · intro w' hv; clear hv; go_simp; try with_reducible rfl
                try simp only [Act.put, List.setIfInBounds_toArray, List.set_cons_zero, List.set_cons_succ]
                refine org_pure (v := ?_) (by kernel_rfl) ?_ ?_
                rotate_left
                · intro w' hv; clear hv; go_simp; try with_reducible rfl
                try simp only [Act.put, List.setIfInBounds_toArray, List.set_cons_zero, List.set_cons_succ]
                refine org_pure (v := ?_) (by kernel_rfl) ?_ ?_
                rotate_left
                · intro w' hv; clear hv; go_simp; try with_reducible rfl
                try simp only [Act.put, List.setIfInBounds_toArray, List.set_cons_zero, List.set_cons_succ]
                refine org_pure (v := ?_) (by kernel_rfl) ?_ ?_
                rotate_left
                · intro w' hv; clear hv; go_simp; try with_reducible rfl
                try simp only [Act.put, List.setIfInBounds_toArray, List.set_cons_zero, List.set_cons_succ]
                refine org_pure (v := ?_) (by kernel_rfl) ?_ ?_
                rotate_left
                · intro w' hv; clear hv; go_simp; try with_reducible rfl
                try simp only [Act.put, List.setIfInBounds_toArray, List.set_cons_zero, List.set_cons_succ]
                refine org_pure (v := ?_) (by kernel_rfl) ?_ ?_
                rotate_left
                · intro w' hv; have cx := (HBX3.out w' (HBK.out.trans (Below.mono hv HBK.out.size))).2.1; clear hv; go_simp; try with_reducible rfl
                try simp only [Act.put, List.setIfInBounds_toArray, List.set_cons_zero, List.set_cons_succ]
                refine org_pure (v := ?_) (by kernel_rfl) ?_ ?_
                rotate_left
                · intro w' hv; clear hv; go_simp; try with_reducible rfl
                try simp only [Act.put, List.setIfInBounds_toArray, List.set_cons_zero, List.set_cons_succ]
                refine org_skip (by kernel_rfl) ?_
                try simp only [Act.put, List.setIfInBounds_toArray, List.set_cons_zero, List.set_cons_succ]
                refine org_skip (by kernel_rfl) ?_
                try simp only [Act.put, List.setIfInBounds_toArray, List.set_cons_zero, List.set_cons_succ]
                refine org_skip (by kernel_rfl) ?_
                try simp only [Act.put, List.setIfInBounds_toArray, List.set_cons_zero, List.set_cons_succ]
                refine org_skip (by kernel_rfl) ?_
                try simp only [Act.put, List.setIfInBounds_toArray, List.set_cons_zero, List.set_cons_succ]
                refine org_pure (v := ?_) (by kernel_rfl) ?_ ?_
                rotate_left
                · intro w' hv; clear hv; go_simp; try with_reducible rfl
                try simp only [Act.put, List.setIfInBounds_toArray, List.set_cons_zero, List.set_cons_succ]
                refine org_pure (v := ?_) (by kernel_rfl) ?_ ?_
                rotate_left
                · intro w' hv; clear hv; go_simp; try with_reducible rfl
                try simp only [Act.put, List.setIfInBounds_toArray, List.set_cons_zero, List.set_cons_succ]
                refine org_pure (v := ?_) (by kernel_rfl) ?_ ?_
                rotate_left
                · intro w' hv; clear hv; go_simp; try with_reducible rfl
                try simp only [Act.put, List.setIfInBounds_toArray, List.set_cons_zero, List.set_cons_succ]
                refine org_pure (v := ?_) (by kernel_rfl) ?_ ?_
                rotate_left
                · intro w' hv; clear hv; go_simp; try with_reducible rfl
                try simp only [Act.put, List.setIfInBounds_toArray, List.set_cons_zero, List.set_cons_succ]
                refine org_pure (v := ?_) (by kernel_rfl) ?_ ?_
                rotate_left
                · intro w' hv; have cx := (HBX3.out w' (HBK.out.trans (Below.mono hv HBK.out.size))).2.2; clear hv; go_simp; try with_reducible rfl
                try simp only [Act.put, List.setIfInBounds_toArray, List.set_cons_zero, List.set_cons_succ]
                refine org_pure (v := ?_) (by kernel_rfl) ?_ ?_
                rotate_left
                · intro w' hv; clear hv; go_simp; try with_reducible rfl
                try simp only [Act.put, List.setIfInBounds_toArray, List.set_cons_zero, List.set_cons_succ]
                refine org_pure (v := ?_) (by kernel_rfl) ?_ ?_
                rotate_left
                · intro w' hv; clear hv; go_simp; try with_reducible rfl
                try simp only [Act.put, List.setIfInBounds_toArray, List.set_cons_zero, List.set_cons_succ]
                refine org_pure (v := ?_) (by kernel_rfl) ?_ ?_
                rotate_left
                · intro w' hv; clear hv; go_simp; try with_reducible rfl
                try simp only [Act.put, List.setIfInBounds_toArray, List.set_cons_zero, List.set_cons_succ]
                refine org_nil ?_
                go_wp2_with fail
                go_ret
                exact ⟨rfl, HB.out⟩
              · have n0 : ¬ (2048 : Int) < (n : Int) := by omega
                have HOKE2 : Hid (okE C (prevOf C i) e0 = upB C x.data.toList) := Lib.hid (by rw [HOKE.out, hpv, hg, decide_eq_true (show n ≤ 2048 by omega)]; simp)
                refine wp_region_org [(0, true), (1, true), (2, false), (3, true), (4, true), (5, true), (6, true), (7, true), (8, true), (9, true), (10, true), (11, true), (12, true), (13, true), (14, true), (15, true), (16, false), (17, true), (18, true), (19, true), (20, true), (21, true), (22, true), (23, true), (24, true), (25, true), (26, true), (27, true), (28, true), (29, true), (30, true), (31, true), (32, true), (33, true), (34, true), (35, true)] (by kernel_rfl) (by kernel_rfl) (by kernel_rfl) ?_
                replace HB := Lib.hid HB.out.drew
                replace HBK := Lib.hid HBK.out.drew
                generalize wb.drew = wd at *
                simp only [pickOrs, List.getElem?_cons_zero, List.getElem?_cons_succ]
                refine org_pure (v := ?_) (by kernel_rfl) ?_ ?_
                rotate_left
                · intro w' hv; clear hv; go_simp; try with_reducible rfl
                try simp only [Act.put, List.setIfInBounds_toArray, List.set_cons_zero, List.set_cons_succ]
                refine org_pure (v := ?_) (by kernel_rfl) ?_ ?_
                rotate_left
                · intro w' hv; have cx := (HBX3.out w' (HBK.out.trans (Below.mono hv HBK.out.size))).1; clear hv; go_simp; try with_reducible rfl
                try simp only [Act.put, List.setIfInBounds_toArray, List.set_cons_zero, List.set_cons_succ]
                refine org_step (by kernel_rfl) (fun K hK => ?_)
                go_wp2_with fail
                refine (HG.out _).mono ?_
                rintro e wg ⟨rfl, hb⟩
                have HE2 := Lib.hid hb
                replace HB := Lib.hid (HB.out.trans (hb.mono HB.out.size))
                replace HBK := Lib.hid (HBK.out.trans (hb.mono HBK.out.size))
                clear hb
                refine hK _ _ ⟨HE2.out, ?_⟩
                clear hK HE2
                try simp only [Act.put, List.setIfInBounds_toArray, List.set_cons_zero, List.set_cons_succ]
                refine org_pure (v := ?_) (by kernel_rfl) ?_ ?_
                rotate_left
                · intro w' hv; clear hv; go_simp; try with_reducible rfl
                try simp only [Act.put, List.setIfInBounds_toArray, List.set_cons_zero, List.set_cons_succ]
                refine org_pure (v := ?_) (by kernel_rfl) ?_ ?_
                rotate_left
                · intro w' hv; clear hv; go_simp; try with_reducible rfl
                try simp only [Act.put, List.setIfInBounds_toArray, List.set_cons_zero, List.set_cons_succ]
                refine org_pure (v := ?_) (by kernel_rfl) ?_ ?_
                rotate_left
                · intro w' hv; clear hv; go_simp; try with_reducible rfl
                try simp only [Act.put, List.setIfInBounds_toArray, List.set_cons_zero, List.set_cons_succ]
                refine org_pure (v := ?_) (by kernel_rfl) ?_ ?_
                rotate_left
                · intro w' hv; clear hv; go_simp; try with_reducible rfl
                try simp only [Act.put, List.setIfInBounds_toArray, List.set_cons_zero, List.set_cons_succ]
                refine org_pure (v := ?_) (by kernel_rfl) ?_ ?_
                rotate_left
                · intro w' hv; clear hv; go_simp; try with_reducible rfl
                try simp only [Act.put, List.setIfInBounds_toArray, List.set_cons_zero, List.set_cons_succ]
                refine org_pure (v := ?_) (by kernel_rfl) ?_ ?_
                rotate_left
                · intro w' hv; clear hv; go_simp; try with_reducible rfl
                try simp only [Act.put, List.setIfInBounds_toArray, List.set_cons_zero, List.set_cons_succ]
                refine org_pure (v := ?_) (by kernel_rfl) ?_ ?_
                rotate_left
                · intro w' hv; clear hv; go_simp; try with_reducible rfl
                try simp only [Act.put, List.setIfInBounds_toArray, List.set_cons_zero, List.set_cons_succ]
                refine org_pure (v := ?_) (by kernel_rfl) ?_ ?_
                rotate_left
                · intro w' hv; clear hv; go_simp; try with_reducible rfl
                try simp only [Act.put, List.setIfInBounds_toArray, List.set_cons_zero, List.set_cons_succ]
                refine org_pure (v := ?_) (by kernel_rfl) ?_ ?_
                rotate_left
                · intro w' hv; clear hv; go_simp; try with_reducible rfl
                try simp only [Act.put, List.setIfInBounds_toArray, List.set_cons_zero, List.set_cons_succ]
                refine org_pure (v := ?_) (by kernel_rfl) ?_ ?_
                rotate_left
                · intro w' hv; clear hv; go_simp; try with_reducible rfl
                try simp only [Act.put, List.setIfInBounds_toArray, List.set_cons_zero, List.set_cons_succ]
                refine org_pure (v := ?_) (by kernel_rfl) ?_ ?_
                rotate_left
                · intro w' hv; have cx := HCY.out w' (HB.out.trans (Below.mono hv HB.out.size)); clear hv; go_simp; try with_reducible rfl
                try simp only [Act.put, List.setIfInBounds_toArray, List.set_cons_zero, List.set_cons_succ]
                refine org_pure (v := ?_) (by kernel_rfl) ?_ ?_
                rotate_left
                · intro w' hv; clear hv; go_simp; try with_reducible rfl
                try simp only [Act.put, List.setIfInBounds_toArray, List.set_cons_zero, List.set_cons_succ]
                refine org_pure (v := ?_) (by kernel_rfl) ?_ ?_
                rotate_left
                · intro w' hv; have cx := (HBX3.out w' (HBK.out.trans (Below.mono hv HBK.out.size))).1; clear hv; go_simp; try with_reducible rfl
                try simp only [Act.put, List.setIfInBounds_toArray, List.set_cons_zero, List.set_cons_succ]
                refine org_step (by kernel_rfl) (fun K hK => ?_)
                go_wp2_with fail
                refine (HCM.out _).mono ?_
                rintro e wx ⟨rfl, hb⟩
                have HE2 := Lib.hid hb
                replace HB := Lib.hid (HB.out.trans (hb.mono HB.out.size))
                replace HBK := Lib.hid (HBK.out.trans (hb.mono HBK.out.size))
                clear hb
                refine hK _ _ ⟨HE2.out, ?_⟩
                clear hK HE2
                try simp only [Act.put, List.setIfInBounds_toArray, List.set_cons_zero, List.set_cons_succ]
                refine org_pure (v := ?_) (by kernel_rfl) ?_ ?_
                rotate_left
                · intro w' hv; clear hv; go_simp; try with_reducible rfl
                try simp only [Act.put, List.setIfInBounds_toArray, List.set_cons_zero, List.set_cons_succ]
                refine org_pure (v := ?_) (by kernel_rfl) ?_ ?_
                rotate_left
                · intro w' hv; clear hv; go_simp; try with_reducible rfl
                try simp only [Act.put, List.setIfInBounds_toArray, List.set_cons_zero, List.set_cons_succ]
                refine org_pure (v := ?_) (by kernel_rfl) ?_ ?_
                rotate_left
                · intro w' hv; clear hv; go_simp; try with_reducible rfl
                try simp only [Act.put, List.setIfInBounds_toArray, List.set_cons_zero, List.set_cons_succ]
                refine org_pure (v := ?_) (by kernel_rfl) ?_ ?_
                rotate_left
                · intro w' hv; clear hv; go_simp; try with_reducible rfl
                try simp only [Act.put, List.setIfInBounds_toArray, List.set_cons_zero, List.set_cons_succ]
                refine org_pure (v := ?_) (by kernel_rfl) ?_ ?_
                rotate_left
                · intro w' hv; clear hv; go_simp; try with_reducible rfl
                try simp only [Act.put, List.setIfInBounds_toArray, List.set_cons_zero, List.set_cons_succ]
                refine org_pure (v := ?_) (by kernel_rfl) ?_ ?_
                rotate_left
                · intro w' hv; have cx := (HBX3.out w' (HBK.out.trans (Below.mono hv HBK.out.size))).2.1; clear hv; go_simp; try with_reducible rfl
                try simp only [Act.put, List.setIfInBounds_toArray, List.set_cons_zero, List.set_cons_succ]
                refine org_pure (v := ?_) (by kernel_rfl) ?_ ?_
                rotate_left
                · intro w' hv; clear hv; go_simp; try with_reducible rfl
                try simp only [Act.put, List.setIfInBounds_toArray, List.set_cons_zero, List.set_cons_succ]
                refine org_skip (by kernel_rfl) ?_
                try simp only [Act.put, List.setIfInBounds_toArray, List.set_cons_zero, List.set_cons_succ]
                refine org_skip (by kernel_rfl) ?_
                try simp only [Act.put, List.setIfInBounds_toArray, List.set_cons_zero, List.set_cons_succ]
                refine org_skip (by kernel_rfl) ?_
                try simp only [Act.put, List.setIfInBounds_toArray, List.set_cons_zero, List.set_cons_succ]
                refine org_skip (by kernel_rfl) ?_
                try simp only [Act.put, List.setIfInBounds_toArray, List.set_cons_zero, List.set_cons_succ]
                refine org_pure (v := ?_) (by kernel_rfl) ?_ ?_
                rotate_left
                · intro w' hv; clear hv; go_simp; try with_reducible rfl
                try simp only [Act.put, List.setIfInBounds_toArray, List.set_cons_zero, List.set_cons_succ]
                refine org_pure (v := ?_) (by kernel_rfl) ?_ ?_
                rotate_left
                · intro w' hv; clear hv; go_simp; try with_reducible rfl
                try simp only [Act.put, List.setIfInBounds_toArray, List.set_cons_zero, List.set_cons_succ]
                refine org_pure (v := ?_) (by kernel_rfl) ?_ ?_
                rotate_left
                · intro w' hv; clear hv; go_simp; try with_reducible rfl
                try simp only [Act.put, List.setIfInBounds_toArray, List.set_cons_zero, List.set_cons_succ]
                refine org_pure (v := ?_) (by kernel_rfl) ?_ ?_
                rotate_left
                · intro w' hv; clear hv; go_simp; try with_reducible rfl
                try simp only [Act.put, List.setIfInBounds_toArray, List.set_cons_zero, List.set_cons_succ]
                refine org_pure (v := ?_) (by kernel_rfl) ?_ ?_
                rotate_left
                · intro w' hv; have cx := (HBX3.out w' (HBK.out.trans (Below.mono hv HBK.out.size))).2.2; clear hv; go_simp; try with_reducible rfl
                try simp only [Act.put, List.setIfInBounds_toArray, List.set_cons_zero, List.set_cons_succ]
                refine org_pure (v := ?_) (by kernel_rfl) ?_ ?_
                rotate_left
                · intro w' hv; clear hv; go_simp; try with_reducible rfl
                try simp only [Act.put, List.setIfInBounds_toArray, List.set_cons_zero, List.set_cons_succ]
                refine org_pure (v := ?_) (by kernel_rfl) ?_ ?_
                rotate_left
                · intro w' hv; clear hv; go_simp; try with_reducible rfl
                try simp only [Act.put, List.setIfInBounds_toArray, List.set_cons_zero, List.set_cons_succ]
                refine org_pure (v := ?_) (by kernel_rfl) ?_ ?_
                rotate_left
                · intro w' hv; clear hv; go_simp; try with_reducible rfl
                try simp only [Act.put, List.setIfInBounds_toArray, List.set_cons_zero, List.set_cons_succ]
                refine org_nil ?_
                obtain ⟨e1, e2, e3⟩ := HBX3.out wx HBK.out
                go_wp2_with fail
                refine (HU.out _).mono ?_
                rintro e wu ⟨rfl, hb⟩
                replace HB := Lib.hid (HB.out.trans (hb.mono HB.out.size))
                replace HBK := Lib.hid (HBK.out.trans (hb.mono HBK.out.size))
                clear hb e1 e2 e3
                go_wp2_with fail
                refine (HAT.out _ ((HS.out.keep HB.out).more HB.out.size)).mono ?_
                rintro e wa ⟨rfl, rfl⟩
                by_cases hU : U.data = #[]
                · have HNX := Lib.hid (HNEXT.out (by rw [HOKE2.out, HUB1.out hU]))
                  have k1 := no_text hU
                  have k2 : (U.toList == []) = true := by rw [k1]; rfl
                  have k3 : (U.toList != []) = false := by rw [k1]; rfl
                  have k4 : U.toList.isEmpty = true := by rw [k1]; rfl
                  clear hU
                  go_wp2_with fail
                  go_roundw
                  case rel => exact ⟨i + 1, by omega, by go_num, HNX.out, HB.out⟩
                  case measure => simp [intOf]; omega
                · have k1 := some_text hU
                  have k2 : (U.toList == []) = false := by rw [beq_eq_false_iff_ne]; intro e; rw [e] at k1; cases k1
                  have k3 : (U.toList != []) = true := by simp [bne, k2]
                  by_cases h0 : Kat < 0
                  · have hv : V = false := HBAD.out (by rw [HOKE2.out, HUB2.out hU h0])
                    subst hv
                    clear hU
                    go_wp2_with fail
                    go_ret
                    exact ⟨rfl, HB.out⟩
                  · obtain ⟨k, hkk⟩ : ∃ k : Nat, Kat = (k : Int) := ⟨Kat.toNat, by omega⟩
                    have hk : k < C.length := by omega
                    obtain ⟨a2, ha2, _, hc2⟩ := HS.out.ent hk
                    cases ha2
                    have hd : dirT C k = C[k].2.1 := by unfold dirT; rw [List.getElem?_eq_getElem hk]; rfl
                    have hub := HUB3.out hU k hkk
                    rw [hd] at hub
                    have HCK : Hid (∀ w', Below w.heap.size w w' → w'.cell? ⟨(a.add (k * 3)).block, (a.add (k * 3)).off + 1, none⟩ = some (.bool C[k].2.1)) := Lib.hid (fun w' hb => (hc2 w' hb).2.1)
                    have kk2 : ((k : Int) < 0) = False := by simp
                    have kl2 : (k : Int) < (C.length : Int) := by omega
                    clear hc2 hd hU h0
                    subst hkk
                    generalize C[k].2.1 = d2 at *
                    cases d2 with
                    | true =>
                      have HNX := Lib.hid (HNEXT.out (by rw [HOKE2.out, hub]))
                      clear hub
                      have c5 := HCK.out wu HB.out
                      go_wp2_with fail
                      go_roundw
                      case rel => exact ⟨i + 1, by omega, by go_num, HNX.out, HB.out⟩
                      case measure => simp [intOf]; omega
                    | false =>
                      have hv : V = false := HBAD.out (by rw [HOKE2.out, hub])
                      subst hv
                      clear hub
                      have c5 := HCK.out wu HB.out
                      go_wp2_with fail
                      go_ret
                      exact ⟨rfl, HB.out⟩
        · have hpv : prevB (prevOf C i) x.data.toList = true := by unfold prevOf; rw [if_pos (by omega)]; rfl
          have k0 : ¬ (0 : Int) < (i : Int) := by omega
          cases d with
          | true =>
            by_cases hn0 : 0 < n
            · have n0 : (0 : Int) < (n : Int) := by omega
              have hv : V = false := HBAD.out (by rw [HOKE.out, hpv, hg, decide_eq_true hn0]; simp)
              subst hv
              refine wp_region_org [(0, true), (1, true), (2, false), (3, true), (4, true), (5, true), (6, true), (7, true), (8, true), (9, true), (10, true), (11, true), (12, true), (13, true), (14, true), (15, true), (16, false), (17, true), (18, true), (19, true), (20, true), (21, true), (22, true), (23, true), (24, true), (25, true), (26, true), (27, true), (28, true), (29, true), (30, true), (31, true), (32, true), (33, true), (34, true), (35, true)] (by kernel_rfl) (by kernel_rfl) (by kernel_rfl) ?_
              replace HB := Lib.hid HB.out.drew
              replace HBK := Lib.hid HBK.out.drew
              generalize wb.drew = wd at *
              simp only [pickOrs, List.getElem?_cons_zero, List.getElem?_cons_succ]
              refine org_pure (v := ?_) (by kernel_rfl) ?_ ?_
              rotate_left
              · intro w' hv; clear hv; go_simp; try with_reducible rfl
              try simp only [Act.put, List.setIfInBounds_toArray, List.set_cons_zero, List.set_cons_succ]
              refine org_pure (v := ?_) (by kernel_rfl) ?_ ?_
              rotate_left
              · intro w' hv; have cx := (HBX3.out w' (HBK.out.trans (Below.mono hv HBK.out.size))).1; clear hv; go_simp; try with_reducible rfl
              try simp only [Act.put, List.setIfInBounds_toArray, List.set_cons_zero, List.set_cons_succ]
              refine org_step (by kernel_rfl) (fun K hK => ?_)
              go_wp2_with fail
              refine (HG.out _).mono ?_
              rintro e wg ⟨rfl, hb⟩
              have HE2 := Lib.hid hb
              replace HB := Lib.hid (HB.out.trans (hb.mono HB.out.size))
              replace HBK := Lib.hid (HBK.out.trans (hb.mono HBK.out.size))
              clear hb
              refine hK _ _ ⟨HE2.out, ?_⟩
              clear hK HE2
              try simp only [Act.put, List.setIfInBounds_toArray, List.set_cons_zero, List.set_cons_succ]
              refine org_pure (v := ?_) (by kernel_rfl) ?_ ?_
              rotate_left
              · intro w' hv; clear hv; go_simp; try with_reducible rfl
              try simp only [Act.put, List.setIfInBounds_toArray, List.set_cons_zero, List.set_cons_succ]
              refine org_pure (v := ?_) (by kernel_rfl) ?_ ?_
              rotate_left
              · intro w' hv; clear hv; go_simp; try with_reducible rfl
              try simp only [Act.put, List.setIfInBounds_toArray, List.set_cons_zero, List.set_cons_succ]
              refine org_pure (v := ?_) (by kernel_rfl) ?_ ?_
              rotate_left
              · intro w' hv; clear hv; go_simp; try with_reducible rfl
              try simp only [Act.put, List.setIfInBounds_toArray, List.set_cons_zero, List.set_cons_succ]
              refine org_pure (v := ?_) (by kernel_rfl) ?_ ?_
              rotate_left
              · intro w' hv; clear hv; go_simp; try with_reducible rfl
              try simp only [Act.put, List.setIfInBounds_toArray, List.set_cons_zero, List.set_cons_succ]
              refine org_pure (v := ?_) (by kernel_rfl) ?_ ?_
              rotate_left
              · intro w' hv; clear hv; go_simp; try with_reducible rfl
              try simp only [Act.put, List.setIfInBounds_toArray, List.set_cons_zero, List.set_cons_succ]
              refine org_skip (by kernel_rfl) ?_
              try simp only [Act.put, List.setIfInBounds_toArray, List.set_cons_zero, List.set_cons_succ]
              refine org_skip (by kernel_rfl) ?_
              try simp only [Act.put, List.setIfInBounds_toArray, List.set_cons_zero, List.set_cons_succ]
              refine org_skip (by kernel_rfl) ?_
              try simp only [Act.put, List.setIfInBounds_toArray, List.set_cons_zero, List.set_cons_succ]
              refine org_skip (by kernel_rfl) ?_
              try simp only [Act.put, List.setIfInBounds_toArray, List.set_cons_zero, List.set_cons_succ]
              refine org_skip (by kernel_rfl) ?_
              try simp only [Act.put, List.setIfInBounds_toArray, List.set_cons_zero, List.set_cons_succ]
              refine org_skip (by kernel_rfl) ?_
              try simp only [Act.put, List.setIfInBounds_toArray, List.set_cons_zero, List.set_cons_succ]
              refine org_skip (by kernel_rfl) ?_
              try simp only [Act.put, List.setIfInBounds_toArray, List.set_cons_zero, List.set_cons_succ]
              refine org_skip (by kernel_rfl) ?_
              try simp only [Act.put, List.setIfInBounds_toArray, List.set_cons_zero, List.set_cons_succ]
              refine org_pass (by kernel_rfl) ?_
              try simp only [Act.put, List.setIfInBounds_toArray, List.set_cons_zero, List.set_cons_succ]
              refine org_skip (by kernel_rfl) ?_
              try simp only [Act.put, List.setIfInBounds_toArray, List.set_cons_zero, List.set_cons_succ]
              refine org_pure (v := ?_) (by kernel_rfl) ?_ ?_
              rotate_left
              · intro w' hv; clear hv; go_simp; try with_reducible rfl
              try simp only [Act.put, List.setIfInBounds_toArray, List.set_cons_zero, List.set_cons_succ]
              refine org_pure (v := ?_) (by kernel_rfl) ?_ ?_
              rotate_left
              · intro w' hv; clear hv; go_simp; try with_reducible rfl
              try simp only [Act.put, List.setIfInBounds_toArray, List.set_cons_zero, List.set_cons_succ]
              refine org_pure (v := ?_) (by kernel_rfl) ?_ ?_
              rotate_left
              · intro w' hv; clear hv; go_simp; try with_reducible rfl
              try simp only [Act.put, List.setIfInBounds_toArray, List.set_cons_zero, List.set_cons_succ]
              refine org_pure (v := ?_) (by kernel_rfl) ?_ ?_
              rotate_left
              · intro w' hv; clear hv; go_simp; try with_reducible rfl
              try simp only [Act.put, List.setIfInBounds_toArray, List.set_cons_zero, List.set_cons_succ]
              refine org_pure (v := ?_) (by kernel_rfl) ?_ ?_
              rotate_left
              · intro w' hv; have cx := (HBX3.out w' (HBK.out.trans (Below.mono hv HBK.out.size))).2.1; clear hv; go_simp; try with_reducible rfl
              try simp only [Act.put, List.setIfInBounds_toArray, List.set_cons_zero, List.set_cons_succ]
              refine org_pure (v := ?_) (by kernel_rfl) ?_ ?_
              rotate_left
              · intro w' hv; clear hv; go_simp; try with_reducible rfl
              try simp only [Act.put, List.setIfInBounds_toArray, List.set_cons_zero, List.set_cons_succ]
              refine org_pure (v := ?_) (by kernel_rfl) ?_ ?_
              rotate_left
              · intro w' hv; clear hv; go_simp; try with_reducible rfl
              try simp only [Act.put, List.setIfInBounds_toArray, List.set_cons_zero, List.set_cons_succ]
              refine org_pure (v := ?_) (by kernel_rfl) ?_ ?_
              rotate_left
              · intro w' hv; have cx := (HBX3.out w' (HBK.out.trans (Below.mono hv HBK.out.size))).2.2; clear hv; go_simp; try with_reducible rfl
              try simp only [Act.put, List.setIfInBounds_toArray, List.set_cons_zero, List.set_cons_succ]
              refine org_pure (v := ?_) (by kernel_rfl) ?_ ?_
              rotate_left
              · intro w' hv; clear hv; go_simp; try with_reducible rfl
              try simp only [Act.put, List.setIfInBounds_toArray, List.set_cons_zero, List.set_cons_succ]
              refine org_pure (v := ?_) (by kernel_rfl) ?_ ?_
              rotate_left
              · intro w' hv; clear hv; go_simp; try with_reducible rfl
              try simp only [Act.put, List.setIfInBounds_toArray, List.set_cons_zero, List.set_cons_succ]
              refine org_pure (v := ?_) (by kernel_rfl) ?_ ?_
              rotate_left
              · intro w' hv; clear hv; go_simp; try with_reducible rfl
              try simp only [Act.put, List.setIfInBounds_toArray, List.set_cons_zero, List.set_cons_succ]
              refine org_pure (v := ?_) (by kernel_rfl) ?_ ?_
              rotate_left
              · intro w' hv; clear hv; go_simp; try with_reducible rfl
              try simp only [Act.put, List.setIfInBounds_toArray, List.set_cons_zero, List.set_cons_succ]
              refine org_pure (v := ?_) (by kernel_rfl) ?_ ?_
              rotate_left
              · intro w' hv; clear hv; go_simp; try with_reducible rfl
              try simp only [Act.put, List.setIfInBounds_toArray, List.set_cons_zero, List.set_cons_succ]
              refine org_skip (by kernel_rfl) ?_
              try simp only [Act.put, List.setIfInBounds_toArray, List.set_cons_zero, List.set_cons_succ]
              refine org_skip (by kernel_rfl) ?_
              try simp only [Act.put, List.setIfInBounds_toArray, List.set_cons_zero, List.set_cons_succ]
              refine org_skip (by kernel_rfl) ?_
              try simp only [Act.put, List.setIfInBounds_toArray, List.set_cons_zero, List.set_cons_succ]
              refine org_skip (by kernel_rfl) ?_
              try simp only [Act.put, List.setIfInBounds_toArray, List.set_cons_zero, List.set_cons_succ]
              refine org_pure (v := ?_) (by kernel_rfl) ?_ ?_
              rotate_left
              · intro w' hv; clear hv; go_simp; try with_reducible rfl
              try simp only [Act.put, List.setIfInBounds_toArray, List.set_cons_zero, List.set_cons_succ]
              refine org_nil ?_
              go_wp2_with fail
              go_ret
              exact ⟨rfl, HB.out⟩
            · have n0 : ¬ (0 : Int) < (n : Int) := by omega
              have n1 : ¬ (2048 : Int) < (n : Int) := by omega
              have n2 : ¬ 2048 < n := by omega
              have HOKE2 : Hid (okE C (prevOf C i) e0 = upB C x.data.toList) := Lib.hid (by rw [HOKE.out, hpv, hg, decide_eq_false hn0, decide_eq_true (show n ≤ 2048 by omega)]; simp)
              refine wp_region_org [(0, true), (1, true), (2, false), (3, true), (4, true), (5, true), (6, true), (7, true), (8, true), (9, true), (10, true), (11, true), (12, true), (13, true), (14, true), (15, true), (16, false), (17, true), (18, true), (19, true), (20, true), (21, true), (22, true), (23, true), (24, true), (25, true), (26, true), (27, true), (28, true), (29, true), (30, true), (31, true), (32, true), (33, true), (34, true), (35, true)] (by kernel_rfl) (by kernel_rfl) (by kernel_rfl) ?_
              replace HB := Lib.hid HB.out.drew
              replace HBK := Lib.hid HBK.out.drew
              generalize wb.drew = wd at *
              simp only [pickOrs, List.getElem?_cons_zero, List.getElem?_cons_succ]
              refine org_pure (v := ?_) (by kernel_rfl) ?_ ?_
              rotate_left
              · intro w' hv; clear hv; go_simp; try with_reducible rfl
              try simp only [Act.put, List.setIfInBounds_toArray, List.set_cons_zero, List.set_cons_succ]
              refine org_pure (v := ?_) (by kernel_rfl) ?_ ?_
              rotate_left
              · intro w' hv; have cx := (HBX3.out w' (HBK.out.trans (Below.mono hv HBK.out.size))).1; clear hv; go_simp; try with_reducible rfl
              try simp only [Act.put, List.setIfInBounds_toArray, List.set_cons_zero, List.set_cons_succ]
              refine org_step (by kernel_rfl) (fun K hK => ?_)
              go_wp2_with fail
              refine (HG.out _).mono ?_
              rintro e wg ⟨rfl, hb⟩
              have HE2 := Lib.hid hb
              replace HB := Lib.hid (HB.out.trans (hb.mono HB.out.size))
              replace HBK := Lib.hid (HBK.out.trans (hb.mono HBK.out.size))
              clear hb
              refine hK _ _ ⟨HE2.out, ?_⟩
              clear hK HE2
              try simp only [Act.put, List.setIfInBounds_toArray, List.set_cons_zero, List.set_cons_succ]
              refine org_pure (v := ?_) (by kernel_rfl) ?_ ?_
              rotate_left
              · intro w' hv; clear hv; go_simp; try with_reducible rfl
              try simp only [Act.put, List.setIfInBounds_toArray, List.set_cons_zero, List.set_cons_succ]
              refine org_pure (v := ?_) (by kernel_rfl) ?_ ?_
              rotate_left
              · intro w' hv; clear hv; go_simp; try with_reducible rfl
              try simp only [Act.put, List.setIfInBounds_toArray, List.set_cons_zero, List.set_cons_succ]
              refine org_pure (v := ?_) (by kernel_rfl) ?_ ?_
              rotate_left
              · intro w' hv; clear hv; go_simp; try with_reducible rfl
              try simp only [Act.put, List.setIfInBounds_toArray, List.set_cons_zero, List.set_cons_succ]
              refine org_pure (v := ?_) (by kernel_rfl) ?_ ?_
              rotate_left
              · intro w' hv; clear hv; go_simp; try with_reducible rfl
              try simp only [Act.put, List.setIfInBounds_toArray, List.set_cons_zero, List.set_cons_succ]
              refine org_pure (v := ?_) (by kernel_rfl) ?_ ?_
              rotate_left
              · intro w' hv; clear hv; go_simp; try with_reducible rfl
              try simp only [Act.put, List.setIfInBounds_toArray, List.set_cons_zero, List.set_cons_succ]
              refine org_skip (by kernel_rfl) ?_
              try simp only [Act.put, List.setIfInBounds_toArray, List.set_cons_zero, List.set_cons_succ]
              refine org_skip (by kernel_rfl) ?_
              try simp only [Act.put, List.setIfInBounds_toArray, List.set_cons_zero, List.set_cons_succ]
              refine org_skip (by kernel_rfl) ?_
              try simp only [Act.put, List.setIfInBounds_toArray, List.set_cons_zero, List.set_cons_succ]
              refine org_skip (by kernel_rfl) ?_
              try simp only [Act.put, List.setIfInBounds_toArray, List.set_cons_zero, List.set_cons_succ]
              refine org_skip (by kernel_rfl) ?_
              try simp only [Act.put, List.setIfInBounds_toArray, List.set_cons_zero, List.set_cons_succ]
              refine org_skip (by kernel_rfl) ?_
              try simp only [Act.put, List.setIfInBounds_toArray, List.set_cons_zero, List.set_cons_succ]
              refine org_skip (by kernel_rfl) ?_
              try simp only [Act.put, List.setIfInBounds_toArray, List.set_cons_zero, List.set_cons_succ]
              refine org_skip (by kernel_rfl) ?_
              try simp only [Act.put, List.setIfInBounds_toArray, List.set_cons_zero, List.set_cons_succ]
              refine org_pass (by kernel_rfl) ?_
              try simp only [Act.put, List.setIfInBounds_toArray, List.set_cons_zero, List.set_cons_succ]
              refine org_skip (by kernel_rfl) ?_
              try simp only [Act.put, List.setIfInBounds_toArray, List.set_cons_zero, List.set_cons_succ]
              refine org_pure (v := ?_) (by kernel_rfl) ?_ ?_
              rotate_left
              · intro w' hv; clear hv; go_simp; try with_reducible rfl
              try simp only [Act.put, List.setIfInBounds_toArray, List.set_cons_zero, List.set_cons_succ]
              refine org_pure (v := ?_) (by kernel_rfl) ?_ ?_
              rotate_left
              · intro w' hv; clear hv; go_simp; try with_reducible rfl
              try simp only [Act.put, List.setIfInBounds_toArray, List.set_cons_zero, List.set_cons_succ]
              refine org_pure (v := ?_) (by kernel_rfl) ?_ ?_
              rotate_left
              · intro w' hv; clear hv; go_simp; try with_reducible rfl
              try simp only [Act.put, List.setIfInBounds_toArray, List.set_cons_zero, List.set_cons_succ]
              refine org_pure (v := ?_) (by kernel_rfl) ?_ ?_
              rotate_left
              · intro w' hv; clear hv; go_simp; try with_reducible rfl
              try simp only [Act.put, List.setIfInBounds_toArray, List.set_cons_zero, List.set_cons_succ]
              refine org_pure (v := ?_) (by kernel_rfl) ?_ ?_
              rotate_left
              · intro w' hv; have cx := (HBX3.out w' (HBK.out.trans (Below.mono hv HBK.out.size))).2.1; clear hv; go_simp; try with_reducible rfl
              try simp only [Act.put, List.setIfInBounds_toArray, List.set_cons_zero, List.set_cons_succ]
              refine org_pure (v := ?_) (by kernel_rfl) ?_ ?_
              rotate_left
              · intro w' hv; clear hv; go_simp; try with_reducible rfl
              try simp only [Act.put, List.setIfInBounds_toArray, List.set_cons_zero, List.set_cons_succ]
              refine org_pure (v := ?_) (by kernel_rfl) ?_ ?_
              rotate_left
              · intro w' hv; clear hv; go_simp; try with_reducible rfl
              try simp only [Act.put, List.setIfInBounds_toArray, List.set_cons_zero, List.set_cons_succ]
              refine org_pure (v := ?_) (by kernel_rfl) ?_ ?_
              rotate_left
              · intro w' hv; have cx := (HBX3.out w' (HBK.out.trans (Below.mono hv HBK.out.size))).2.2; clear hv; go_simp; try with_reducible rfl
              try simp only [Act.put, List.setIfInBounds_toArray, List.set_cons_zero, List.set_cons_succ]
              refine org_pure (v := ?_) (by kernel_rfl) ?_ ?_
              rotate_left
              · intro w' hv; clear hv; go_simp; try with_reducible rfl
              try simp only [Act.put, List.setIfInBounds_toArray, List.set_cons_zero, List.set_cons_succ]
              refine org_pure (v := ?_) (by kernel_rfl) ?_ ?_
              rotate_left
              · intro w' hv; clear hv; go_simp; try with_reducible rfl
              try simp only [Act.put, List.setIfInBounds_toArray, List.set_cons_zero, List.set_cons_succ]
              refine org_pure (v := ?_) (by kernel_rfl) ?_ ?_
              rotate_left
              · intro w' hv; clear hv; go_simp; try with_reducible rfl
              try simp only [Act.put, List.setIfInBounds_toArray, List.set_cons_zero, List.set_cons_succ]
              refine org_pure (v := ?_) (by kernel_rfl) ?_ ?_
              rotate_left
              · intro w' hv; clear hv; go_simp; try with_reducible rfl
              try simp only [Act.put, List.setIfInBounds_toArray, List.set_cons_zero, List.set_cons_succ]
              refine org_pure (v := ?_) (by kernel_rfl) ?_ ?_
              rotate_left
              · intro w' hv; clear hv; go_simp; try with_reducible rfl
              try simp only [Act.put, List.setIfInBounds_toArray, List.set_cons_zero, List.set_cons_succ]
              refine org_pure (v := ?_) (by kernel_rfl) ?_ ?_
              rotate_left
              · intro w' hv; clear hv; go_simp; try with_reducible rfl
              try simp only [Act.put, List.setIfInBounds_toArray, List.set_cons_zero, List.set_cons_succ]
              refine org_pure (v := ?_) (by kernel_rfl) ?_ ?_
              rotate_left
              · intro w' hv; have cx := (HBX3.out w' (HBK.out.trans (Below.mono hv HBK.out.size))).2.2; clear hv; go_simp; try with_reducible rfl
              try simp only [Act.put, List.setIfInBounds_toArray, List.set_cons_zero, List.set_cons_succ]
              refine org_pure (v := ?_) (by kernel_rfl) ?_ ?_
              rotate_left
              · intro w' hv; clear hv; go_simp; try with_reducible rfl
              try simp only [Act.put, List.setIfInBounds_toArray, List.set_cons_zero, List.set_cons_succ]
              refine org_pure (v := ?_) (by kernel_rfl) ?_ ?_
              rotate_left
              · intro w' hv; clear hv; go_simp; try with_reducible rfl
              try simp only [Act.put, List.setIfInBounds_toArray, List.set_cons_zero, List.set_cons_succ]
              refine org_pure (v := ?_) (by kernel_rfl) ?_ ?_
              rotate_left
              · intro w' hv; clear hv; go_simp; try with_reducible rfl
              try simp only [Act.put, List.setIfInBounds_toArray, List.set_cons_zero, List.set_cons_succ]
              refine org_nil ?_
              obtain ⟨e1, e2, e3⟩ := HBX3.out wg HBK.out
              go_wp2_with fail
              refine (HU.out _).mono ?_
              rintro e wu ⟨rfl, hb⟩
              replace HB := Lib.hid (HB.out.trans (hb.mono HB.out.size))
              replace HBK := Lib.hid (HBK.out.trans (hb.mono HBK.out.size))
              clear hb e1 e2 e3
              go_wp2_with fail
              refine (HAT.out _ ((HS.out.keep HB.out).more HB.out.size)).mono ?_
              rintro e wa ⟨rfl, rfl⟩
              by_cases hU : U.data = #[]
              · have HNX := Lib.hid (HNEXT.out (by rw [HOKE2.out, HUB1.out hU]))
                have k1 := no_text hU
                have k2 : (U.toList == []) = true := by rw [k1]; rfl
                have k3 : (U.toList != []) = false := by rw [k1]; rfl
                have k4 : U.toList.isEmpty = true := by rw [k1]; rfl
                clear hU
                go_wp2_with fail
                go_roundw
                case rel => exact ⟨i + 1, by omega, by go_num, HNX.out, HB.out⟩
                case measure => simp [intOf]; omega
              · have k1 := some_text hU
                have k2 : (U.toList == []) = false := by rw [beq_eq_false_iff_ne]; intro e; rw [e] at k1; cases k1
                have k3 : (U.toList != []) = true := by simp [bne, k2]
                by_cases h0 : Kat < 0
                · have hv : V = false := HBAD.out (by rw [HOKE2.out, HUB2.out hU h0])
                  subst hv
                  clear hU
                  go_wp2_with fail
                  go_ret
                  exact ⟨rfl, HB.out⟩
                · obtain ⟨k, hkk⟩ : ∃ k : Nat, Kat = (k : Int) := ⟨Kat.toNat, by omega⟩
                  have hk : k < C.length := by omega
                  obtain ⟨a2, ha2, _, hc2⟩ := HS.out.ent hk
                  cases ha2
                  have hd : dirT C k = C[k].2.1 := by unfold dirT; rw [List.getElem?_eq_getElem hk]; rfl
                  have hub := HUB3.out hU k hkk
                  rw [hd] at hub
                  have HCK : Hid (∀ w', Below w.heap.size w w' → w'.cell? ⟨(a.add (k * 3)).block, (a.add (k * 3)).off + 1, none⟩ = some (.bool C[k].2.1)) := Lib.hid (fun w' hb => (hc2 w' hb).2.1)
                  have kk2 : ((k : Int) < 0) = False := by simp
                  have kl2 : (k : Int) < (C.length : Int) := by omega
                  clear hc2 hd hU h0
                  subst hkk
                  generalize C[k].2.1 = d2 at *
                  cases d2 with
                  | true =>
                    have HNX := Lib.hid (HNEXT.out (by rw [HOKE2.out, hub]))
                    clear hub
                    have c5 := HCK.out wu HB.out
                    go_wp2_with fail
                    go_roundw
                    case rel => exact ⟨i + 1, by omega, by go_num, HNX.out, HB.out⟩
                    case measure => simp [intOf]; omega
                  | false =>
                    have hv : V = false := HBAD.out (by rw [HOKE2.out, hub])
                    subst hv
                    clear hub
                    have c5 := HCK.out wu HB.out
                    go_wp2_with fail
                    go_ret
                    exact ⟨rfl, HB.out⟩
          | false =>
            by_cases hn1 : 2048 < n
            · have n0 : (2048 : Int) < (n : Int) := by omega
              have hv : V = false := HBAD.out (by rw [HOKE.out, hpv, hg, decide_eq_false (show ¬ n ≤ 2048 by omega)]; simp)
              subst hv
              refine wp_region_org [(0, true), (1, true), (2, false), (3, true), (4, true), (5, true), (6, true), (7, true), (8, true), (9, true), (10, true), (11, true), (12, true), (13, true), (14, true), (15, true), (16, false), (17, true), (18, true), (19, true), (20, true), (21, true), (22, true), (23, true), (24, true), (25, true), (26, true), (27, true), (28, true), (29, true), (30, true), (31, true), (32, true), (33, true), (34, true), (35, true)] (by kernel_rfl) (by kernel_rfl) (by kernel_rfl) ?_
              replace HB := Lib.hid HB.out.drew
              replace HBK := Lib.hid HBK.out.drew
              generalize wb.drew = wd at *
              simp only [pickOrs, List.getElem?_cons_zero, List.getElem?_cons_succ]
              refine org_pure (v := ?_) (by kernel_rfl) ?_ ?_
              rotate_left
              · intro w' hv; clear hv; go_simp; try with_reducible rfl
              try simp only [Act.put, List.setIfInBounds_toArray, List.set_cons_zero, List.set_cons_succ]
              refine org_pure (v := ?_) (by kernel_rfl) ?_ ?_
              rotate_left
              · intro w' hv; have cx := (HBX3.out w' (HBK.out.trans (Below.mono hv HBK.out.size))).1; clear hv; go_simp; try with_reducible rfl
              try simp only [Act.put, List.setIfInBounds_toArray, List.set_cons_zero, List.set_cons_succ]
              refine org_step (by kernel_rfl) (fun K hK => ?_)
              go_wp2_with fail
              refine (HG.out _).mono ?_
              rintro e wg ⟨rfl, hb⟩
              have HE2 := Lib.hid hb
              replace HB := Lib.hid (HB.out.trans (hb.mono HB.out.size))
              replace HBK := Lib.hid (HBK.out.trans (hb.mono HBK.out.size))
              clear hb
              refine hK _ _ ⟨HE2.out, ?_⟩
              clear hK HE2
              try simp only [Act.put, List.setIfInBounds_toArray, List.set_cons_zero, List.set_cons_succ]
              refine org_pure (v := ?_) (by kernel_rfl) ?_ ?_
              rotate_left
              · intro w' hv; clear hv; go_simp; try with_reducible rfl
              try simp only [Act.put, List.setIfInBounds_toArray, List.set_cons_zero, List.set_cons_succ]
              refine org_pure (v := ?_) (by kernel_rfl) ?_ ?_
              rotate_left
              · intro w' hv; clear hv; go_simp; try with_reducible rfl
              try simp only [Act.put, List.setIfInBounds_toArray, List.set_cons_zero, List.set_cons_succ]
              refine org_pure (v := ?_) (by kernel_rfl) ?_ ?_
              rotate_left
              · intro w' hv; clear hv; go_simp; try with_reducible rfl
              try simp only [Act.put, List.setIfInBounds_toArray, List.set_cons_zero, List.set_cons_succ]
              refine org_pure (v := ?_) (by kernel_rfl) ?_ ?_
              rotate_left
              · intro w' hv; clear hv; go_simp; try with_reducible rfl
              try simp only [Act.put, List.setIfInBounds_toArray, List.set_cons_zero, List.set_cons_succ]
              refine org_pure (v := ?_) (by kernel_rfl) ?_ ?_
              rotate_left
              · intro w' hv; clear hv; go_simp; try with_reducible rfl
              try simp only [Act.put, List.setIfInBounds_toArray, List.set_cons_zero, List.set_cons_succ]
              refine org_skip (by kernel_rfl) ?_
              try simp only [Act.put, List.setIfInBounds_toArray, List.set_cons_zero, List.set_cons_succ]
              refine org_skip (by kernel_rfl) ?_
              try simp only [Act.put, List.setIfInBounds_toArray, List.set_cons_zero, List.set_cons_succ]
              refine org_skip (by kernel_rfl) ?_
              try simp only [Act.put, List.setIfInBounds_toArray, List.set_cons_zero, List.set_cons_succ]
              refine org_skip (by kernel_rfl) ?_
              try simp only [Act.put, List.setIfInBounds_toArray, List.set_cons_zero, List.set_cons_succ]
              refine org_skip (by kernel_rfl) ?_
              try simp only [Act.put, List.setIfInBounds_toArray, List.set_cons_zero, List.set_cons_succ]
              refine org_skip (by kernel_rfl) ?_
              try simp only [Act.put, List.setIfInBounds_toArray, List.set_cons_zero, List.set_cons_succ]
              refine org_skip (by kernel_rfl) ?_
              try simp only [Act.put, List.setIfInBounds_toArray, List.set_cons_zero, List.set_cons_succ]
              refine org_skip (by kernel_rfl) ?_
              try simp only [Act.put, List.setIfInBounds_toArray, List.set_cons_zero, List.set_cons_succ]
              refine org_pass (by kernel_rfl) ?_
              try simp only [Act.put, List.setIfInBounds_toArray, List.set_cons_zero, List.set_cons_succ]
              refine org_skip (by kernel_rfl) ?_
              try simp only [Act.put, List.setIfInBounds_toArray, List.set_cons_zero, List.set_cons_succ]
              refine org_pure (v := ?_) (by kernel_rfl) ?_ ?_
              rotate_left
              · intro w' hv; clear hv; go_simp; try with_reducible rfl
              try simp only [Act.put, List.setIfInBounds_toArray, List.set_cons_zero, List.set_cons_succ]
              refine org_pure (v := ?_) (by kernel_rfl) ?_ ?_
              rotate_left
              · intro w' hv; clear hv; go_simp; try with_reducible rfl
              try simp only [Act.put, List.setIfInBounds_toArray, List.set_cons_zero, List.set_cons_succ]
              refine org_pure (v := ?_) (by kernel_rfl) ?_ ?_
              rotate_left
              · intro w' hv; clear hv; go_simp; try with_reducible rfl
              try simp only [Act.put, List.setIfInBounds_toArray, List.set_cons_zero, List.set_cons_succ]
              refine org_pure (v := ?_) (by kernel_rfl) ?_ ?_
              rotate_left
              · intro w' hv; clear hv; go_simp; try with_reducible rfl
              try simp only [Act.put, List.setIfInBounds_toArray, List.set_cons_zero, List.set_cons_succ]
              refine org_pure (v := ?_) (by kernel_rfl) ?_ ?_
              rotate_left
              · intro w' hv; have cx := (HBX3.out w' (HBK.out.trans (Below.mono hv HBK.out.size))).2.1; clear hv; go_simp; try with_reducible rfl
              try simp only [Act.put, List.setIfInBounds_toArray, List.set_cons_zero, List.set_cons_succ]
              refine org_pure (v := ?_) (by kernel_rfl) ?_ ?_
              rotate_left
              · intro w' hv; clear hv; go_simp; try with_reducible rfl
              try simp only [Act.put, List.setIfInBounds_toArray, List.set_cons_zero, List.set_cons_succ]
              refine org_skip (by kernel_rfl) ?_
              try simp only [Act.put, List.setIfInBounds_toArray, List.set_cons_zero, List.set_cons_succ]
              refine org_skip (by kernel_rfl) ?_
              try simp only [Act.put, List.setIfInBounds_toArray, List.set_cons_zero, List.set_cons_succ]
              refine org_skip (by kernel_rfl) ?_
              try simp only [Act.put, List.setIfInBounds_toArray, List.set_cons_zero, List.set_cons_succ]
              refine org_skip (by kernel_rfl) ?_
              try simp only [Act.put, List.setIfInBounds_toArray, List.set_cons_zero, List.set_cons_succ]
              refine org_pure (v := ?_) (by kernel_rfl) ?_ ?_
              rotate_left
              · intro w' hv; clear hv; go_simp; try with_reducible rfl
              try simp only [Act.put, List.setIfInBounds_toArray, List.set_cons_zero, List.set_cons_succ]
              refine org_pure (v := ?_) (by kernel_rfl) ?_ ?_
              rotate_left
              · intro w' hv; clear hv; go_simp; try with_reducible rfl
              try simp only [Act.put, List.setIfInBounds_toArray, List.set_cons_zero, List.set_cons_succ]
              refine org_pure (v := ?_) (by kernel_rfl) ?_ ?_
              rotate_left
              · intro w' hv; clear hv; go_simp; try with_reducible rfl
              try simp only [Act.put, List.setIfInBounds_toArray, List.set_cons_zero, List.set_cons_succ]
              refine org_pure (v := ?_) (by kernel_rfl) ?_ ?_
              rotate_left
              · intro w' hv; clear hv; go_simp; try with_reducible rfl
              try simp only [Act.put, List.setIfInBounds_toArray, List.set_cons_zero, List.set_cons_succ]
              refine org_pure (v := ?_) (by kernel_rfl) ?_ ?_
              rotate_left
              · intro w' hv; have cx := (HBX3.out w' (HBK.out.trans (Below.mono hv HBK.out.size))).2.2; clear hv; go_simp; try with_reducible rfl
              try simp only [Act.put, List.setIfInBounds_toArray, List.set_cons_zero, List.set_cons_succ]
              refine org_pure (v := ?_) (by kernel_rfl) ?_ ?_
              rotate_left
              · intro w' hv; clear hv; go_simp; try with_reducible rfl
              try simp only [Act.put, List.setIfInBounds_toArray, List.set_cons_zero, List.set_cons_succ]
              refine org_pure (v := ?_) (by kernel_rfl) ?_ ?_
              rotate_left
              · intro w' hv; clear hv; go_simp; try with_reducible rfl
              try simp only [Act.put, List.setIfInBounds_toArray, List.set_cons_zero, List.set_cons_succ]
              refine org_pure (v := ?_) (by kernel_rfl) ?_ ?_
              rotate_left
              · intro w' hv; clear hv; go_simp; try with_reducible rfl
              try simp only [Act.put, List.setIfInBounds_toArray, List.set_cons_zero, List.set_cons_succ]
              refine org_nil ?_
              go_wp2_with fail
              go_ret
              exact ⟨rfl, HB.out⟩
            · have n0 : ¬ (2048 : Int) < (n : Int) := by omega
              have HOKE2 : Hid (okE C (prevOf C i) e0 = upB C x.data.toList) := Lib.hid (by rw [HOKE.out, hpv, hg, decide_eq_true (show n ≤ 2048 by omega)]; simp)
              refine wp_region_org [(0, true), (1, true), (2, false), (3, true), (4, true), (5, true), (6, true), (7, true), (8, true), (9, true), (10, true), (11, true), (12, true), (13, true), (14, true), (15, true), (16, false), (17, true), (18, true), (19, true), (20, true), (21, true), (22, true), (23, true), (24, true), (25, true), (26, true), (27, true), (28, true), (29, true), (30, true), (31, true), (32, true), (33, true), (34, true), (35, true)] (by kernel_rfl) (by kernel_rfl) (by kernel_rfl) ?_
              replace HB := Lib.hid HB.out.drew
              replace HBK := Lib.hid HBK.out.drew
              generalize wb.drew = wd at *
              simp only [pickOrs, List.getElem?_cons_zero, List.getElem?_cons_succ]
              refine org_pure (v := ?_) (by kernel_rfl) ?_ ?_
              rotate_left
              · intro w' hv; clear hv; go_simp; try with_reducible rfl
              try simp only [Act.put, List.setIfInBounds_toArray, List.set_cons_zero, List.set_cons_succ]
              refine org_pure (v := ?_) (by kernel_rfl) ?_ ?_
              rotate_left
              · intro w' hv; have cx := (HBX3.out w' (HBK.out.trans (Below.mono hv HBK.out.size))).1; clear hv; go_simp; try with_reducible rfl
              try simp only [Act.put, List.setIfInBounds_toArray, List.set_cons_zero, List.set_cons_succ]
              refine org_step (by kernel_rfl) (fun K hK => ?_)
              go_wp2_with fail
              refine (HG.out _).mono ?_
              rintro e wg ⟨rfl, hb⟩
              have HE2 := Lib.hid hb
              replace HB := Lib.hid (HB.out.trans (hb.mono HB.out.size))
              replace HBK := Lib.hid (HBK.out.trans (hb.mono HBK.out.size))
              clear hb
              refine hK _ _ ⟨HE2.out, ?_⟩
              clear hK HE2
              try simp only [Act.put, List.setIfInBounds_toArray, List.set_cons_zero, List.set_cons_succ]
              refine org_pure (v := ?_) (by kernel_rfl) ?_ ?_
              rotate_left
              · intro w' hv; clear hv; go_simp; try with_reducible rfl
              try simp only [Act.put, List.setIfInBounds_toArray, List.set_cons_zero, List.set_cons_succ]
              refine org_pure (v := ?_) (by kernel_rfl) ?_ ?_
              rotate_left
              · intro w' hv; clear hv; go_simp; try with_reducible rfl
              try simp only [Act.put, List.setIfInBounds_toArray, List.set_cons_zero, List.set_cons_succ]
              refine org_pure (v := ?_) (by kernel_rfl) ?_ ?_
              rotate_left
              · intro w' hv; clear hv; go_simp; try with_reducible rfl
              try simp only [Act.put, List.setIfInBounds_toArray, List.set_cons_zero, List.set_cons_succ]
              refine org_pure (v := ?_) (by kernel_rfl) ?_ ?_
              rotate_left
              · intro w' hv; clear hv; go_simp; try with_reducible rfl
              try simp only [Act.put, List.setIfInBounds_toArray, List.set_cons_zero, List.set_cons_succ]
              refine org_pure (v := ?_) (by kernel_rfl) ?_ ?_
              rotate_left
              · intro w' hv; clear hv; go_simp; try with_reducible rfl
              try simp only [Act.put, List.setIfInBounds_toArray, List.set_cons_zero, List.set_cons_succ]
              refine org_skip (by kernel_rfl) ?_
              try simp only [Act.put, List.setIfInBounds_toArray, List.set_cons_zero, List.set_cons_succ]
              refine org_skip (by kernel_rfl) ?_
              try simp only [Act.put, List.setIfInBounds_toArray, List.set_cons_zero, List.set_cons_succ]
              refine org_skip (by kernel_rfl) ?_
              try simp only [Act.put, List.setIfInBounds_toArray, List.set_cons_zero, List.set_cons_succ]
              refine org_skip (by kernel_rfl) ?_
              try simp only [Act.put, List.setIfInBounds_toArray, List.set_cons_zero, List.set_cons_succ]
              refine org_skip (by kernel_rfl) ?_
              try simp only [Act.put, List.setIfInBounds_toArray, List.set_cons_zero, List.set_cons_succ]
              refine org_skip (by kernel_rfl) ?_
              try simp only [Act.put, List.setIfInBounds_toArray, List.set_cons_zero, List.set_cons_succ]
              refine org_skip (by kernel_rfl) ?_
              try simp only [Act.put, List.setIfInBounds_toArray, List.set_cons_zero, List.set_cons_succ]
              refine org_skip (by kernel_rfl) ?_
              try simp only [Act.put, List.setIfInBounds_toArray, List.set_cons_zero, List.set_cons_succ]
              refine org_pass (by kernel_rfl) ?_
              try simp only [Act.put, List.setIfInBounds_toArray, List.set_cons_zero, List.set_cons_succ]
              refine org_skip (by kernel_rfl) ?_
              try simp only [Act.put, List.setIfInBounds_toArray, List.set_cons_zero, List.set_cons_succ]
              refine org_pure (v := ?_) (by kernel_rfl) ?_ ?_
              rotate_left
              · intro w' hv; clear hv; go_simp; try with_reducible rfl
              try simp only [Act.put, List.setIfInBounds_toArray, List.set_cons_zero, List.set_cons_succ]
              refine org_pure (v := ?_) (by kernel_rfl) ?_ ?_
              rotate_left
              · intro w' hv; clear hv; go_simp; try with_reducible rfl
              try simp only [Act.put, List.setIfInBounds_toArray, List.set_cons_zero, List.set_cons_succ]
              refine org_pure (v := ?_) (by kernel_rfl) ?_ ?_
              rotate_left
              · intro w' hv; clear hv; go_simp; try with_reducible rfl
              try simp only [Act.put, List.setIfInBounds_toArray, List.set_cons_zero, List.set_cons_succ]
              refine org_pure (v := ?_) (by kernel_rfl) ?_ ?_
              rotate_left
              · intro w' hv; clear hv; go_simp; try with_reducible rfl
              try simp only [Act.put, List.setIfInBounds_toArray, List.set_cons_zero, List.set_cons_succ]
              refine org_pure (v := ?_) (by kernel_rfl) ?_ ?_
              rotate_left
              · intro w' hv; have cx := (HBX3.out w' (HBK.out.trans (Below.mono hv HBK.out.size))).2.1; clear hv; go_simp; try with_reducible rfl
              try simp only [Act.put, List.setIfInBounds_toArray, List.set_cons_zero, List.set_cons_succ]
              refine org_pure (v := ?_) (by kernel_rfl) ?_ ?_
              rotate_left
              · intro w' hv; clear hv; go_simp; try with_reducible rfl
              try simp only [Act.put, List.setIfInBounds_toArray, List.set_cons_zero, List.set_cons_succ]
              refine org_skip (by kernel_rfl) ?_
              try simp only [Act.put, List.setIfInBounds_toArray, List.set_cons_zero, List.set_cons_succ]
              refine org_skip (by kernel_rfl) ?_
              try simp only [Act.put, List.setIfInBounds_toArray, List.set_cons_zero, List.set_cons_succ]
              refine org_skip (by kernel_rfl) ?_
              try simp only [Act.put, List.setIfInBounds_toArray, List.set_cons_zero, List.set_cons_succ]
              refine org_skip (by kernel_rfl) ?_
              try simp only [Act.put, List.setIfInBounds_toArray, List.set_cons_zero, List.set_cons_succ]
              refine org_pure (v := ?_) (by kernel_rfl) ?_ ?_
              rotate_left
              · intro w' hv; clear hv; go_simp; try with_reducible rfl
              try simp only [Act.put, List.setIfInBounds_toArray, List.set_cons_zero, List.set_cons_succ]
              refine org_pure (v := ?_) (by kernel_rfl) ?_ ?_
              rotate_left
              · intro w' hv; clear hv; go_simp; try with_reducible rfl
              try simp only [Act.put, List.setIfInBounds_toArray, List.set_cons_zero, List.set_cons_succ]
              refine org_pure (v := ?_) (by kernel_rfl) ?_ ?_
              rotate_left
              · intro w' hv; clear hv; go_simp; try with_reducible rfl
              try simp only [Act.put, List.setIfInBounds_toArray, List.set_cons_zero, List.set_cons_succ]
              refine org_pure (v := ?_) (by kernel_rfl) ?_ ?_
              rotate_left
              · intro w' hv; clear hv; go_simp; try with_reducible rfl
              try simp only [Act.put, List.setIfInBounds_toArray, List.set_cons_zero, List.set_cons_succ]
              refine org_pure (v := ?_) (by kernel_rfl) ?_ ?_
              rotate_left
              · intro w' hv; have cx := (HBX3.out w' (HBK.out.trans (Below.mono hv HBK.out.size))).2.2; clear hv; go_simp; try with_reducible rfl
              try simp only [Act.put, List.setIfInBounds_toArray, List.set_cons_zero, List.set_cons_succ]
              refine org_pure (v := ?_) (by kernel_rfl) ?_ ?_
              rotate_left
              · intro w' hv; clear hv; go_simp; try with_reducible rfl
              try simp only [Act.put, List.setIfInBounds_toArray, List.set_cons_zero, List.set_cons_succ]
              refine org_pure (v := ?_) (by kernel_rfl) ?_ ?_
              rotate_left
              · intro w' hv; clear hv; go_simp; try with_reducible rfl
              try simp only [Act.put, List.setIfInBounds_toArray, List.set_cons_zero, List.set_cons_succ]
              refine org_pure (v := ?_) (by kernel_rfl) ?_ ?_
              rotate_left
              · intro w' hv; clear hv; go_simp; try with_reducible rfl
              try simp only [Act.put, List.setIfInBounds_toArray, List.set_cons_zero, List.set_cons_succ]
              refine org_nil ?_
              obtain ⟨e1, e2, e3⟩ := HBX3.out wg HBK.out
              go_wp2_with fail
              refine (HU.out _).mono ?_
              rintro e wu ⟨rfl, hb⟩
              replace HB := Lib.hid (HB.out.trans (hb.mono HB.out.size))
              replace HBK := Lib.hid (HBK.out.trans (hb.mono HBK.out.size))
              clear hb e1 e2 e3
              go_wp2_with fail
              refine (HAT.out _ ((HS.out.keep HB.out).more HB.out.size)).mono ?_
              rintro e wa ⟨rfl, rfl⟩
              by_cases hU : U.data = #[]
              · have HNX := Lib.hid (HNEXT.out (by rw [HOKE2.out, HUB1.out hU]))
                have k1 := no_text hU
                have k2 : (U.toList == []) = true := by rw [k1]; rfl
                have k3 : (U.toList != []) = false := by rw [k1]; rfl
                have k4 : U.toList.isEmpty = true := by rw [k1]; rfl
                clear hU
                go_wp2_with fail
                go_roundw
                case rel => exact ⟨i + 1, by omega, by go_num, HNX.out, HB.out⟩
                case measure => simp [intOf]; omega
              · have k1 := some_text hU
                have k2 : (U.toList == []) = false := by rw [beq_eq_false_iff_ne]; intro e; rw [e] at k1; cases k1
                have k3 : (U.toList != []) = true := by simp [bne, k2]
                by_cases h0 : Kat < 0
                · have hv : V = false := HBAD.out (by rw [HOKE2.out, HUB2.out hU h0])
                  subst hv
                  clear hU
                  go_wp2_with fail
                  go_ret
                  exact ⟨rfl, HB.out⟩
                · obtain ⟨k, hkk⟩ : ∃ k : Nat, Kat = (k : Int) := ⟨Kat.toNat, by omega⟩
                  have hk : k < C.length := by omega
                  obtain ⟨a2, ha2, _, hc2⟩ := HS.out.ent hk
                  cases ha2
                  have hd : dirT C k = C[k].2.1 := by unfold dirT; rw [List.getElem?_eq_getElem hk]; rfl
                  have hub := HUB3.out hU k hkk
                  rw [hd] at hub
                  have HCK : Hid (∀ w', Below w.heap.size w w' → w'.cell? ⟨(a.add (k * 3)).block, (a.add (k * 3)).off + 1, none⟩ = some (.bool C[k].2.1)) := Lib.hid (fun w' hb => (hc2 w' hb).2.1)
                  have kk2 : ((k : Int) < 0) = False := by simp
                  have kl2 : (k : Int) < (C.length : Int) := by omega
                  clear hc2 hd hU h0
                  subst hkk
                  generalize C[k].2.1 = d2 at *
                  cases d2 with
                  | true =>
                    have HNX := Lib.hid (HNEXT.out (by rw [HOKE2.out, hub]))
                    clear hub
                    have c5 := HCK.out wu HB.out
                    go_wp2_with fail
                    go_roundw
                    case rel => exact ⟨i + 1, by omega, by go_num, HNX.out, HB.out⟩
                    case measure => simp [intOf]; omega
                  | false =>
                    have hv : V = false := HBAD.out (by rw [HOKE2.out, hub])
                    subst hv
                    clear hub
                    have c5 := HCK.out wu HB.out
                    go_wp2_with fail
                    go_ret
                    exact ⟨rfl, HB.out⟩
    · have hil : i = C.length := by omega
      subst hil
      have k0 : ¬ (C.length : Int) < (C.length : Int) := by omega
      have hgr : goodR C C none = true := by rw [← HEQ.out, List.drop_length]; rfl
      have hv : V = (decide (C.length ≤ 40) && decide (bytesT C ≤ 16384)) := by rw [← HV.out]; unfold goodT; rw [hgr]; rfl
      have HBY := Lib.hid (fun w1 h1 h2 => rbytes_any C q c (by omega) hb w1 h1 h2)
      clear hlt HEQ hgr
      by_cases hl : C.length ≤ 40
      · rw [decide_eq_true hl] at hv
        have kl : (C.length : Int) ≤ 40 := by omega
        go_wp2_with fail
        refine (HBY.out _ ((HS.out.keep HB.out).more HB.out.size) (HE.out.keep HB.out)).mono ?_
        rintro e wz ⟨rfl, rfl⟩
        generalize bytesT C = s at *
        by_cases hs : s ≤ 16384
        · have hv2 : V = true := by rw [hv, decide_eq_true hs]; rfl
          have ks : (s : Int) ≤ 16384 := by omega
          subst hv2
          clear hv
          go_wp2_with fail
          go_ret
          exact ⟨rfl, HB.out⟩
        · have hv2 : V = false := by rw [hv, decide_eq_false hs]; rfl
          have KS : Hid (¬ (s : Int) ≤ 16384) := Lib.hid (by omega)
          subst hv2
          clear hv hs
          go_wp2_with fail
          go_ret
          exact ⟨by show Ending.returned (Value.bool (decide ((s : Int) ≤ 16384))) = _; rw [decide_eq_false (by have := KS.out; omega)], HB.out⟩
      · have hv2 : V = false := by rw [hv, decide_eq_false hl]; rfl
        have kl : ¬ (C.length : Int) ≤ 40 := by omega
        subst hv2
        clear hv
        go_wp2_with fail
        go_ret
        exact ⟨rfl, HB.out⟩
end Go.Proofs.YthpendoblgndcaaDoor
