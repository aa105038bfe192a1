/- Contract: the document's own GoodTree. -/
import Derived.Test.YtefamkckoikeoaaDoorBase1
import Derived.Shelf.Small.Wraps
import Derived.Shelf.Strings.Search3
import Derived.Shelf.Strings.LastIndex
import Derived.Shelf.Strings.Prefix
import Derived.Test.YtefamkckoikeoaaDoorProg
import Derived.KernelRfl
import Derived.RangeFuncNested
import Derived.RangeFuncCalls
import Derived.RangeFuncLeaves
import Derived.Shelf.RegionOpen
import Derived.WalkKit
import Derived.OwnWalkIn
import Derived.TacticsInMore
import Derived.LoopNIn
import Derived.LoopIn
import Derived.Lib.Hide
import Derived.IntWalk
import Derived.Deep.Draws
namespace Go.Proofs.YtefamkckoikeoaaDoor
open Go.RowKit
def prevB (prev : Option Ent) (x : Tx) : Bool := match prev with | none => true | some y => decide (cmpL y.pa x < 0)
def upB (C : List Ent) (x : Tx) : Bool := decide (upV x = []) || (decide (0 ≤ atT C (upV x)) && dirT C (atT C (upV x)).toNat)
/-- One entry may stand there, behind that one. -/
def okE (C : List Ent) (prev : Option Ent) (e : Ent) : Bool :=
  okPath e.pa && (prevB prev e.pa && (!(e.dir && decide (0 < e.by.length)) && (decide (e.by.length ≤ 2048) && upB C e.pa)))
def goodR (C : List Ent) : List Ent → Option Ent → Bool
  | [], _ => true
  | e :: r, prev => okE C prev e && goodR C r (some e)
def goodT (C : List Ent) : Bool := goodR C C none && (decide (C.length ≤ 40) && decide (bytesT C ≤ 16384))
def prevOf (C : List Ent) (i : Nat) : Option Ent := if i = 0 then none else C[i - 1]?
set_option maxHeartbeats 16000000 in
set_option maxRecDepth 100000 in
theorem rgt_any (C : List Ent) (q : Option Addr) (c : Nat) (hm : C.length ≤ 100000) (hb : bytesT C ≤ 4611686018427387904) (hn : ∀ e ∈ C, e.1.size ≤ 1048576) (w : World) (hs : Sees w w.heap.size q (rowC C)) (hE : Ents w C) :
    Calls Tryd.prog 65 #[.slice q C.length c] w fun e w' => e = .returned (.bool (goodT C)) ∧ Below w.heap.size w w' := by
  have HS := Lib.hid hs
  have HE := Lib.hid hE
  have HN := Lib.hid hn
  clear hs hE hn
  obtain ⟨V, hV⟩ : ∃ V, goodT C = V := ⟨_, rfl⟩
  rw [hV]
  have HV := Lib.hid hV
  clear hV
  go_enter Tryd.func65, Tryd.ntmps65
  go_wp2_with fail
  go_loopw [3, 4, 5, 6, 7] (fun vi _ _ _ _ wr => ∃ (i : Nat), i ≤ C.length ∧ vi = .int .i64 i ∧ goodR C (C.drop i) (prevOf C i) = goodR C C none ∧ Below w.heap.size w wr) (fun vi _ _ _ _ _ => C.length - (intOf vi).toNat)
  case atStart => exact ⟨0, by omega, rfl, rfl, Below.refl _ _⟩
  case round =>
    rename_i wr
    obtain ⟨i, hi, rfl, heq, hB⟩ := hrel
    have HB := Lib.hid hB
    have HEQ := Lib.hid heq
    clear hB heq
    by_cases hlt : i < C.length
    · obtain ⟨a, rfl, ha, hc⟩ := HS.out.ent hlt
      obtain ⟨qb, cb, hv, _, _, _⟩ := HE.out C[i] (List.getElem_mem hlt)
      have hsz := HN.out C[i] (List.getElem_mem hlt)
      have hdr : C.drop i = C[i] :: C.drop (i + 1) := List.drop_eq_getElem_cons hlt
      have kk : (i : Int) < (C.length : Int) := by omega
      have hpn : prevOf C (i + 1) = some C[i] := by unfold prevOf; rw [if_neg (by omega), Nat.add_sub_cancel, List.getElem?_eq_getElem hlt]
      obtain ⟨e, he⟩ : ∃ e, C[i] = e := ⟨_, rfl⟩
      rw [he] at hc hv hsz hdr hpn
      obtain ⟨x, d, bv, bb⟩ := e
      have hv' : bv = .slice qb (List.length bb) cb := hv
      subst hv'
      have hxz : x.size ≤ 1048576 := hsz
      obtain ⟨n, hnn⟩ : ∃ n, List.length bb = n := ⟨_, rfl⟩
      rw [hnn] at hc hdr hpn
      obtain ⟨e0, he0⟩ : ∃ e0 : Ent, e0 = (x, d, .slice qb n cb, bb) := ⟨_, rfl⟩
      rw [← he0] at hdr hpn
      have HOKE : Hid (okE C (prevOf C i) e0 = (okPath x.data.toList && (prevB (prevOf C i) x.data.toList && (!(d && decide (0 < n)) && (decide (n ≤ 2048) && upB C x.data.toList))))) := Lib.hid (by rw [he0, ← hnn]; rfl)
      have HBAD : Hid (okE C (prevOf C i) e0 = false → V = false) := Lib.hid (fun h => by
        rw [← HV.out]; unfold goodT
        rw [← HEQ.out, hdr, goodR, h]; rfl)
      have HNEXT : Hid (okE C (prevOf C i) e0 = true → goodR C (C.drop (i + 1)) (prevOf C (i + 1)) = goodR C C none) := Lib.hid (fun h => by
        rw [← HEQ.out, hdr, goodR, h, hpn]; rfl)
      obtain ⟨U, hU⟩ : ∃ U : ByteArray, (⟨(upV x.data.toList).toArray⟩ : ByteArray) = U := ⟨_, rfl⟩
      have hUt : upV x.data.toList = U.data.toList := by rw [← hU]
      have HG := Lib.hid (fun w1 => rgood_any x hxz w1)
      have HU := Lib.hid (fun w1 => rup_any x hxz w1)
      rw [hU] at HU
      have HAT := Lib.hid (fun w1 h => rat_any C (some a) c U (by omega) w1 h)
      have hge := atT_ge C U.data.toList
      have hltt := atT_lt C U.data.toList
      obtain ⟨Kat, hK⟩ : ∃ K, atT C U.data.toList = K := ⟨_, rfl⟩
      have HUB1 : Hid (U.data = #[] → upB C x.data.toList = true) := Lib.hid (fun h => by unfold upB; rw [hUt, h]; rfl)
      have HUB2 : Hid (¬ U.data = #[] → Kat < 0 → upB C x.data.toList = false) := Lib.hid (fun h h0 => by
        unfold upB
        rw [hUt, decide_eq_false (fun e => h (by simpa using e)), hK, decide_eq_false (by omega)]; rfl)
      have HUB3 : Hid (¬ U.data = #[] → ∀ k : Nat, Kat = (k : Int) → upB C x.data.toList = dirT C k) := Lib.hid (fun h k h0 => by
        unfold upB
        rw [hUt, decide_eq_false (fun e => h (by simpa using e)), hK, h0, decide_eq_true (by omega)]; simp)
      rw [hK] at HAT hge hltt
      obtain ⟨c1, c2, c3⟩ := hc wr HB.out
      have hbox := Has.made' wr 110 #[.string x, .bool d, .slice qb n cb] [.string x, .bool d, .slice qb n cb] rfl
      have hgl : wr.heap.size < (wr.alloc (.cells #[.string x, .bool d, .slice qb n cb] 110)).heap.size := by simp
      have HBX3 : Hid (∀ w', Below (wr.alloc (.cells #[.string x, .bool d, .slice qb n cb] 110)).heap.size (wr.alloc (.cells #[.string x, .bool d, .slice qb n cb] 110)) w' → w'.cell? ⟨wr.heap.size, 0, none⟩ = some (.string x) ∧ w'.cell? ⟨wr.heap.size, 1, none⟩ = some (.bool d) ∧ w'.cell? ⟨wr.heap.size, 2, none⟩ = some (.slice qb n cb)) := Lib.hid (fun w' hb => ⟨(hb.cell hgl).trans (hbox.cellv rfl), (hb.cell hgl).trans (hbox.cellv rfl), (hb.cell hgl).trans (hbox.cellv rfl)⟩)
      have HBK := Lib.hid (Below.refl (wr.alloc (.cells #[.string x, .bool d, .slice qb n cb] 110)).heap.size (wr.alloc (.cells #[.string x, .bool d, .slice qb n cb] 110)))
      clear hc ha hsz he hdr hpn hv hbox hgl he0 hU hUt hK HEQ
      go_wp2_with fail
      replace HB := Lib.hid (HB.out.alloc HB.out.size (.cells #[.string x, .bool d, .slice qb n cb] 110))
      generalize wr.alloc (.cells #[.string x, .bool d, .slice qb n cb] 110) = wb at *
      clear c1 c2 c3
      cases hg : okPath x.data.toList with
      | false =>
        rw [hg] at HG
        have hv : V = false := HBAD.out (by rw [HOKE.out, hg]; simp)
        subst hv
        clear hg
        refine wp_region_org [(0, true), (1, true), (2, false), (3, true), (4, true), (5, true), (6, true), (7, true), (8, true), (9, true), (10, true), (11, true), (12, true), (13, true), (14, true), (15, true), (16, false), (17, true), (18, true), (19, true), (20, true), (21, true), (22, true), (23, true), (24, true), (25, true), (26, true), (27, true), (28, true), (29, true), (30, true), (31, true), (32, true), (33, true), (34, true), (35, true)] (by kernel_rfl) (by kernel_rfl) (by kernel_rfl) ?_
        replace HB := Lib.hid HB.out.drew
        replace HBK := Lib.hid HBK.out.drew
        generalize wb.drew = wd at *
        simp only [pickOrs, List.getElem?_cons_zero, List.getElem?_cons_succ]
        refine org_pure (v := ?_) (by kernel_rfl) ?_ ?_
        rotate_left
        · intro w' hv; clear hv; go_simp; try with_reducible rfl
        try simp only [Act.put, List.setIfInBounds_toArray, List.set_cons_zero, List.set_cons_succ]
        refine org_pure (v := ?_) (by kernel_rfl) ?_ ?_
        rotate_left
        · intro w' hv; have cx := (HBX3.out w' (HBK.out.trans (Below.mono hv HBK.out.size))).1; clear hv; go_simp; try with_reducible rfl
        try simp only [Act.put, List.setIfInBounds_toArray, List.set_cons_zero, List.set_cons_succ]
        refine org_step (by kernel_rfl) (fun K hK => ?_)
        go_wp2_with fail
        refine (HG.out _).mono ?_
        rintro e wg ⟨rfl, hb⟩
        have HE2 := Lib.hid hb
        replace HB := Lib.hid (HB.out.trans (hb.mono HB.out.size))
        replace HBK := Lib.hid (HBK.out.trans (hb.mono HBK.out.size))
        clear hb
        refine hK _ _ ⟨HE2.out, ?_⟩
        clear hK HE2
        try simp only [Act.put, List.setIfInBounds_toArray, List.set_cons_zero, List.set_cons_succ]
        refine org_pure (v := ?_) (by kernel_rfl) ?_ ?_
        rotate_left
        · intro w' hv; clear hv; go_simp; try with_reducible rfl
        try simp only [Act.put, List.setIfInBounds_toArray, List.set_cons_zero, List.set_cons_succ]
        refine org_pure (v := ?_) (by kernel_rfl) ?_ ?_
        rotate_left
        · intro w' hv; clear hv; go_simp; try with_reducible rfl
        try simp only [Act.put, List.setIfInBounds_toArray, List.set_cons_zero, List.set_cons_succ]
        refine org_skip (by kernel_rfl) ?_
        try simp only [Act.put, List.setIfInBounds_toArray, List.set_cons_zero, List.set_cons_succ]
        refine org_skip (by kernel_rfl) ?_
        try simp only [Act.put, List.setIfInBounds_toArray, List.set_cons_zero, List.set_cons_succ]
        refine org_skip (by kernel_rfl) ?_
        try simp only [Act.put, List.setIfInBounds_toArray, List.set_cons_zero, List.set_cons_succ]
        refine org_skip (by kernel_rfl) ?_
        try simp only [Act.put, List.setIfInBounds_toArray, List.set_cons_zero, List.set_cons_succ]
        refine org_skip (by kernel_rfl) ?_
        try simp only [Act.put, List.setIfInBounds_toArray, List.set_cons_zero, List.set_cons_succ]
        refine org_skip (by kernel_rfl) ?_
        try simp only [Act.put, List.setIfInBounds_toArray, List.set_cons_zero, List.set_cons_succ]
        refine org_skip (by kernel_rfl) ?_
        try simp only [Act.put, List.setIfInBounds_toArray, List.set_cons_zero, List.set_cons_succ]
        refine org_skip (by kernel_rfl) ?_
        try simp only [Act.put, List.setIfInBounds_toArray, List.set_cons_zero, List.set_cons_succ]
        refine org_skip (by kernel_rfl) ?_
        try simp only [Act.put, List.setIfInBounds_toArray, List.set_cons_zero, List.set_cons_succ]
        refine org_skip (by kernel_rfl) ?_
        try simp only [Act.put, List.setIfInBounds_toArray, List.set_cons_zero, List.set_cons_succ]
        refine org_skip (by kernel_rfl) ?_
        try simp only [Act.put, List.setIfInBounds_toArray, List.set_cons_zero, List.set_cons_succ]
        refine org_pass (by kernel_rfl) ?_
        try simp only [Act.put, List.setIfInBounds_toArray, List.set_cons_zero, List.set_cons_succ]
        refine org_skip (by kernel_rfl) ?_
        try simp only [Act.put, List.setIfInBounds_toArray, List.set_cons_zero, List.set_cons_succ]
        refine org_skip (by kernel_rfl) ?_
        try simp only [Act.put, List.setIfInBounds_toArray, List.set_cons_zero, List.set_cons_succ]
        refine org_pure (v := ?_) (by kernel_rfl) ?_ ?_
        rotate_left
        · intro w' hv; clear hv; go_simp; try with_reducible rfl
        try simp only [Act.put, List.setIfInBounds_toArray, List.set_cons_zero, List.set_cons_succ]
        refine org_pure (v := ?_) (by kernel_rfl) ?_ ?_
        rotate_left
        · intro w' hv; clear hv; go_simp; try with_reducible rfl
        try simp only [Act.put, List.setIfInBounds_toArray, List.set_cons_zero, List.set_cons_succ]
        refine org_skip (by kernel_rfl) ?_
        try simp only [Act.put, List.setIfInBounds_toArray, List.set_cons_zero, List.set_cons_succ]
        refine org_skip (by kernel_rfl) ?_
        try simp only [Act.put, List.setIfInBounds_toArray, List.set_cons_zero, List.set_cons_succ]
        refine org_skip (by kernel_rfl) ?_
        try simp only [Act.put, List.setIfInBounds_toArray, List.set_cons_zero, List.set_cons_succ]
        refine org_skip (by kernel_rfl) ?_
        try simp only [Act.put, List.setIfInBounds_toArray, List.set_cons_zero, List.set_cons_succ]
        refine org_skip (by kernel_rfl) ?_
        try simp only [Act.put, List.setIfInBounds_toArray, List.set_cons_zero, List.set_cons_succ]
        refine org_skip (by kernel_rfl) ?_
        try simp only [Act.put, List.setIfInBounds_toArray, List.set_cons_zero, List.set_cons_succ]
        refine org_skip (by kernel_rfl) ?_
        try simp only [Act.put, List.setIfInBounds_toArray, List.set_cons_zero, List.set_cons_succ]
        refine org_skip (by kernel_rfl) ?_
        try simp only [Act.put, List.setIfInBounds_toArray, List.set_cons_zero, List.set_cons_succ]
        refine org_pure (v := ?_) (by kernel_rfl) ?_ ?_
        rotate_left
        · intro w' hv; clear hv; go_simp; try with_reducible rfl
        try simp only [Act.put, List.setIfInBounds_toArray, List.set_cons_zero, List.set_cons_succ]
        refine org_pure (v := ?_) (by kernel_rfl) ?_ ?_
        rotate_left
        · intro w' hv; clear hv; go_simp; try with_reducible rfl
        try simp only [Act.put, List.setIfInBounds_toArray, List.set_cons_zero, List.set_cons_succ]
        refine org_skip (by kernel_rfl) ?_
        try simp only [Act.put, List.setIfInBounds_toArray, List.set_cons_zero, List.set_cons_succ]
        refine org_skip (by kernel_rfl) ?_
        try simp only [Act.put, List.setIfInBounds_toArray, List.set_cons_zero, List.set_cons_succ]
        refine org_skip (by kernel_rfl) ?_
        try simp only [Act.put, List.setIfInBounds_toArray, List.set_cons_zero, List.set_cons_succ]
        refine org_skip (by kernel_rfl) ?_
        try simp only [Act.put, List.setIfInBounds_toArray, List.set_cons_zero, List.set_cons_succ]
        refine org_pure (v := ?_) (by kernel_rfl) ?_ ?_
        rotate_left
        · intro w' hv; clear hv; go_simp; try with_reducible rfl
        try simp only [Act.put, List.setIfInBounds_toArray, List.set_cons_zero, List.set_cons_succ]
        refine org_nil ?_
        go_wp2_with fail
        go_ret
        exact ⟨rfl, HB.out⟩
      | true =>
        rw [hg] at HG
        by_cases hi0 : 0 < i
        · obtain ⟨j, hij⟩ : ∃ j, i = j + 1 := ⟨i - 1, by omega⟩
          have hj : j < C.length := by omega
          obtain ⟨a3, ha3, _, hc3⟩ := HS.out.ent hj
          cases ha3
          have hpr : prevOf C i = some C[j] := by unfold prevOf; rw [if_neg (by omega), hij, Nat.add_sub_cancel, List.getElem?_eq_getElem hj]
          have hyz := HN.out C[j] (List.getElem_mem hj)
          have HCY : Hid (∀ w', Below w.heap.size w w' → w'.cell? (a.add (j * 3)) = some (.string C[j].1)) := Lib.hid (fun w' hb => (hc3 w' hb).1)
          have hpv0 : prevB (prevOf C i) x.data.toList = decide (cmpL C[j].1.data.toList x.data.toList < 0) := by rw [hpr]; rfl
          have kw : IntKind.i64.wrap ((i : Int) - 1) = (j : Int) := by rw [IntWalk.i64_in _ (by omega)]; omega
          have kj : (j : Int) < (C.length : Int) := by omega
          have kp : (0 : Int) < (i : Int) := by omega
          generalize C[j].1 = y at *
          have HCM := Lib.hid (fun w1 => rcmp_any y x hyz hxz w1)
          clear hc3 hij hj hpr
          generalize cmpL y.data.toList x.data.toList = cv at *
          by_cases hcv : 0 ≤ cv
          · have hpv : prevB (prevOf C i) x.data.toList = false := by rw [hpv0]; exact decide_eq_false (by omega)
            have hv : V = false := HBAD.out (by rw [HOKE.out, hpv, hg]; simp)
            subst hv
            clear hpv hpv0 hg
            refine wp_region_org [(0, true), (1, true), (2, false), (3, true), (4, true), (5, true), (6, true), (7, true), (8, true), (9, true), (10, true), (11, true), (12, true), (13, true), (14, true), (15, true), (16, false), (17, true), (18, true), (19, true), (20, true), (21, true), (22, true), (23, true), (24, true), (25, true), (26, true), (27, true), (28, true), (29, true), (30, true), (31, true), (32, true), (33, true), (34, true), (35, true)] (by kernel_rfl) (by kernel_rfl) (by kernel_rfl) ?_
            replace HB := Lib.hid HB.out.drew
            replace HBK := Lib.hid HBK.out.drew
            generalize wb.drew = wd at *
            simp only [pickOrs, List.getElem?_cons_zero, List.getElem?_cons_succ]
            refine org_pure (v := ?_) (by kernel_rfl) ?_ ?_
            rotate_left
            · intro w' hv; clear hv; go_simp; try with_reducible rfl
            try simp only [Act.put, List.setIfInBounds_toArray, List.set_cons_zero, List.set_cons_succ]
            refine org_pure (v := ?_) (by kernel_rfl) ?_ ?_
            rotate_left
            · intro w' hv; have cx := (HBX3.out w' (HBK.out.trans (Below.mono hv HBK.out.size))).1; clear hv; go_simp; try with_reducible rfl
            try simp only [Act.put, List.setIfInBounds_toArray, List.set_cons_zero, List.set_cons_succ]
            refine org_step (by kernel_rfl) (fun K hK => ?_)
            go_wp2_with fail
            refine (HG.out _).mono ?_
            rintro e wg ⟨rfl, hb⟩
            have HE2 := Lib.hid hb
            replace HB := Lib.hid (HB.out.trans (hb.mono HB.out.size))
            replace HBK := Lib.hid (HBK.out.trans (hb.mono HBK.out.size))
            clear hb
            refine hK _ _ ⟨HE2.out, ?_⟩
            clear hK HE2
            try simp only [Act.put, List.setIfInBounds_toArray, List.set_cons_zero, List.set_cons_succ]
            refine org_pure (v := ?_) (by kernel_rfl) ?_ ?_
            rotate_left
            · intro w' hv; clear hv; go_simp; try with_reducible rfl
            try simp only [Act.put, List.setIfInBounds_toArray, List.set_cons_zero, List.set_cons_succ]
            refine org_pure (v := ?_) (by kernel_rfl) ?_ ?_
            rotate_left
            · intro w' hv; clear hv; go_simp; try with_reducible rfl
            try simp only [Act.put, List.setIfInBounds_toArray, List.set_cons_zero, List.set_cons_succ]
            refine org_pure (v := ?_) (by kernel_rfl) ?_ ?_
            rotate_left
            · intro w' hv; clear hv; go_simp; try with_reducible rfl
            try simp only [Act.put, List.setIfInBounds_toArray, List.set_cons_zero, List.set_cons_succ]
            refine org_pure (v := ?_) (by kernel_rfl) ?_ ?_
            rotate_left
            · intro w' hv; clear hv; go_simp; try with_reducible rfl
            try simp only [Act.put, List.setIfInBounds_toArray, List.set_cons_zero, List.set_cons_succ]
            refine org_pure (v := ?_) (by kernel_rfl) ?_ ?_
            rotate_left
            · intro w' hv; clear hv; go_simp; try with_reducible rfl
            try simp only [Act.put, List.setIfInBounds_toArray, List.set_cons_zero, List.set_cons_succ]
            refine org_pure (v := ?_) (by kernel_rfl) ?_ ?_
            rotate_left
            · intro w' hv; clear hv; go_simp; try with_reducible rfl
            try simp only [Act.put, List.setIfInBounds_toArray, List.set_cons_zero, List.set_cons_succ]
            refine org_pure (v := ?_) (by kernel_rfl) ?_ ?_
            rotate_left
            · intro w' hv; clear hv; go_simp; try with_reducible rfl
            try simp only [Act.put, List.setIfInBounds_toArray, List.set_cons_zero, List.set_cons_succ]
            refine org_pure (v := ?_) (by kernel_rfl) ?_ ?_
            rotate_left
            · intro w' hv; clear hv; go_simp; try with_reducible rfl
            try simp only [Act.put, List.setIfInBounds_toArray, List.set_cons_zero, List.set_cons_succ]
            refine org_pure (v := ?_) (by kernel_rfl) ?_ ?_
            rotate_left
            · intro w' hv; clear hv; go_simp; try with_reducible rfl
            try simp only [Act.put, List.setIfInBounds_toArray, List.set_cons_zero, List.set_cons_succ]
            refine org_pure (v := ?_) (by kernel_rfl) ?_ ?_
            rotate_left
            · intro w' hv; clear hv; go_simp; try with_reducible rfl
            try simp only [Act.put, List.setIfInBounds_toArray, List.set_cons_zero, List.set_cons_succ]
            refine org_pure (v := ?_) (by kernel_rfl) ?_ ?_
            rotate_left
            · intro w' hv; have cx := HCY.out w' (HB.out.trans (Below.mono hv HB.out.size)); clear hv; go_simp; try with_reducible rfl
            try simp only [Act.put, List.setIfInBounds_toArray, List.set_cons_zero, List.set_cons_succ]
            refine org_pure (v := ?_) (by kernel_rfl) ?_ ?_
            rotate_left
            · intro w' hv; clear hv; go_simp; try with_reducible rfl
            try simp only [Act.put, List.setIfInBounds_toArray, List.set_cons_zero, List.set_cons_succ]
            refine org_pure (v := ?_) (by kernel_rfl) ?_ ?_
            rotate_left
            · intro w' hv; have cx := (HBX3.out w' (HBK.out.trans (Below.mono hv HBK.out.size))).1; clear hv; go_simp; try with_reducible rfl
            try simp only [Act.put, List.setIfInBounds_toArray, List.set_cons_zero, List.set_cons_succ]
            refine org_step (by kernel_rfl) (fun K hK => ?_)
            go_wp2_with fail
            refine (HCM.out _).mono ?_
            rintro e wx ⟨rfl, hb⟩
            have HE2 := Lib.hid hb
            replace HB := Lib.hid (HB.out.trans (hb.mono HB.out.size))
            replace HBK := Lib.hid (HBK.out.trans (hb.mono HBK.out.size))
            clear hb
            refine hK _ _ ⟨HE2.out, ?_⟩
            clear hK HE2
            try simp only [Act.put, List.setIfInBounds_toArray, List.set_cons_zero, List.set_cons_succ]
            refine org_pure (v := ?_) (by kernel_rfl) ?_ ?_
            rotate_left
            · intro w' hv; clear hv; go_simp; try with_reducible rfl
            try simp only [Act.put, List.setIfInBounds_toArray, List.set_cons_zero, List.set_cons_succ]
            refine org_pure (v := ?_) (by kernel_rfl) ?_ ?_
            rotate_left
            · intro w' hv; clear hv; go_simp; try with_reducible rfl
            try simp only [Act.put, List.setIfInBounds_toArray, List.set_cons_zero, List.set_cons_succ]
            refine org_pure (v := ?_) (by kernel_rfl) ?_ ?_
            rotate_left
            · intro w' hv; clear hv; go_simp; try with_reducible rfl
            try simp only [Act.put, List.setIfInBounds_toArray, List.set_cons_zero, List.set_cons_succ]
            refine org_pure (v := ?_) (by kernel_rfl) ?_ ?_
            rotate_left
            · intro w' hv; clear hv; go_simp; try with_reducible rfl
            try simp only [Act.put, List.setIfInBounds_toArray, List.set_cons_zero, List.set_cons_succ]
            refine org_skip (by kernel_rfl) ?_
            try simp only [Act.put, List.setIfInBounds_toArray, List.set_cons_zero, List.set_cons_succ]
            refine org_skip (by kernel_rfl) ?_
            try simp only [Act.put, List.setIfInBounds_toArray, List.set_cons_zero, List.set_cons_succ]
            refine org_skip (by kernel_rfl) ?_
            try simp only [Act.put, List.setIfInBounds_toArray, List.set_cons_zero, List.set_cons_succ]
            refine org_skip (by kernel_rfl) ?_
            try simp only [Act.put, List.setIfInBounds_toArray, List.set_cons_zero, List.set_cons_succ]
            refine org_skip (by kernel_rfl) ?_
            try simp only [Act.put, List.setIfInBounds_toArray, List.set_cons_zero, List.set_cons_succ]
            refine org_skip (by kernel_rfl) ?_
            try simp only [Act.put, List.setIfInBounds_toArray, List.set_cons_zero, List.set_cons_succ]
            refine org_skip (by kernel_rfl) ?_
            try simp only [Act.put, List.setIfInBounds_toArray, List.set_cons_zero, List.set_cons_succ]
            refine org_skip (by kernel_rfl) ?_
            try simp only [Act.put, List.setIfInBounds_toArray, List.set_cons_zero, List.set_cons_succ]
            refine org_pure (v := ?_) (by kernel_rfl) ?_ ?_
            rotate_left
            · intro w' hv; clear hv; go_simp; try with_reducible rfl
            try simp only [Act.put, List.setIfInBounds_toArray, List.set_cons_zero, List.set_cons_succ]
            refine org_pure (v := ?_) (by kernel_rfl) ?_ ?_
            rotate_left
            · intro w' hv; clear hv; go_simp; try with_reducible rfl
            try simp only [Act.put, List.setIfInBounds_toArray, List.set_cons_zero, List.set_cons_succ]
            refine org_skip (by kernel_rfl) ?_
            try simp only [Act.put, List.setIfInBounds_toArray, List.set_cons_zero, List.set_cons_succ]
            refine org_skip (by kernel_rfl) ?_
            try simp only [Act.put, List.setIfInBounds_toArray, List.set_cons_zero, List.set_cons_succ]
            refine org_skip (by kernel_rfl) ?_
            try simp only [Act.put, List.setIfInBounds_toArray, List.set_cons_zero, List.set_cons_succ]
            refine org_skip (by kernel_rfl) ?_
            try simp only [Act.put, List.setIfInBounds_toArray, List.set_cons_zero, List.set_cons_succ]
            refine org_pure (v := ?_) (by kernel_rfl) ?_ ?_
            rotate_left
            · intro w' hv; clear hv; go_simp; try with_reducible rfl
            try simp only [Act.put, List.setIfInBounds_toArray, List.set_cons_zero, List.set_cons_succ]
            refine org_nil ?_
            go_wp2_with fail
            go_ret
            exact ⟨rfl, HB.out⟩
          · have hpv : prevB (prevOf C i) x.data.toList = true := by rw [hpv0]; exact decide_eq_true (by omega)
            have hcv2 : (0 ≤ cv) = False := eq_false hcv
            have hcv3 : cv < 0 := by omega
            clear hpv0
            cases d with
            | true =>
              by_cases hn0 : 0 < n
              · have n0 : (0 : Int) < (n : Int) := by omega
                have hv : V = false := HBAD.out (by rw [HOKE.out, hpv, hg, decide_eq_true hn0]; simp)
                subst hv
                refine wp_region_org [(0, true), (1, true), (2, false), (3, true), (4, true), (5, true), (6, true), (7, true), (8, true), (9, true), (10, true), (11, true), (12, true), (13, true), (14, true), (15, true), (16, false), (17, true), (18, true), (19, true), (20, true), (21, true), (22, true), (23, true), (24, true), (25, true), (26, true), (27, true), (28, true), (29, true), (30, true), (31, true), (32, true), (33, true), (34, true), (35, true)] (by kernel_rfl) (by kernel_rfl) (by kernel_rfl) ?_
                replace HB := Lib.hid HB.out.drew
                replace HBK := Lib.hid HBK.out.drew
                generalize wb.drew = wd at *
                simp only [pickOrs, List.getElem?_cons_zero, List.getElem?_cons_succ]
                refine org_pure (v := ?_) (by kernel_rfl) ?_ ?_
                rotate_left
                · intro w' hv; clear hv; go_simp; try with_reducible rfl
                try simp only [Act.put, List.setIfInBounds_toArray, List.set_cons_zero, List.set_cons_succ]
                refine org_pure (v := ?_) (by kernel_rfl) ?_ ?_
                rotate_left
                · intro w' hv; have cx := (HBX3.out w' (HBK.out.trans (Below.mono hv HBK.out.size))).1; clear hv; go_simp; try with_reducible rfl
                try simp only [Act.put, List.setIfInBounds_toArray, List.set_cons_zero, List.set_cons_succ]
                refine org_step (by kernel_rfl) (fun K hK => ?_)
                go_wp2_with fail
                refine (HG.out _).mono ?_
                rintro e wg ⟨rfl, hb⟩
                have HE2 := Lib.hid hb
                replace HB := Lib.hid (HB.out.trans (hb.mono HB.out.size))
                replace HBK := Lib.hid (HBK.out.trans (hb.mono HBK.out.size))
                clear hb
                refine hK _ _ ⟨HE2.out, ?_⟩
                clear hK HE2
                try simp only [Act.put, List.setIfInBounds_toArray, List.set_cons_zero, List.set_cons_succ]
                refine org_pure (v := ?_) (by kernel_rfl) ?_ ?_
                rotate_left
                · intro w' hv; clear hv; go_simp; try with_reducible rfl
                try simp only [Act.put, List.setIfInBounds_toArray, List.set_cons_zero, List.set_cons_succ]
                refine org_pure (v := ?_) (by kernel_rfl) ?_ ?_
                rotate_left
                · intro w' hv; clear hv; go_simp; try with_reducible rfl
                try simp only [Act.put, List.setIfInBounds_toArray, List.set_cons_zero, List.set_cons_succ]
                refine org_pure (v := ?_) (by kernel_rfl) ?_ ?_
                rotate_left
                · intro w' hv; clear hv; go_simp; try with_reducible rfl
                try simp only [Act.put, List.setIfInBounds_toArray, List.set_cons_zero, List.set_cons_succ]
                refine org_pure (v := ?_) (by kernel_rfl) ?_ ?_
                rotate_left
                · intro w' hv; clear hv; go_simp; try with_reducible rfl
                try simp only [Act.put, List.setIfInBounds_toArray, List.set_cons_zero, List.set_cons_succ]
                refine org_pure (v := ?_) (by kernel_rfl) ?_ ?_
                rotate_left
                · intro w' hv; clear hv; go_simp; try with_reducible rfl
                try simp only [Act.put, List.setIfInBounds_toArray, List.set_cons_zero, List.set_cons_succ]
                refine org_pure (v := ?_) (by kernel_rfl) ?_ ?_
                rotate_left
                · intro w' hv; clear hv; go_simp; try with_reducible rfl
                try simp only [Act.put, List.setIfInBounds_toArray, List.set_cons_zero, List.set_cons_succ]
                refine org_pure (v := ?_) (by kernel_rfl) ?_ ?_
                rotate_left
                · intro w' hv; clear hv; go_simp; try with_reducible rfl
                try simp only [Act.put, List.setIfInBounds_toArray, List.set_cons_zero, List.set_cons_succ]
                refine org_pure (v := ?_) (by kernel_rfl) ?_ ?_
                rotate_left
                · intro w' hv; clear hv; go_simp; try with_reducible rfl
                try simp only [Act.put, List.setIfInBounds_toArray, List.set_cons_zero, List.set_cons_succ]
                refine org_pure (v := ?_) (by kernel_rfl) ?_ ?_
                rotate_left
                · intro w' hv; clear hv; go_simp; try with_reducible rfl
                try simp only [Act.put, List.setIfInBounds_toArray, List.set_cons_zero, List.set_cons_succ]
                refine org_pure (v := ?_) (by kernel_rfl) ?_ ?_
                rotate_left
                · intro w' hv; clear hv; go_simp; try with_reducible rfl
                try simp only [Act.put, List.setIfInBounds_toArray, List.set_cons_zero, List.set_cons_succ]
                refine org_pure (v := ?_) (by kernel_rfl) ?_ ?_
                rotate_left
                · intro w' hv; have cx := HCY.out w' (HB.out.trans (Below.mono hv HB.out.size)); clear hv; go_simp; try with_reducible rfl
                try simp only [Act.put, List.setIfInBounds_toArray, List.set_cons_zero, List.set_cons_succ]
                refine org_pure (v := ?_) (by kernel_rfl) ?_ ?_
                rotate_left
                · intro w' hv; clear hv; go_simp; try with_reducible rfl
                try simp only [Act.put, List.setIfInBounds_toArray, List.set_cons_zero, List.set_cons_succ]
                refine org_pure (v := ?_) (by kernel_rfl) ?_ ?_
                rotate_left
                · intro w' hv; have cx := (HBX3.out w' (HBK.out.trans (Below.mono hv HBK.out.size))).1; clear hv; go_simp; try with_reducible rfl
                try simp only [Act.put, List.setIfInBounds_toArray, List.set_cons_zero, List.set_cons_succ]
                refine org_step (by kernel_rfl) (fun K hK => ?_)
                go_wp2_with fail
                refine (HCM.out _).mono ?_
                rintro e wx ⟨rfl, hb⟩
                have HE2 := Lib.hid hb
                replace HB := Lib.hid (HB.out.trans (hb.mono HB.out.size))
                replace HBK := Lib.hid (HBK.out.trans (hb.mono HBK.out.size))
                clear hb
                refine hK _ _ ⟨HE2.out, ?_⟩
                clear hK HE2
                try simp only [Act.put, List.setIfInBounds_toArray, List.set_cons_zero, List.set_cons_succ]
                refine org_pure (v := ?_) (by kernel_rfl) ?_ ?_
                rotate_left
                · intro w' hv; clear hv; go_simp; try with_reducible rfl
                try simp only [Act.put, List.setIfInBounds_toArray, List.set_cons_zero, List.set_cons_succ]
                refine org_pure (v := ?_) (by kernel_rfl) ?_ ?_
                rotate_left
                · intro w' hv; clear hv; go_simp; try with_reducible rfl
                try simp only [Act.put, List.setIfInBounds_toArray, List.set_cons_zero, List.set_cons_succ]
                refine org_pure (v := ?_) (by kernel_rfl) ?_ ?_
                rotate_left
                · intro w' hv; clear hv; go_simp; try with_reducible rfl
                try simp only [Act.put, List.setIfInBounds_toArray, List.set_cons_zero, List.set_cons_succ]
                refine org_pure (v := ?_) (by kernel_rfl) ?_ ?_
                rotate_left
                · intro w' hv; clear hv; go_simp; try with_reducible rfl
                try simp only [Act.put, List.setIfInBounds_toArray, List.set_cons_zero, List.set_cons_succ]
                refine org_pure (v := ?_) (by kernel_rfl) ?_ ?_
                rotate_left
                · intro w' hv; clear hv; go_simp; try with_reducible rfl
                try simp only [Act.put, List.setIfInBounds_toArray, List.set_cons_zero, List.set_cons_succ]
                refine org_pure (v := ?_) (by kernel_rfl) ?_ ?_
                rotate_left
                · intro w' hv; have cx := (HBX3.out w' (HBK.out.trans (Below.mono hv HBK.out.size))).2.1; clear hv; go_simp; try with_reducible rfl
                try simp only [Act.put, List.setIfInBounds_toArray, List.set_cons_zero, List.set_cons_succ]
                refine org_pure (v := ?_) (by kernel_rfl) ?_ ?_
                rotate_left
                · intro w' hv; clear hv; go_simp; try with_reducible rfl
                try simp only [Act.put, List.setIfInBounds_toArray, List.set_cons_zero, List.set_cons_succ]
                refine org_pure (v := ?_) (by kernel_rfl) ?_ ?_
                rotate_left
                · intro w' hv; clear hv; go_simp; try with_reducible rfl
                try simp only [Act.put, List.setIfInBounds_toArray, List.set_cons_zero, List.set_cons_succ]
                refine org_pure (v := ?_) (by kernel_rfl) ?_ ?_
                rotate_left
                · intro w' hv; have cx := (HBX3.out w' (HBK.out.trans (Below.mono hv HBK.out.size))).2.2; clear hv; go_simp; try with_reducible rfl
                try simp only [Act.put, List.setIfInBounds_toArray, List.set_cons_zero, List.set_cons_succ]
                refine org_pure (v := ?_) (by kernel_rfl) ?_ ?_
                rotate_left
                · intro w' hv; clear hv; go_simp; try with_reducible rfl
                try simp only [Act.put, List.setIfInBounds_toArray, List.set_cons_zero, List.set_cons_succ]
                refine org_pure (v := ?_) (by kernel_rfl) ?_ ?_
                rotate_left
                · intro w' hv; clear hv; go_simp; try with_reducible rfl
                try simp only [Act.put, List.setIfInBounds_toArray, List.set_cons_zero, List.set_cons_succ]
                refine org_pure (v := ?_) (by kernel_rfl) ?_ ?_
                rotate_left
                · intro w' hv; clear hv; go_simp; try with_reducible rfl
                try simp only [Act.put, List.setIfInBounds_toArray, List.set_cons_zero, List.set_cons_succ]
                refine org_pure (v := ?_) (by kernel_rfl) ?_ ?_
                rotate_left
                · intro w' hv; clear hv; go_simp; try with_reducible rfl
                try simp only [Act.put, List.setIfInBounds_toArray, List.set_cons_zero, List.set_cons_succ]
                refine org_pure (v := ?_) (by kernel_rfl) ?_ ?_
                rotate_left
                · intro w' hv; clear hv; go_simp; try with_reducible rfl
                try simp only [Act.put, List.setIfInBounds_toArray, List.set_cons_zero, List.set_cons_succ]
                refine org_skip (by kernel_rfl) ?_
                try simp only [Act.put, List.setIfInBounds_toArray, List.set_cons_zero, List.set_cons_succ]
                refine org_skip (by kernel_rfl) ?_
                try simp only [Act.put, List.setIfInBounds_toArray, List.set_cons_zero, List.set_cons_succ]
                refine org_skip (by kernel_rfl) ?_
                try simp only [Act.put, List.setIfInBounds_toArray, List.set_cons_zero, List.set_cons_succ]
                refine org_skip (by kernel_rfl) ?_
                try simp only [Act.put, List.setIfInBounds_toArray, List.set_cons_zero, List.set_cons_succ]
                refine org_pure (v := ?_) (by kernel_rfl) ?_ ?_
                rotate_left
                · intro w' hv; clear hv; go_simp; try with_reducible rfl
                try simp only [Act.put, List.setIfInBounds_toArray, List.set_cons_zero, List.set_cons_succ]
                refine org_nil ?_
                go_wp2_with fail
                go_ret
                exact ⟨rfl, HB.out⟩
              · have n0 : ¬ (0 : Int) < (n : Int) := by omega
                have n1 : ¬ (2048 : Int) < (n : Int) := by omega
                have n2 : ¬ 2048 < n := by omega
                have HOKE2 : Hid (okE C (prevOf C i) e0 = upB C x.data.toList) := Lib.hid (by rw [HOKE.out, hpv, hg, decide_eq_false hn0, decide_eq_true (show n ≤ 2048 by omega)]; simp)
                refine wp_region_org [(0, true), (1, true), (2, false), (3, true), (4, true), (5, true), (6, true), (7, true), (8, true), (9, true), (10, true), (11, true), (12, true), (13, true), (14, true), (15, true), (16, false), (17, true), (18, true), (19, true), (20, true), (21, true), (22, true), (23, true), (24, true), (25, true), (26, true), (27, true), (28, true), (29, true), (30, true), (31, true), (32, true), (33, true), (34, true), (35, true)] (by kernel_rfl) (by kernel_rfl) (by kernel_rfl) ?_
                replace HB := Lib.hid HB.out.drew
                replace HBK := Lib.hid HBK.out.drew
                generalize wb.drew = wd at *
                simp only [pickOrs, List.getElem?_cons_zero, List.getElem?_cons_succ]
                refine org_pure (v := ?_) (by kernel_rfl) ?_ ?_
                rotate_left
                · intro w' hv; clear hv; go_simp; try with_reducible rfl
                try simp only [Act.put, List.setIfInBounds_toArray, List.set_cons_zero, List.set_cons_succ]
                refine org_pure (v := ?_) (by kernel_rfl) ?_ ?_
                rotate_left
                · intro w' hv; have cx := (HBX3.out w' (HBK.out.trans (Below.mono hv HBK.out.size))).1; clear hv; go_simp; try with_reducible rfl
                try simp only [Act.put, List.setIfInBounds_toArray, List.set_cons_zero, List.set_cons_succ]
                refine org_step (by kernel_rfl) (fun K hK => ?_)
                go_wp2_with fail
                refine (HG.out _).mono ?_
                rintro e wg ⟨rfl, hb⟩
                have HE2 := Lib.hid hb
                replace HB := Lib.hid (HB.out.trans (hb.mono HB.out.size))
                replace HBK := Lib.hid (HBK.out.trans (hb.mono HBK.out.size))
                clear hb
                refine hK _ _ ⟨HE2.out, ?_⟩
                clear hK HE2
                try simp only [Act.put, List.setIfInBounds_toArray, List.set_cons_zero, List.set_cons_succ]
                refine org_pure (v := ?_) (by kernel_rfl) ?_ ?_
                rotate_left
                · intro w' hv; clear hv; go_simp; try with_reducible rfl
                try simp only [Act.put, List.setIfInBounds_toArray, List.set_cons_zero, List.set_cons_succ]
                refine org_pure (v := ?_) (by kernel_rfl) ?_ ?_
                rotate_left
                · intro w' hv; clear hv; go_simp; try with_reducible rfl
                try simp only [Act.put, List.setIfInBounds_toArray, List.set_cons_zero, List.set_cons_succ]
                refine org_pure (v := ?_) (by kernel_rfl) ?_ ?_
                rotate_left
                · intro w' hv; clear hv; go_simp; try with_reducible rfl
                try simp only [Act.put, List.setIfInBounds_toArray, List.set_cons_zero, List.set_cons_succ]
                refine org_pure (v := ?_) (by kernel_rfl) ?_ ?_
                rotate_left
                · intro w' hv; clear hv; go_simp; try with_reducible rfl
                try simp only [Act.put, List.setIfInBounds_toArray, List.set_cons_zero, List.set_cons_succ]
                refine org_pure (v := ?_) (by kernel_rfl) ?_ ?_
                rotate_left
                · intro w' hv; clear hv; go_simp; try with_reducible rfl
                try simp only [Act.put, List.setIfInBounds_toArray, List.set_cons_zero, List.set_cons_succ]
                refine org_pure (v := ?_) (by kernel_rfl) ?_ ?_
                rotate_left
                · intro w' hv; clear hv; go_simp; try with_reducible rfl
                try simp only [Act.put, List.setIfInBounds_toArray, List.set_cons_zero, List.set_cons_succ]
                refine org_pure (v := ?_) (by kernel_rfl) ?_ ?_
                rotate_left
                · intro w' hv; clear hv; go_simp; try with_reducible rfl
                try simp only [Act.put, List.setIfInBounds_toArray, List.set_cons_zero, List.set_cons_succ]
                refine org_pure (v := ?_) (by kernel_rfl) ?_ ?_
                rotate_left
                · intro w' hv; clear hv; go_simp; try with_reducible rfl
                try simp only [Act.put, List.setIfInBounds_toArray, List.set_cons_zero, List.set_cons_succ]
                refine org_pure (v := ?_) (by kernel_rfl) ?_ ?_
                rotate_left
                · intro w' hv; clear hv; go_simp; try with_reducible rfl
                try simp only [Act.put, List.setIfInBounds_toArray, List.set_cons_zero, List.set_cons_succ]
                refine org_pure (v := ?_) (by kernel_rfl) ?_ ?_
                rotate_left
                · intro w' hv; clear hv; go_simp; try with_reducible rfl
                try simp only [Act.put, List.setIfInBounds_toArray, List.set_cons_zero, List.set_cons_succ]
                refine org_pure (v := ?_) (by kernel_rfl) ?_ ?_
                rotate_left
                · intro w' hv; have cx := HCY.out w' (HB.out.trans (Below.mono hv HB.out.size)); clear hv; go_simp; try with_reducible rfl
                try simp only [Act.put, List.setIfInBounds_toArray, List.set_cons_zero, List.set_cons_succ]
                refine org_pure (v := ?_) (by kernel_rfl) ?_ ?_
                rotate_left
                · intro w' hv; clear hv; go_simp; try with_reducible rfl
                try simp only [Act.put, List.setIfInBounds_toArray, List.set_cons_zero, List.set_cons_succ]
                refine org_pure (v := ?_) (by kernel_rfl) ?_ ?_
                rotate_left
                · intro w' hv; have cx := (HBX3.out w' (HBK.out.trans (Below.mono hv HBK.out.size))).1; clear hv; go_simp; try with_reducible rfl
                try simp only [Act.put, List.setIfInBounds_toArray, List.set_cons_zero, List.set_cons_succ]
                refine org_step (by kernel_rfl) (fun K hK => ?_)
                go_wp2_with fail
                refine (HCM.out _).mono ?_
                rintro e wx ⟨rfl, hb⟩
                have HE2 := Lib.hid hb
                replace HB := Lib.hid (HB.out.trans (hb.mono HB.out.size))
                replace HBK := Lib.hid (HBK.out.trans (hb.mono HBK.out.size))
                clear hb
                refine hK _ _ ⟨HE2.out, ?_⟩
                clear hK HE2
                try simp only [Act.put, List.setIfInBounds_toArray, List.set_cons_zero, List.set_cons_succ]
                refine org_pure (v := ?_) (by kernel_rfl) ?_ ?_
                rotate_left
                · intro w' hv; clear hv; go_simp; try with_reducible rfl
                try simp only [Act.put, List.setIfInBounds_toArray, List.set_cons_zero, List.set_cons_succ]
                refine org_pure (v := ?_) (by kernel_rfl) ?_ ?_
                rotate_left
                · intro w' hv; clear hv; go_simp; try with_reducible rfl
                try simp only [Act.put, List.setIfInBounds_toArray, List.set_cons_zero, List.set_cons_succ]
                refine org_pure (v := ?_) (by kernel_rfl) ?_ ?_
                rotate_left
                · intro w' hv; clear hv; go_simp; try with_reducible rfl
                try simp only [Act.put, List.setIfInBounds_toArray, List.set_cons_zero, List.set_cons_succ]
                refine org_pure (v := ?_) (by kernel_rfl) ?_ ?_
                rotate_left
                · intro w' hv; clear hv; go_simp; try with_reducible rfl
                try simp only [Act.put, List.setIfInBounds_toArray, List.set_cons_zero, List.set_cons_succ]
                refine org_pure (v := ?_) (by kernel_rfl) ?_ ?_
                rotate_left
                · intro w' hv; clear hv; go_simp; try with_reducible rfl
                try simp only [Act.put, List.setIfInBounds_toArray, List.set_cons_zero, List.set_cons_succ]
                refine org_pure (v := ?_) (by kernel_rfl) ?_ ?_
                rotate_left
                · intro w' hv; have cx := (HBX3.out w' (HBK.out.trans (Below.mono hv HBK.out.size))).2.1; clear hv; go_simp; try with_reducible rfl
                try simp only [Act.put, List.setIfInBounds_toArray, List.set_cons_zero, List.set_cons_succ]
                refine org_pure (v := ?_) (by kernel_rfl) ?_ ?_
                rotate_left
                · intro w' hv; clear hv; go_simp; try with_reducible rfl
                try simp only [Act.put, List.setIfInBounds_toArray, List.set_cons_zero, List.set_cons_succ]
                refine org_pure (v := ?_) (by kernel_rfl) ?_ ?_
                rotate_left
                · intro w' hv; clear hv; go_simp; try with_reducible rfl
                try simp only [Act.put, List.setIfInBounds_toArray, List.set_cons_zero, List.set_cons_succ]
                refine org_pure (v := ?_) (by kernel_rfl) ?_ ?_
                rotate_left
                · intro w' hv; have cx := (HBX3.out w' (HBK.out.trans (Below.mono hv HBK.out.size))).2.2; clear hv; go_simp; try with_reducible rfl
                try simp only [Act.put, List.setIfInBounds_toArray, List.set_cons_zero, List.set_cons_succ]
                refine org_pure (v := ?_) (by kernel_rfl) ?_ ?_
                rotate_left
                · intro w' hv; clear hv; go_simp; try with_reducible rfl
                try simp only [Act.put, List.setIfInBounds_toArray, List.set_cons_zero, List.set_cons_succ]
                refine org_pure (v := ?_) (by kernel_rfl) ?_ ?_
                rotate_left
                · intro w' hv; clear hv; go_simp; try with_reducible rfl
                try simp only [Act.put, List.setIfInBounds_toArray, List.set_cons_zero, List.set_cons_succ]
                refine org_pure (v := ?_) (by kernel_rfl) ?_ ?_
                rotate_left
                · intro w' hv; clear hv; go_simp; try with_reducible rfl
                try simp only [Act.put, List.setIfInBounds_toArray, List.set_cons_zero, List.set_cons_succ]
                refine org_pure (v := ?_) (by kernel_rfl) ?_ ?_
                rotate_left
                · intro w' hv; clear hv; go_simp; try with_reducible rfl
                try simp only [Act.put, List.setIfInBounds_toArray, List.set_cons_zero, List.set_cons_succ]
                refine org_pure (v := ?_) (by kernel_rfl) ?_ ?_
                rotate_left
                · intro w' hv; clear hv; go_simp; try with_reducible rfl
                try simp only [Act.put, List.setIfInBounds_toArray, List.set_cons_zero, List.set_cons_succ]
                refine org_pure (v := ?_) (by kernel_rfl) ?_ ?_
                rotate_left
                · intro w' hv; clear hv; go_simp; try with_reducible rfl
                try simp only [Act.put, List.setIfInBounds_toArray, List.set_cons_zero, List.set_cons_succ]
                refine org_pure (v := ?_) (by kernel_rfl) ?_ ?_
                rotate_left
                · intro w' hv; have cx := (HBX3.out w' (HBK.out.trans (Below.mono hv HBK.out.size))).2.2; clear hv; go_simp; try with_reducible rfl
                try simp only [Act.put, List.setIfInBounds_toArray, List.set_cons_zero, List.set_cons_succ]
                refine org_pure (v := ?_) (by kernel_rfl) ?_ ?_
                rotate_left
                · intro w' hv; clear hv; go_simp; try with_reducible rfl
                try simp only [Act.put, List.setIfInBounds_toArray, List.set_cons_zero, List.set_cons_succ]
                refine org_pure (v := ?_) (by kernel_rfl) ?_ ?_
                rotate_left
                · intro w' hv; clear hv; go_simp; try with_reducible rfl
                try simp only [Act.put, List.setIfInBounds_toArray, List.set_cons_zero, List.set_cons_succ]
                refine org_pure (v := ?_) (by kernel_rfl) ?_ ?_
                rotate_left
                · intro w' hv; clear hv; go_simp; try with_reducible rfl
                try simp only [Act.put, List.setIfInBounds_toArray, List.set_cons_zero, List.set_cons_succ]
                refine org_nil ?_
                obtain ⟨e1, e2, e3⟩ := HBX3.out wx HBK.out
                go_wp2_with fail
                refine (HU.out _).mono ?_
                rintro e wu ⟨rfl, hb⟩
                replace HB := Lib.hid (HB.out.trans (hb.mono HB.out.size))
                replace HBK := Lib.hid (HBK.out.trans (hb.mono HBK.out.size))
                clear hb e1 e2 e3
                go_wp2_with fail
                refine (HAT.out _ ((HS.out.keep HB.out).more HB.out.size)).mono ?_
                rintro e wa ⟨rfl, rfl⟩
                by_cases hU : U.data = #[]
                · have HNX := Lib.hid (HNEXT.out (by rw [HOKE2.out, HUB1.out hU]))
                  have k1 := no_text hU
                  have k2 : (U.toList == []) = true := by rw [k1]; rfl
                  have k3 : (U.toList != []) = false := by rw [k1]; rfl
                  have k4 : U.toList.isEmpty = true := by rw [k1]; rfl
                  clear hU
                  go_wp2_with fail
                  go_roundw
                  case rel => exact ⟨i + 1, by omega, by go_num, HNX.out, HB.out⟩
                  case measure => simp [intOf]; omega
                · have k1 := some_text hU
                  have k2 : (U.toList == []) = false := by rw [beq_eq_false_iff_ne]; intro e; rw [e] at k1; cases k1
                  have k3 : (U.toList != []) = true := by simp [bne, k2]
                  by_cases h0 : Kat < 0
                  · have hv : V = false := HBAD.out (by rw [HOKE2.out, HUB2.out hU h0])
                    subst hv
                    clear hU
                    go_wp2_with fail
                    go_ret
                    exact ⟨rfl, HB.out⟩
                  · obtain ⟨k, hkk⟩ : ∃ k : Nat, Kat = (k : Int) := ⟨Kat.toNat, by omega⟩
                    have hk : k < C.length := by omega
                    obtain ⟨a2, ha2, _, hc2⟩ := HS.out.ent hk
                    cases ha2
                    have hd : dirT C k = C[k].2.1 := by unfold dirT; rw [List.getElem?_eq_getElem hk]; rfl
                    have hub := HUB3.out hU k hkk
                    rw [hd] at hub
                    have HCK : Hid (∀ w', Below w.heap.size w w' → w'.cell? ⟨(a.add (k * 3)).block, (a.add (k * 3)).off + 1, none⟩ = some (.bool C[k].2.1)) := Lib.hid (fun w' hb => (hc2 w' hb).2.1)
                    have kk2 : ((k : Int) < 0) = False := by simp
                    have kl2 : (k : Int) < (C.length : Int) := by omega
                    clear hc2 hd hU h0
                    subst hkk
                    generalize C[k].2.1 = d2 at *
                    cases d2 with
                    | true =>
                      have HNX := Lib.hid (HNEXT.out (by rw [HOKE2.out, hub]))
                      clear hub
                      have c5 := HCK.out wu HB.out
                      go_wp2_with fail
                      go_roundw
                      case rel => exact ⟨i + 1, by omega, by go_num, HNX.out, HB.out⟩
                      case measure => simp [intOf]; omega
                    | false =>
                      have hv : V = false := HBAD.out (by rw [HOKE2.out, hub])
                      subst hv
                      clear hub
                      have c5 := HCK.out wu HB.out
                      go_wp2_with fail
                      go_ret
                      exact ⟨rfl, HB.out⟩
            | false =>
              by_cases hn1 : 2048 < n
              · have n0 : (2048 : Int) < (n : Int) := by omega
                have hv : V = false := HBAD.out (by rw [HOKE.out, hpv, hg, decide_eq_false (show ¬ n ≤ 2048 by omega)]; simp)
                subst hv
                refine wp_region_org [(0, true), (1, true), (2, false), (3, true), (4, true), (5, true), (6, true), (7, true), (8, true), (9, true), (10, true), (11, true), (12, true), (13, true), (14, true), (15, true), (16, false), (17, true), (18, true), (19, true), (20, true), (21, true), (22, true), (23, true), (24, true), (25, true), (26, true), (27, true), (28, true), (29, true), (30, true), (31, true), (32, true), (33, true), (34, true), (35, true)] (by kernel_rfl) (by kernel_rfl) (by kernel_rfl) ?_
                replace HB := Lib.hid HB.out.drew
                replace HBK := Lib.hid HBK.out.drew
                generalize wb.drew = wd at *
                simp only [pickOrs, List.getElem?_cons_zero, List.getElem?_cons_succ]
                refine org_pure (v := ?_) (by kernel_rfl) ?_ ?_
                rotate_left
                · intro w' hv; clear hv; go_simp; try with_reducible rfl
                try simp only [Act.put, List.setIfInBounds_toArray, List.set_cons_zero, List.set_cons_succ]
                refine org_pure (v := ?_) (by kernel_rfl) ?_ ?_
                rotate_left
                · intro w' hv; have cx := (HBX3.out w' (HBK.out.trans (Below.mono hv HBK.out.size))).1; clear hv; go_simp; try with_reducible rfl
                try simp only [Act.put, List.setIfInBounds_toArray, List.set_cons_zero, List.set_cons_succ]
                refine org_step (by kernel_rfl) (fun K hK => ?_)
                go_wp2_with fail
                refine (HG.out _).mono ?_
                rintro e wg ⟨rfl, hb⟩
                have HE2 := Lib.hid hb
                replace HB := Lib.hid (HB.out.trans (hb.mono HB.out.size))
                replace HBK := Lib.hid (HBK.out.trans (hb.mono HBK.out.size))
                clear hb
                refine hK _ _ ⟨HE2.out, ?_⟩
                clear hK HE2
                try simp only [Act.put, List.setIfInBounds_toArray, List.set_cons_zero, List.set_cons_succ]
                refine org_pure (v := ?_) (by kernel_rfl) ?_ ?_
                rotate_left
                · intro w' hv; clear hv; go_simp; try with_reducible rfl
                try simp only [Act.put, List.setIfInBounds_toArray, List.set_cons_zero, List.set_cons_succ]
                refine org_pure (v := ?_) (by kernel_rfl) ?_ ?_
                rotate_left
                · intro w' hv; clear hv; go_simp; try with_reducible rfl
                try simp only [Act.put, List.setIfInBounds_toArray, List.set_cons_zero, List.set_cons_succ]
                refine org_pure (v := ?_) (by kernel_rfl) ?_ ?_
                rotate_left
                · intro w' hv; clear hv; go_simp; try with_reducible rfl
                try simp only [Act.put, List.setIfInBounds_toArray, List.set_cons_zero, List.set_cons_succ]
                refine org_pure (v := ?_) (by kernel_rfl) ?_ ?_
                rotate_left
                · intro w' hv; clear hv; go_simp; try with_reducible rfl
                try simp only [Act.put, List.setIfInBounds_toArray, List.set_cons_zero, List.set_cons_succ]
                refine org_pure (v := ?_) (by kernel_rfl) ?_ ?_
                rotate_left
                · intro w' hv; clear hv; go_simp; try with_reducible rfl
                try simp only [Act.put, List.setIfInBounds_toArray, List.set_cons_zero, List.set_cons_succ]
                refine org_pure (v := ?_) (by kernel_rfl) ?_ ?_
                rotate_left
                · intro w' hv; clear hv; go_simp; try with_reducible rfl
                try simp only [Act.put, List.setIfInBounds_toArray, List.set_cons_zero, List.set_cons_succ]
                refine org_pure (v := ?_) (by kernel_rfl) ?_ ?_
                rotate_left
                · intro w' hv; clear hv; go_simp; try with_reducible rfl
                try simp only [Act.put, List.setIfInBounds_toArray, List.set_cons_zero, List.set_cons_succ]
                refine org_pure (v := ?_) (by kernel_rfl) ?_ ?_
                rotate_left
                · intro w' hv; clear hv; go_simp; try with_reducible rfl
                try simp only [Act.put, List.setIfInBounds_toArray, List.set_cons_zero, List.set_cons_succ]
                refine org_pure (v := ?_) (by kernel_rfl) ?_ ?_
                rotate_left
                · intro w' hv; clear hv; go_simp; try with_reducible rfl
                try simp only [Act.put, List.setIfInBounds_toArray, List.set_cons_zero, List.set_cons_succ]
                refine org_pure (v := ?_) (by kernel_rfl) ?_ ?_
                rotate_left
                · intro w' hv; clear hv; go_simp; try with_reducible rfl
                try simp only [Act.put, List.setIfInBounds_toArray, List.set_cons_zero, List.set_cons_succ]
                refine org_pure (v := ?_) (by kernel_rfl) ?_ ?_
                rotate_left
                · intro w' hv; have cx := HCY.out w' (HB.out.trans (Below.mono hv HB.out.size)); clear hv; go_simp; try with_reducible rfl
                try simp only [Act.put, List.setIfInBounds_toArray, List.set_cons_zero, List.set_cons_succ]
                refine org_pure (v := ?_) (by kernel_rfl) ?_ ?_
                rotate_left
                · intro w' hv; clear hv; go_simp; try with_reducible rfl
                try simp only [Act.put, List.setIfInBounds_toArray, List.set_cons_zero, List.set_cons_succ]
                refine org_pure (v := ?_) (by kernel_rfl) ?_ ?_
                rotate_left
                · intro w' hv; have cx := (HBX3.out w' (HBK.out.trans (Below.mono hv HBK.out.size))).1; clear hv; go_simp; try with_reducible rfl
                try simp only [Act.put, List.setIfInBounds_toArray, List.set_cons_zero, List.set_cons_succ]
                refine org_step (by kernel_rfl) (fun K hK => ?_)
                go_wp2_with fail
                refine (HCM.out _).mono ?_
                rintro e wx ⟨rfl, hb⟩
                have HE2 := Lib.hid hb
                replace HB := Lib.hid (HB.out.trans (hb.mono HB.out.size))
                replace HBK := Lib.hid (HBK.out.trans (hb.mono HBK.out.size))
                clear hb
                refine hK _ _ ⟨HE2.out, ?_⟩
                clear hK HE2
                try simp only [Act.put, List.setIfInBounds_toArray, List.set_cons_zero, List.set_cons_succ]
                refine org_pure (v := ?_) (by kernel_rfl) ?_ ?_
                rotate_left
                · intro w' hv; clear hv; go_simp; try with_reducible rfl
                try simp only [Act.put, List.setIfInBounds_toArray, List.set_cons_zero, List.set_cons_succ]
                refine org_pure (v := ?_) (by kernel_rfl) ?_ ?_
                rotate_left
                · intro w' hv; clear hv; go_simp; try with_reducible rfl
                try simp only [Act.put, List.setIfInBounds_toArray, List.set_cons_zero, List.set_cons_succ]
                refine org_pure (v := ?_) (by kernel_rfl) ?_ ?_
                rotate_left
                · intro w' hv; clear hv; go_simp; try with_reducible rfl
                try simp only [Act.put, List.setIfInBounds_toArray, List.set_cons_zero, List.set_cons_succ]
                refine org_pure (v := ?_) (by kernel_rfl) ?_ ?_
                rotate_left
                · intro w' hv; clear hv; go_simp; try with_reducible rfl
                try simp only [Act.put, List.setIfInBounds_toArray, List.set_cons_zero, List.set_cons_succ]
                refine org_pure (v := ?_) (by kernel_rfl) ?_ ?_
                rotate_left
                · intro w' hv; clear hv; go_simp; try with_reducible rfl
                try simp only [Act.put, List.setIfInBounds_toArray, List.set_cons_zero, List.set_cons_succ]
                refine org_pure (v := ?_) (by kernel_rfl) ?_ ?_
                rotate_left
                · intro w' hv; have cx := (HBX3.out w' (HBK.out.trans (Below.mono hv HBK.out.size))).2.1; clear hv; go_simp; try with_reducible rfl
                try simp only [Act.put, List.setIfInBounds_toArray, List.set_cons_zero, List.set_cons_succ]
                refine org_pure (v := ?_) (by kernel_rfl) ?_ ?_
                rotate_left
                · intro w' hv; clear hv; go_simp; try with_reducible rfl
                try simp only [Act.put, List.setIfInBounds_toArray, List.set_cons_zero, List.set_cons_succ]
                refine org_skip (by kernel_rfl) ?_
                try simp only [Act.put, List.setIfInBounds_toArray, List.set_cons_zero, List.set_cons_succ]
                refine org_skip (by kernel_rfl) ?_
                try simp only [Act.put, List.setIfInBounds_toArray, List.set_cons_zero, List.set_cons_succ]
                refine org_skip (by kernel_rfl) ?_
                try simp only [Act.put, List.setIfInBounds_toArray, List.set_cons_zero, List.set_cons_succ]
                refine org_skip (by kernel_rfl) ?_
                try simp only [Act.put, List.setIfInBounds_toArray, List.set_cons_zero, List.set_cons_succ]
                refine org_pure (v := ?_) (by kernel_rfl) ?_ ?_
                rotate_left
                · intro w' hv; clear hv; go_simp; try with_reducible rfl
                try simp only [Act.put, List.setIfInBounds_toArray, List.set_cons_zero, List.set_cons_succ]
                refine org_pure (v := ?_) (by kernel_rfl) ?_ ?_
                rotate_left
                · intro w' hv; clear hv; go_simp; try with_reducible rfl
                try simp only [Act.put, List.setIfInBounds_toArray, List.set_cons_zero, List.set_cons_succ]
                refine org_pure (v := ?_) (by kernel_rfl) ?_ ?_
                rotate_left
                · intro w' hv; clear hv; go_simp; try with_reducible rfl
                try simp only [Act.put, List.setIfInBounds_toArray, List.set_cons_zero, List.set_cons_succ]
                refine org_pure (v := ?_) (by kernel_rfl) ?_ ?_
                rotate_left
                · intro w' hv; clear hv; go_simp; try with_reducible rfl
                try simp only [Act.put, List.setIfInBounds_toArray, List.set_cons_zero, List.set_cons_succ]
                refine org_pure (v := ?_) (by kernel_rfl) ?_ ?_
                rotate_left
                · intro w' hv; have cx := (HBX3.out w' (HBK.out.trans (Below.mono hv HBK.out.size))).2.2; clear hv; go_simp; try with_reducible rfl
                try simp only [Act.put, List.setIfInBounds_toArray, List.set_cons_zero, List.set_cons_succ]
                refine org_pure (v := ?_) (by kernel_rfl) ?_ ?_
                rotate_left
                · intro w' hv; clear hv; go_simp; try with_reducible rfl
                try simp only [Act.put, List.setIfInBounds_toArray, List.set_cons_zero, List.set_cons_succ]
                refine org_pure (v := ?_) (by kernel_rfl) ?_ ?_
                rotate_left
                · intro w' hv; clear hv; go_simp; try with_reducible rfl
                try simp only [Act.put, List.setIfInBounds_toArray, List.set_cons_zero, List.set_cons_succ]
                refine org_pure (v := ?_) (by kernel_rfl) ?_ ?_
                rotate_left
                · intro w' hv; clear hv; go_simp; try with_reducible rfl
                try simp only [Act.put, List.setIfInBounds_toArray, List.set_cons_zero, List.set_cons_succ]
                refine org_nil ?_
                go_wp2_with fail
                go_ret
                exact ⟨rfl, HB.out⟩
              · have n0 : ¬ (2048 : Int) < (n : Int) := by omega
                have HOKE2 : Hid (okE C (prevOf C i) e0 = upB C x.data.toList) := Lib.hid (by rw [HOKE.out, hpv, hg, decide_eq_true (show n ≤ 2048 by omega)]; simp)
                refine wp_region_org [(0, true), (1, true), (2, false), (3, true), (4, true), (5, true), (6, true), (7, true), (8, true), (9, true), (10, true), (11, true), (12, true), (13, true), (14, true), (15, true), (16, false), (17, true), (18, true), (19, true), (20, true), (21, true), (22, true), (23, true), (24, true), (25, true), (26, true), (27, true), (28, true), (29, true), (30, true), (31, true), (32, true), (33, true), (34, true), (35, true)] (by kernel_rfl) (by kernel_rfl) (by kernel_rfl) ?_
                replace HB := Lib.hid HB.out.drew
                replace HBK := Lib.hid HBK.out.drew
                generalize wb.drew = wd at *
                simp only [pickOrs, List.getElem?_cons_zero, List.getElem?_cons_succ]
                refine org_pure (v := ?_) (by kernel_rfl) ?_ ?_
                rotate_left
                · intro w' hv; clear hv; go_simp; try with_reducible rfl
                try simp only [Act.put, List.setIfInBounds_toArray, List.set_cons_zero, List.set_cons_succ]
                refine org_pure (v := ?_) (by kernel_rfl) ?_ ?_
                rotate_left
                · intro w' hv; have cx := (HBX3.out w' (HBK.out.trans (Below.mono hv HBK.out.size))).1; clear hv; go_simp; try with_reducible rfl
                try simp only [Act.put, List.setIfInBounds_toArray, List.set_cons_zero, List.set_cons_succ]
                refine org_step (by kernel_rfl) (fun K hK => ?_)
                go_wp2_with fail
                refine (HG.out _).mono ?_
                rintro e wg ⟨rfl, hb⟩
                have HE2 := Lib.hid hb
                replace HB := Lib.hid (HB.out.trans (hb.mono HB.out.size))
                replace HBK := Lib.hid (HBK.out.trans (hb.mono HBK.out.size))
                clear hb
                refine hK _ _ ⟨HE2.out, ?_⟩
                clear hK HE2
                try simp only [Act.put, List.setIfInBounds_toArray, List.set_cons_zero, List.set_cons_succ]
                refine org_pure (v := ?_) (by kernel_rfl) ?_ ?_
                rotate_left
                · intro w' hv; clear hv; go_simp; try with_reducible rfl
                try simp only [Act.put, List.setIfInBounds_toArray, List.set_cons_zero, List.set_cons_succ]
                refine org_pure (v := ?_) (by kernel_rfl) ?_ ?_
                rotate_left
                · intro w' hv; clear hv; go_simp; try with_reducible rfl
                try simp only [Act.put, List.setIfInBounds_toArray, List.set_cons_zero, List.set_cons_succ]
                refine org_pure (v := ?_) (by kernel_rfl) ?_ ?_
                rotate_left
                · intro w' hv; clear hv; go_simp; try with_reducible rfl
                try simp only [Act.put, List.setIfInBounds_toArray, List.set_cons_zero, List.set_cons_succ]
                refine org_pure (v := ?_) (by kernel_rfl) ?_ ?_
                rotate_left
                · intro w' hv; clear hv; go_simp; try with_reducible rfl
                try simp only [Act.put, List.setIfInBounds_toArray, List.set_cons_zero, List.set_cons_succ]
                refine org_pure (v := ?_) (by kernel_rfl) ?_ ?_
                rotate_left
                · intro w' hv; clear hv; go_simp; try with_reducible rfl
                try simp only [Act.put, List.setIfInBounds_toArray, List.set_cons_zero, List.set_cons_succ]
                refine org_pure (v := ?_) (by kernel_rfl) ?_ ?_
                rotate_left
                · intro w' hv; clear hv; go_simp; try with_reducible rfl
                try simp only [Act.put, List.setIfInBounds_toArray, List.set_cons_zero, List.set_cons_succ]
                refine org_pure (v := ?_) (by kernel_rfl) ?_ ?_
                rotate_left
                · intro w' hv; clear hv; go_simp; try with_reducible rfl
                try simp only [Act.put, List.setIfInBounds_toArray, List.set_cons_zero, List.set_cons_succ]
                refine org_pure (v := ?_) (by kernel_rfl) ?_ ?_
                rotate_left
                · intro w' hv; clear hv; go_simp; try with_reducible rfl
                try simp only [Act.put, List.setIfInBounds_toArray, List.set_cons_zero, List.set_cons_succ]
                refine org_pure (v := ?_) (by kernel_rfl) ?_ ?_
                rotate_left
                · intro w' hv; clear hv; go_simp; try with_reducible rfl
                try simp only [Act.put, List.setIfInBounds_toArray, List.set_cons_zero, List.set_cons_succ]
                refine org_pure (v := ?_) (by kernel_rfl) ?_ ?_
                rotate_left
                · intro w' hv; clear hv; go_simp; try with_reducible rfl
                try simp only [Act.put, List.setIfInBounds_toArray, List.set_cons_zero, List.set_cons_succ]
                refine org_pure (v := ?_) (by kernel_rfl) ?_ ?_
                rotate_left
                · intro w' hv; have cx := HCY.out w' (HB.out.trans (Below.mono hv HB.out.size)); clear hv; go_simp; try with_reducible rfl
                try simp only [Act.put, List.setIfInBounds_toArray, List.set_cons_zero, List.set_cons_succ]
                refine org_pure (v := ?_) (by kernel_rfl) ?_ ?_
                rotate_left
                · intro w' hv; clear hv; go_simp; try with_reducible rfl
                try simp only [Act.put, List.setIfInBounds_toArray, List.set_cons_zero, List.set_cons_succ]
                refine org_pure (v := ?_) (by kernel_rfl) ?_ ?_
                rotate_left
                · intro w' hv; have cx := (HBX3.out w' (HBK.out.trans (Below.mono hv HBK.out.size))).1; clear hv; go_simp; try with_reducible rfl
                try simp only [Act.put, List.setIfInBounds_toArray, List.set_cons_zero, List.set_cons_succ]
                refine org_step (by kernel_rfl) (fun K hK => ?_)
                go_wp2_with fail
                refine (HCM.out _).mono ?_
                rintro e wx ⟨rfl, hb⟩
                have HE2 := Lib.hid hb
                replace HB := Lib.hid (HB.out.trans (hb.mono HB.out.size))
                replace HBK := Lib.hid (HBK.out.trans (hb.mono HBK.out.size))
                clear hb
                refine hK _ _ ⟨HE2.out, ?_⟩
                clear hK HE2
                try simp only [Act.put, List.setIfInBounds_toArray, List.set_cons_zero, List.set_cons_succ]
                refine org_pure (v := ?_) (by kernel_rfl) ?_ ?_
                rotate_left
                · intro w' hv; clear hv; go_simp; try with_reducible rfl
                try simp only [Act.put, List.setIfInBounds_toArray, List.set_cons_zero, List.set_cons_succ]
                refine org_pure (v := ?_) (by kernel_rfl) ?_ ?_
                rotate_left
                · intro w' hv; clear hv; go_simp; try with_reducible rfl
                try simp only [Act.put, List.setIfInBounds_toArray, List.set_cons_zero, List.set_cons_succ]
                refine org_pure (v := ?_) (by kernel_rfl) ?_ ?_
                rotate_left
                · intro w' hv; clear hv; go_simp; try with_reducible rfl
                try simp only [Act.put, List.setIfInBounds_toArray, List.set_cons_zero, List.set_cons_succ]
                refine org_pure (v := ?_) (by kernel_rfl) ?_ ?_
                rotate_left
                · intro w' hv; clear hv; go_simp; try with_reducible rfl
                try simp only [Act.put, List.setIfInBounds_toArray, List.set_cons_zero, List.set_cons_succ]
                refine org_pure (v := ?_) (by kernel_rfl) ?_ ?_
                rotate_left
                · intro w' hv; clear hv; go_simp; try with_reducible rfl
                try simp only [Act.put, List.setIfInBounds_toArray, List.set_cons_zero, List.set_cons_succ]
                refine org_pure (v := ?_) (by kernel_rfl) ?_ ?_
                rotate_left
                · intro w' hv; have cx := (HBX3.out w' (HBK.out.trans (Below.mono hv HBK.out.size))).2.1; clear hv; go_simp; try with_reducible rfl
                try simp only [Act.put, List.setIfInBounds_toArray, List.set_cons_zero, List.set_cons_succ]
                refine org_pure (v := ?_) (by kernel_rfl) ?_ ?_
                rotate_left
                · intro w' hv; clear hv; go_simp; try with_reducible rfl
                try simp only [Act.put, List.setIfInBounds_toArray, List.set_cons_zero, List.set_cons_succ]
                refine org_skip (by kernel_rfl) ?_
                try simp only [Act.put, List.setIfInBounds_toArray, List.set_cons_zero, List.set_cons_succ]
                refine org_skip (by kernel_rfl) ?_
                try simp only [Act.put, List.setIfInBounds_toArray, List.set_cons_zero, List.set_cons_succ]
                refine org_skip (by kernel_rfl) ?_
                try simp only [Act.put, List.setIfInBounds_toArray, List.set_cons_zero, List.set_cons_succ]
                refine org_skip (by kernel_rfl) ?_
                try simp only [Act.put, List.setIfInBounds_toArray, List.set_cons_zero, List.set_cons_succ]
                refine org_pure (v := ?_) (by kernel_rfl) ?_ ?_
                rotate_left
                · intro w' hv; clear hv; go_simp; try with_reducible rfl
                try simp only [Act.put, List.setIfInBounds_toArray, List.set_cons_zero, List.set_cons_succ]
                refine org_pure (v := ?_) (by kernel_rfl) ?_ ?_
                rotate_left
                · intro w' hv; clear hv; go_simp; try with_reducible rfl
                try simp only [Act.put, List.setIfInBounds_toArray, List.set_cons_zero, List.set_cons_succ]
                refine org_pure (v := ?_) (by kernel_rfl) ?_ ?_
                rotate_left
                · intro w' hv; clear hv; go_simp; try with_reducible rfl
                try simp only [Act.put, List.setIfInBounds_toArray, List.set_cons_zero, List.set_cons_succ]
                refine org_pure (v := ?_) (by kernel_rfl) ?_ ?_
                rotate_left
                · intro w' hv; clear hv; go_simp; try with_reducible rfl
                try simp only [Act.put, List.setIfInBounds_toArray, List.set_cons_zero, List.set_cons_succ]
                refine org_pure (v := ?_) (by kernel_rfl) ?_ ?_
                rotate_left
                · intro w' hv; have cx := (HBX3.out w' (HBK.out.trans (Below.mono hv HBK.out.size))).2.2; clear hv; go_simp; try with_reducible rfl
                try simp only [Act.put, List.setIfInBounds_toArray, List.set_cons_zero, List.set_cons_succ]
                refine org_pure (v := ?_) (by kernel_rfl) ?_ ?_
                rotate_left
                · intro w' hv; clear hv; go_simp; try with_reducible rfl
                try simp only [Act.put, List.setIfInBounds_toArray, List.set_cons_zero, List.set_cons_succ]
                refine org_pure (v := ?_) (by kernel_rfl) ?_ ?_
                rotate_left
                · intro w' hv; clear hv; go_simp; try with_reducible rfl
                try simp only [Act.put, List.setIfInBounds_toArray, List.set_cons_zero, List.set_cons_succ]
                refine org_pure (v := ?_) (by kernel_rfl) ?_ ?_
                rotate_left
                · intro w' hv; clear hv; go_simp; try with_reducible rfl
                try simp only [Act.put, List.setIfInBounds_toArray, List.set_cons_zero, List.set_cons_succ]
                refine org_nil ?_
                obtain ⟨e1, e2, e3⟩ := HBX3.out wx HBK.out
                go_wp2_with fail
                refine (HU.out _).mono ?_
                rintro e wu ⟨rfl, hb⟩
                replace HB := Lib.hid (HB.out.trans (hb.mono HB.out.size))
                replace HBK := Lib.hid (HBK.out.trans (hb.mono HBK.out.size))
                clear hb e1 e2 e3
                go_wp2_with fail
                refine (HAT.out _ ((HS.out.keep HB.out).more HB.out.size)).mono ?_
                rintro e wa ⟨rfl, rfl⟩
                by_cases hU : U.data = #[]
                · have HNX := Lib.hid (HNEXT.out (by rw [HOKE2.out, HUB1.out hU]))
                  have k1 := no_text hU
                  have k2 : (U.toList == []) = true := by rw [k1]; rfl
                  have k3 : (U.toList != []) = false := by rw [k1]; rfl
                  have k4 : U.toList.isEmpty = true := by rw [k1]; rfl
                  clear hU
                  go_wp2_with fail
                  go_roundw
                  case rel => exact ⟨i + 1, by omega, by go_num, HNX.out, HB.out⟩
                  case measure => simp [intOf]; omega
                · have k1 := some_text hU
                  have k2 : (U.toList == []) = false := by rw [beq_eq_false_iff_ne]; intro e; rw [e] at k1; cases k1
                  have k3 : (U.toList != []) = true := by simp [bne, k2]
                  by_cases h0 : Kat < 0
                  · have hv : V = false := HBAD.out (by rw [HOKE2.out, HUB2.out hU h0])
                    subst hv
                    clear hU
                    go_wp2_with fail
                    go_ret
                    exact ⟨rfl, HB.out⟩
                  · obtain ⟨k, hkk⟩ : ∃ k : Nat, Kat = (k : Int) := ⟨Kat.toNat, by omega⟩
                    have hk : k < C.length := by omega
                    obtain ⟨a2, ha2, _, hc2⟩ := HS.out.ent hk
                    cases ha2
                    have hd : dirT C k = C[k].2.1 := by unfold dirT; rw [List.getElem?_eq_getElem hk]; rfl
                    have hub := HUB3.out hU k hkk
                    rw [hd] at hub
                    have HCK : Hid (∀ w', Below w.heap.size w w' → w'.cell? ⟨(a.add (k * 3)).block, (a.add (k * 3)).off + 1, none⟩ = some (.bool C[k].2.1)) := Lib.hid (fun w' hb => (hc2 w' hb).2.1)
                    have kk2 : ((k : Int) < 0) = False := by simp
                    have kl2 : (k : Int) < (C.length : Int) := by omega
                    clear hc2 hd hU h0
                    subst hkk
                    generalize C[k].2.1 = d2 at *
                    cases d2 with
                    | true =>
                      have HNX := Lib.hid (HNEXT.out (by rw [HOKE2.out, hub]))
                      clear hub
                      have c5 := HCK.out wu HB.out
                      go_wp2_with fail
                      go_roundw
                      case rel => exact ⟨i + 1, by omega, by go_num, HNX.out, HB.out⟩
                      case measure => simp [intOf]; omega
                    | false =>
                      have hv : V = false := HBAD.out (by rw [HOKE2.out, hub])
                      subst hv
                      clear hub
                      have c5 := HCK.out wu HB.out
                      go_wp2_with fail
                      go_ret
                      exact ⟨rfl, HB.out⟩
        · have hpv : prevB (prevOf C i) x.data.toList = true := by unfold prevOf; rw [if_pos (by omega)]; rfl
          have k0 : ¬ (0 : Int) < (i : Int) := by omega
          cases d with
          | true =>
            by_cases hn0 : 0 < n
            · have n0 : (0 : Int) < (n : Int) := by omega
              have hv : V = false := HBAD.out (by rw [HOKE.out, hpv, hg, decide_eq_true hn0]; simp)
              subst hv
              refine wp_region_org [(0, true), (1, true), (2, false), (3, true), (4, true), (5, true), (6, true), (7, true), (8, true), (9, true), (10, true), (11, true), (12, true), (13, true), (14, true), (15, true), (16, false), (17, true), (18, true), (19, true), (20, true), (21, true), (22, true), (23, true), (24, true), (25, true), (26, true), (27, true), (28, true), (29, true), (30, true), (31, true), (32, true), (33, true), (34, true), (35, true)] (by kernel_rfl) (by kernel_rfl) (by kernel_rfl) ?_
              replace HB := Lib.hid HB.out.drew
              replace HBK := Lib.hid HBK.out.drew
              generalize wb.drew = wd at *
              simp only [pickOrs, List.getElem?_cons_zero, List.getElem?_cons_succ]
              refine org_pure (v := ?_) (by kernel_rfl) ?_ ?_
              rotate_left
              · intro w' hv; clear hv; go_simp; try with_reducible rfl
              try simp only [Act.put, List.setIfInBounds_toArray, List.set_cons_zero, List.set_cons_succ]
              refine org_pure (v := ?_) (by kernel_rfl) ?_ ?_
              rotate_left
              · intro w' hv; have cx := (HBX3.out w' (HBK.out.trans (Below.mono hv HBK.out.size))).1; clear hv; go_simp; try with_reducible rfl
              try simp only [Act.put, List.setIfInBounds_toArray, List.set_cons_zero, List.set_cons_succ]
              refine org_step (by kernel_rfl) (fun K hK => ?_)
              go_wp2_with fail
              refine (HG.out _).mono ?_
              rintro e wg ⟨rfl, hb⟩
              have HE2 := Lib.hid hb
              replace HB := Lib.hid (HB.out.trans (hb.mono HB.out.size))
              replace HBK := Lib.hid (HBK.out.trans (hb.mono HBK.out.size))
              clear hb
              refine hK _ _ ⟨HE2.out, ?_⟩
              clear hK HE2
              try simp only [Act.put, List.setIfInBounds_toArray, List.set_cons_zero, List.set_cons_succ]
              refine org_pure (v := ?_) (by kernel_rfl) ?_ ?_
              rotate_left
              · intro w' hv; clear hv; go_simp; try with_reducible rfl
              try simp only [Act.put, List.setIfInBounds_toArray, List.set_cons_zero, List.set_cons_succ]
              refine org_pure (v := ?_) (by kernel_rfl) ?_ ?_
              rotate_left
              · intro w' hv; clear hv; go_simp; try with_reducible rfl
              try simp only [Act.put, List.setIfInBounds_toArray, List.set_cons_zero, List.set_cons_succ]
              refine org_pure (v := ?_) (by kernel_rfl) ?_ ?_
              rotate_left
              · intro w' hv; clear hv; go_simp; try with_reducible rfl
              try simp only [Act.put, List.setIfInBounds_toArray, List.set_cons_zero, List.set_cons_succ]
              refine org_pure (v := ?_) (by kernel_rfl) ?_ ?_
              rotate_left
              · intro w' hv; clear hv; go_simp; try with_reducible rfl
              try simp only [Act.put, List.setIfInBounds_toArray, List.set_cons_zero, List.set_cons_succ]
              refine org_pure (v := ?_) (by kernel_rfl) ?_ ?_
              rotate_left
              · intro w' hv; clear hv; go_simp; try with_reducible rfl
              try simp only [Act.put, List.setIfInBounds_toArray, List.set_cons_zero, List.set_cons_succ]
              refine org_skip (by kernel_rfl) ?_
              try simp only [Act.put, List.setIfInBounds_toArray, List.set_cons_zero, List.set_cons_succ]
              refine org_skip (by kernel_rfl) ?_
              try simp only [Act.put, List.setIfInBounds_toArray, List.set_cons_zero, List.set_cons_succ]
              refine org_skip (by kernel_rfl) ?_
              try simp only [Act.put, List.setIfInBounds_toArray, List.set_cons_zero, List.set_cons_succ]
              refine org_skip (by kernel_rfl) ?_
              try simp only [Act.put, List.setIfInBounds_toArray, List.set_cons_zero, List.set_cons_succ]
              refine org_skip (by kernel_rfl) ?_
              try simp only [Act.put, List.setIfInBounds_toArray, List.set_cons_zero, List.set_cons_succ]
              refine org_skip (by kernel_rfl) ?_
              try simp only [Act.put, List.setIfInBounds_toArray, List.set_cons_zero, List.set_cons_succ]
              refine org_skip (by kernel_rfl) ?_
              try simp only [Act.put, List.setIfInBounds_toArray, List.set_cons_zero, List.set_cons_succ]
              refine org_skip (by kernel_rfl) ?_
              try simp only [Act.put, List.setIfInBounds_toArray, List.set_cons_zero, List.set_cons_succ]
              refine org_pass (by kernel_rfl) ?_
              try simp only [Act.put, List.setIfInBounds_toArray, List.set_cons_zero, List.set_cons_succ]
              refine org_skip (by kernel_rfl) ?_
              try simp only [Act.put, List.setIfInBounds_toArray, List.set_cons_zero, List.set_cons_succ]
              refine org_pure (v := ?_) (by kernel_rfl) ?_ ?_
              rotate_left
              · intro w' hv; clear hv; go_simp; try with_reducible rfl
              try simp only [Act.put, List.setIfInBounds_toArray, List.set_cons_zero, List.set_cons_succ]
              refine org_pure (v := ?_) (by kernel_rfl) ?_ ?_
              rotate_left
              · intro w' hv; clear hv; go_simp; try with_reducible rfl
              try simp only [Act.put, List.setIfInBounds_toArray, List.set_cons_zero, List.set_cons_succ]
              refine org_pure (v := ?_) (by kernel_rfl) ?_ ?_
              rotate_left
              · intro w' hv; clear hv; go_simp; try with_reducible rfl
              try simp only [Act.put, List.setIfInBounds_toArray, List.set_cons_zero, List.set_cons_succ]
              refine org_pure (v := ?_) (by kernel_rfl) ?_ ?_
              rotate_left
              · intro w' hv; clear hv; go_simp; try with_reducible rfl
              try simp only [Act.put, List.setIfInBounds_toArray, List.set_cons_zero, List.set_cons_succ]
              refine org_pure (v := ?_) (by kernel_rfl) ?_ ?_
              rotate_left
              · intro w' hv; have cx := (HBX3.out w' (HBK.out.trans (Below.mono hv HBK.out.size))).2.1; clear hv; go_simp; try with_reducible rfl
              try simp only [Act.put, List.setIfInBounds_toArray, List.set_cons_zero, List.set_cons_succ]
              refine org_pure (v := ?_) (by kernel_rfl) ?_ ?_
              rotate_left
              · intro w' hv; clear hv; go_simp; try with_reducible rfl
              try simp only [Act.put, List.setIfInBounds_toArray, List.set_cons_zero, List.set_cons_succ]
              refine org_pure (v := ?_) (by kernel_rfl) ?_ ?_
              rotate_left
              · intro w' hv; clear hv; go_simp; try with_reducible rfl
              try simp only [Act.put, List.setIfInBounds_toArray, List.set_cons_zero, List.set_cons_succ]
              refine org_pure (v := ?_) (by kernel_rfl) ?_ ?_
              rotate_left
              · intro w' hv; have cx := (HBX3.out w' (HBK.out.trans (Below.mono hv HBK.out.size))).2.2; clear hv; go_simp; try with_reducible rfl
              try simp only [Act.put, List.setIfInBounds_toArray, List.set_cons_zero, List.set_cons_succ]
              refine org_pure (v := ?_) (by kernel_rfl) ?_ ?_
              rotate_left
              · intro w' hv; clear hv; go_simp; try with_reducible rfl
              try simp only [Act.put, List.setIfInBounds_toArray, List.set_cons_zero, List.set_cons_succ]
              refine org_pure (v := ?_) (by kernel_rfl) ?_ ?_
              rotate_left
              · intro w' hv; clear hv; go_simp; try with_reducible rfl
              try simp only [Act.put, List.setIfInBounds_toArray, List.set_cons_zero, List.set_cons_succ]
              refine org_pure (v := ?_) (by kernel_rfl) ?_ ?_
              rotate_left
              · intro w' hv; clear hv; go_simp; try with_reducible rfl
              try simp only [Act.put, List.setIfInBounds_toArray, List.set_cons_zero, List.set_cons_succ]
              refine org_pure (v := ?_) (by kernel_rfl) ?_ ?_
              rotate_left
              · intro w' hv; clear hv; go_simp; try with_reducible rfl
              try simp only [Act.put, List.setIfInBounds_toArray, List.set_cons_zero, List.set_cons_succ]
              refine org_pure (v := ?_) (by kernel_rfl) ?_ ?_
              rotate_left
              · intro w' hv; clear hv; go_simp; try with_reducible rfl
              try simp only [Act.put, List.setIfInBounds_toArray, List.set_cons_zero, List.set_cons_succ]
              refine org_skip (by kernel_rfl) ?_
              try simp only [Act.put, List.setIfInBounds_toArray, List.set_cons_zero, List.set_cons_succ]
              refine org_skip (by kernel_rfl) ?_
              try simp only [Act.put, List.setIfInBounds_toArray, List.set_cons_zero, List.set_cons_succ]
              refine org_skip (by kernel_rfl) ?_
              try simp only [Act.put, List.setIfInBounds_toArray, List.set_cons_zero, List.set_cons_succ]
              refine org_skip (by kernel_rfl) ?_
              try simp only [Act.put, List.setIfInBounds_toArray, List.set_cons_zero, List.set_cons_succ]
              refine org_pure (v := ?_) (by kernel_rfl) ?_ ?_
              rotate_left
              · intro w' hv; clear hv; go_simp; try with_reducible rfl
              try simp only [Act.put, List.setIfInBounds_toArray, List.set_cons_zero, List.set_cons_succ]
              refine org_nil ?_
              go_wp2_with fail
              go_ret
              exact ⟨rfl, HB.out⟩
            · have n0 : ¬ (0 : Int) < (n : Int) := by omega
              have n1 : ¬ (2048 : Int) < (n : Int) := by omega
              have n2 : ¬ 2048 < n := by omega
              have HOKE2 : Hid (okE C (prevOf C i) e0 = upB C x.data.toList) := Lib.hid (by rw [HOKE.out, hpv, hg, decide_eq_false hn0, decide_eq_true (show n ≤ 2048 by omega)]; simp)
              refine wp_region_org [(0, true), (1, true), (2, false), (3, true), (4, true), (5, true), (6, true), (7, true), (8, true), (9, true), (10, true), (11, true), (12, true), (13, true), (14, true), (15, true), (16, false), (17, true), (18, true), (19, true), (20, true), (21, true), (22, true), (23, true), (24, true), (25, true), (26, true), (27, true), (28, true), (29, true), (30, true), (31, true), (32, true), (33, true), (34, true), (35, true)] (by kernel_rfl) (by kernel_rfl) (by kernel_rfl) ?_
              replace HB := Lib.hid HB.out.drew
              replace HBK := Lib.hid HBK.out.drew
              generalize wb.drew = wd at *
              simp only [pickOrs, List.getElem?_cons_zero, List.getElem?_cons_succ]
              refine org_pure (v := ?_) (by kernel_rfl) ?_ ?_
              rotate_left
              · intro w' hv; clear hv; go_simp; try with_reducible rfl
              try simp only [Act.put, List.setIfInBounds_toArray, List.set_cons_zero, List.set_cons_succ]
              refine org_pure (v := ?_) (by kernel_rfl) ?_ ?_
              rotate_left
              · intro w' hv; have cx := (HBX3.out w' (HBK.out.trans (Below.mono hv HBK.out.size))).1; clear hv; go_simp; try with_reducible rfl
              try simp only [Act.put, List.setIfInBounds_toArray, List.set_cons_zero, List.set_cons_succ]
              refine org_step (by kernel_rfl) (fun K hK => ?_)
              go_wp2_with fail
              refine (HG.out _).mono ?_
              rintro e wg ⟨rfl, hb⟩
              have HE2 := Lib.hid hb
              replace HB := Lib.hid (HB.out.trans (hb.mono HB.out.size))
              replace HBK := Lib.hid (HBK.out.trans (hb.mono HBK.out.size))
              clear hb
              refine hK _ _ ⟨HE2.out, ?_⟩
              clear hK HE2
              try simp only [Act.put, List.setIfInBounds_toArray, List.set_cons_zero, List.set_cons_succ]
              refine org_pure (v := ?_) (by kernel_rfl) ?_ ?_
              rotate_left
              · intro w' hv; clear hv; go_simp; try with_reducible rfl
              try simp only [Act.put, List.setIfInBounds_toArray, List.set_cons_zero, List.set_cons_succ]
              refine org_pure (v := ?_) (by kernel_rfl) ?_ ?_
              rotate_left
              · intro w' hv; clear hv; go_simp; try with_reducible rfl
              try simp only [Act.put, List.setIfInBounds_toArray, List.set_cons_zero, List.set_cons_succ]
              refine org_pure (v := ?_) (by kernel_rfl) ?_ ?_
              rotate_left
              · intro w' hv; clear hv; go_simp; try with_reducible rfl
              try simp only [Act.put, List.setIfInBounds_toArray, List.set_cons_zero, List.set_cons_succ]
              refine org_pure (v := ?_) (by kernel_rfl) ?_ ?_
              rotate_left
              · intro w' hv; clear hv; go_simp; try with_reducible rfl
              try simp only [Act.put, List.setIfInBounds_toArray, List.set_cons_zero, List.set_cons_succ]
              refine org_pure (v := ?_) (by kernel_rfl) ?_ ?_
              rotate_left
              · intro w' hv; clear hv; go_simp; try with_reducible rfl
              try simp only [Act.put, List.setIfInBounds_toArray, List.set_cons_zero, List.set_cons_succ]
              refine org_skip (by kernel_rfl) ?_
              try simp only [Act.put, List.setIfInBounds_toArray, List.set_cons_zero, List.set_cons_succ]
              refine org_skip (by kernel_rfl) ?_
              try simp only [Act.put, List.setIfInBounds_toArray, List.set_cons_zero, List.set_cons_succ]
              refine org_skip (by kernel_rfl) ?_
              try simp only [Act.put, List.setIfInBounds_toArray, List.set_cons_zero, List.set_cons_succ]
              refine org_skip (by kernel_rfl) ?_
              try simp only [Act.put, List.setIfInBounds_toArray, List.set_cons_zero, List.set_cons_succ]
              refine org_skip (by kernel_rfl) ?_
              try simp only [Act.put, List.setIfInBounds_toArray, List.set_cons_zero, List.set_cons_succ]
              refine org_skip (by kernel_rfl) ?_
              try simp only [Act.put, List.setIfInBounds_toArray, List.set_cons_zero, List.set_cons_succ]
              refine org_skip (by kernel_rfl) ?_
              try simp only [Act.put, List.setIfInBounds_toArray, List.set_cons_zero, List.set_cons_succ]
              refine org_skip (by kernel_rfl) ?_
              try simp only [Act.put, List.setIfInBounds_toArray, List.set_cons_zero, List.set_cons_succ]
              refine org_pass (by kernel_rfl) ?_
              try simp only [Act.put, List.setIfInBounds_toArray, List.set_cons_zero, List.set_cons_succ]
              refine org_skip (by kernel_rfl) ?_
              try simp only [Act.put, List.setIfInBounds_toArray, List.set_cons_zero, List.set_cons_succ]
              refine org_pure (v := ?_) (by kernel_rfl) ?_ ?_
              rotate_left
              · intro w' hv; clear hv; go_simp; try with_reducible rfl
              try simp only [Act.put, List.setIfInBounds_toArray, List.set_cons_zero, List.set_cons_succ]
              refine org_pure (v := ?_) (by kernel_rfl) ?_ ?_
              rotate_left
              · intro w' hv; clear hv; go_simp; try with_reducible rfl
              try simp only [Act.put, List.setIfInBounds_toArray, List.set_cons_zero, List.set_cons_succ]
              refine org_pure (v := ?_) (by kernel_rfl) ?_ ?_
              rotate_left
              · intro w' hv; clear hv; go_simp; try with_reducible rfl
              try simp only [Act.put, List.setIfInBounds_toArray, List.set_cons_zero, List.set_cons_succ]
              refine org_pure (v := ?_) (by kernel_rfl) ?_ ?_
              rotate_left
              · intro w' hv; clear hv; go_simp; try with_reducible rfl
              try simp only [Act.put, List.setIfInBounds_toArray, List.set_cons_zero, List.set_cons_succ]
              refine org_pure (v := ?_) (by kernel_rfl) ?_ ?_
              rotate_left
              · intro w' hv; have cx := (HBX3.out w' (HBK.out.trans (Below.mono hv HBK.out.size))).2.1; clear hv; go_simp; try with_reducible rfl
              try simp only [Act.put, List.setIfInBounds_toArray, List.set_cons_zero, List.set_cons_succ]
              refine org_pure (v := ?_) (by kernel_rfl) ?_ ?_
              rotate_left
              · intro w' hv; clear hv; go_simp; try with_reducible rfl
              try simp only [Act.put, List.setIfInBounds_toArray, List.set_cons_zero, List.set_cons_succ]
              refine org_pure (v := ?_) (by kernel_rfl) ?_ ?_
              rotate_left
              · intro w' hv; clear hv; go_simp; try with_reducible rfl
              try simp only [Act.put, List.setIfInBounds_toArray, List.set_cons_zero, List.set_cons_succ]
              refine org_pure (v := ?_) (by kernel_rfl) ?_ ?_
              rotate_left
              · intro w' hv; have cx := (HBX3.out w' (HBK.out.trans (Below.mono hv HBK.out.size))).2.2; clear hv; go_simp; try with_reducible rfl
              try simp only [Act.put, List.setIfInBounds_toArray, List.set_cons_zero, List.set_cons_succ]
              refine org_pure (v := ?_) (by kernel_rfl) ?_ ?_
              rotate_left
              · intro w' hv; clear hv; go_simp; try with_reducible rfl
              try simp only [Act.put, List.setIfInBounds_toArray, List.set_cons_zero, List.set_cons_succ]
              refine org_pure (v := ?_) (by kernel_rfl) ?_ ?_
              rotate_left
              · intro w' hv; clear hv; go_simp; try with_reducible rfl
              try simp only [Act.put, List.setIfInBounds_toArray, List.set_cons_zero, List.set_cons_succ]
              refine org_pure (v := ?_) (by kernel_rfl) ?_ ?_
              rotate_left
              · intro w' hv; clear hv; go_simp; try with_reducible rfl
              try simp only [Act.put, List.setIfInBounds_toArray, List.set_cons_zero, List.set_cons_succ]
              refine org_pure (v := ?_) (by kernel_rfl) ?_ ?_
              rotate_left
              · intro w' hv; clear hv; go_simp; try with_reducible rfl
              try simp only [Act.put, List.setIfInBounds_toArray, List.set_cons_zero, List.set_cons_succ]
              refine org_pure (v := ?_) (by kernel_rfl) ?_ ?_
              rotate_left
              · intro w' hv; clear hv; go_simp; try with_reducible rfl
              try simp only [Act.put, List.setIfInBounds_toArray, List.set_cons_zero, List.set_cons_succ]
              refine org_pure (v := ?_) (by kernel_rfl) ?_ ?_
              rotate_left
              · intro w' hv; clear hv; go_simp; try with_reducible rfl
              try simp only [Act.put, List.setIfInBounds_toArray, List.set_cons_zero, List.set_cons_succ]
              refine org_pure (v := ?_) (by kernel_rfl) ?_ ?_
              rotate_left
              · intro w' hv; have cx := (HBX3.out w' (HBK.out.trans (Below.mono hv HBK.out.size))).2.2; clear hv; go_simp; try with_reducible rfl
              try simp only [Act.put, List.setIfInBounds_toArray, List.set_cons_zero, List.set_cons_succ]
              refine org_pure (v := ?_) (by kernel_rfl) ?_ ?_
              rotate_left
              · intro w' hv; clear hv; go_simp; try with_reducible rfl
              try simp only [Act.put, List.setIfInBounds_toArray, List.set_cons_zero, List.set_cons_succ]
              refine org_pure (v := ?_) (by kernel_rfl) ?_ ?_
              rotate_left
              · intro w' hv; clear hv; go_simp; try with_reducible rfl
              try simp only [Act.put, List.setIfInBounds_toArray, List.set_cons_zero, List.set_cons_succ]
              refine org_pure (v := ?_) (by kernel_rfl) ?_ ?_
              rotate_left
              · intro w' hv; clear hv; go_simp; try with_reducible rfl
              try simp only [Act.put, List.setIfInBounds_toArray, List.set_cons_zero, List.set_cons_succ]
              refine org_nil ?_
              obtain ⟨e1, e2, e3⟩ := HBX3.out wg HBK.out
              go_wp2_with fail
              refine (HU.out _).mono ?_
              rintro e wu ⟨rfl, hb⟩
              replace HB := Lib.hid (HB.out.trans (hb.mono HB.out.size))
              replace HBK := Lib.hid (HBK.out.trans (hb.mono HBK.out.size))
              clear hb e1 e2 e3
              go_wp2_with fail
              refine (HAT.out _ ((HS.out.keep HB.out).more HB.out.size)).mono ?_
              rintro e wa ⟨rfl, rfl⟩
              by_cases hU : U.data = #[]
              · have HNX := Lib.hid (HNEXT.out (by rw [HOKE2.out, HUB1.out hU]))
                have k1 := no_text hU
                have k2 : (U.toList == []) = true := by rw [k1]; rfl
                have k3 : (U.toList != []) = false := by rw [k1]; rfl
                have k4 : U.toList.isEmpty = true := by rw [k1]; rfl
                clear hU
                go_wp2_with fail
                go_roundw
                case rel => exact ⟨i + 1, by omega, by go_num, HNX.out, HB.out⟩
                case measure => simp [intOf]; omega
              · have k1 := some_text hU
                have k2 : (U.toList == []) = false := by rw [beq_eq_false_iff_ne]; intro e; rw [e] at k1; cases k1
                have k3 : (U.toList != []) = true := by simp [bne, k2]
                by_cases h0 : Kat < 0
                · have hv : V = false := HBAD.out (by rw [HOKE2.out, HUB2.out hU h0])
                  subst hv
                  clear hU
                  go_wp2_with fail
                  go_ret
                  exact ⟨rfl, HB.out⟩
                · obtain ⟨k, hkk⟩ : ∃ k : Nat, Kat = (k : Int) := ⟨Kat.toNat, by omega⟩
                  have hk : k < C.length := by omega
                  obtain ⟨a2, ha2, _, hc2⟩ := HS.out.ent hk
                  cases ha2
                  have hd : dirT C k = C[k].2.1 := by unfold dirT; rw [List.getElem?_eq_getElem hk]; rfl
                  have hub := HUB3.out hU k hkk
                  rw [hd] at hub
                  have HCK : Hid (∀ w', Below w.heap.size w w' → w'.cell? ⟨(a.add (k * 3)).block, (a.add (k * 3)).off + 1, none⟩ = some (.bool C[k].2.1)) := Lib.hid (fun w' hb => (hc2 w' hb).2.1)
                  have kk2 : ((k : Int) < 0) = False := by simp
                  have kl2 : (k : Int) < (C.length : Int) := by omega
                  clear hc2 hd hU h0
                  subst hkk
                  generalize C[k].2.1 = d2 at *
                  cases d2 with
                  | true =>
                    have HNX := Lib.hid (HNEXT.out (by rw [HOKE2.out, hub]))
                    clear hub
                    have c5 := HCK.out wu HB.out
                    go_wp2_with fail
                    go_roundw
                    case rel => exact ⟨i + 1, by omega, by go_num, HNX.out, HB.out⟩
                    case measure => simp [intOf]; omega
                  | false =>
                    have hv : V = false := HBAD.out (by rw [HOKE2.out, hub])
                    subst hv
                    clear hub
                    have c5 := HCK.out wu HB.out
                    go_wp2_with fail
                    go_ret
                    exact ⟨rfl, HB.out⟩
          | false =>
            by_cases hn1 : 2048 < n
            · have n0 : (2048 : Int) < (n : Int) := by omega
              have hv : V = false := HBAD.out (by rw [HOKE.out, hpv, hg, decide_eq_false (show ¬ n ≤ 2048 by omega)]; simp)
              subst hv
              refine wp_region_org [(0, true), (1, true), (2, false), (3, true), (4, true), (5, true), (6, true), (7, true), (8, true), (9, true), (10, true), (11, true), (12, true), (13, true), (14, true), (15, true), (16, false), (17, true), (18, true), (19, true), (20, true), (21, true), (22, true), (23, true), (24, true), (25, true), (26, true), (27, true), (28, true), (29, true), (30, true), (31, true), (32, true), (33, true), (34, true), (35, true)] (by kernel_rfl) (by kernel_rfl) (by kernel_rfl) ?_
              replace HB := Lib.hid HB.out.drew
              replace HBK := Lib.hid HBK.out.drew
              generalize wb.drew = wd at *
              simp only [pickOrs, List.getElem?_cons_zero, List.getElem?_cons_succ]
              refine org_pure (v := ?_) (by kernel_rfl) ?_ ?_
              rotate_left
              · intro w' hv; clear hv; go_simp; try with_reducible rfl
              try simp only [Act.put, List.setIfInBounds_toArray, List.set_cons_zero, List.set_cons_succ]
              refine org_pure (v := ?_) (by kernel_rfl) ?_ ?_
              rotate_left
              · intro w' hv; have cx := (HBX3.out w' (HBK.out.trans (Below.mono hv HBK.out.size))).1; clear hv; go_simp; try with_reducible rfl
              try simp only [Act.put, List.setIfInBounds_toArray, List.set_cons_zero, List.set_cons_succ]
              refine org_step (by kernel_rfl) (fun K hK => ?_)
              go_wp2_with fail
              refine (HG.out _).mono ?_
              rintro e wg ⟨rfl, hb⟩
              have HE2 := Lib.hid hb
              replace HB := Lib.hid (HB.out.trans (hb.mono HB.out.size))
              replace HBK := Lib.hid (HBK.out.trans (hb.mono HBK.out.size))
              clear hb
              refine hK _ _ ⟨HE2.out, ?_⟩
              clear hK HE2
              try simp only [Act.put, List.setIfInBounds_toArray, List.set_cons_zero, List.set_cons_succ]
              refine org_pure (v := ?_) (by kernel_rfl) ?_ ?_
              rotate_left
              · intro w' hv; clear hv; go_simp; try with_reducible rfl
              try simp only [Act.put, List.setIfInBounds_toArray, List.set_cons_zero, List.set_cons_succ]
              refine org_pure (v := ?_) (by kernel_rfl) ?_ ?_
              rotate_left
              · intro w' hv; clear hv; go_simp; try with_reducible rfl
              try simp only [Act.put, List.setIfInBounds_toArray, List.set_cons_zero, List.set_cons_succ]
              refine org_pure (v := ?_) (by kernel_rfl) ?_ ?_
              rotate_left
              · intro w' hv; clear hv; go_simp; try with_reducible rfl
              try simp only [Act.put, List.setIfInBounds_toArray, List.set_cons_zero, List.set_cons_succ]
              refine org_pure (v := ?_) (by kernel_rfl) ?_ ?_
              rotate_left
              · intro w' hv; clear hv; go_simp; try with_reducible rfl
              try simp only [Act.put, List.setIfInBounds_toArray, List.set_cons_zero, List.set_cons_succ]
              refine org_pure (v := ?_) (by kernel_rfl) ?_ ?_
              rotate_left
              · intro w' hv; clear hv; go_simp; try with_reducible rfl
              try simp only [Act.put, List.setIfInBounds_toArray, List.set_cons_zero, List.set_cons_succ]
              refine org_skip (by kernel_rfl) ?_
              try simp only [Act.put, List.setIfInBounds_toArray, List.set_cons_zero, List.set_cons_succ]
              refine org_skip (by kernel_rfl) ?_
              try simp only [Act.put, List.setIfInBounds_toArray, List.set_cons_zero, List.set_cons_succ]
              refine org_skip (by kernel_rfl) ?_
              try simp only [Act.put, List.setIfInBounds_toArray, List.set_cons_zero, List.set_cons_succ]
              refine org_skip (by kernel_rfl) ?_
              try simp only [Act.put, List.setIfInBounds_toArray, List.set_cons_zero, List.set_cons_succ]
              refine org_skip (by kernel_rfl) ?_
              try simp only [Act.put, List.setIfInBounds_toArray, List.set_cons_zero, List.set_cons_succ]
              refine org_skip (by kernel_rfl) ?_
              try simp only [Act.put, List.setIfInBounds_toArray, List.set_cons_zero, List.set_cons_succ]
              refine org_skip (by kernel_rfl) ?_
              try simp only [Act.put, List.setIfInBounds_toArray, List.set_cons_zero, List.set_cons_succ]
              refine org_skip (by kernel_rfl) ?_
              try simp only [Act.put, List.setIfInBounds_toArray, List.set_cons_zero, List.set_cons_succ]
              refine org_pass (by kernel_rfl) ?_
              try simp only [Act.put, List.setIfInBounds_toArray, List.set_cons_zero, List.set_cons_succ]
              refine org_skip (by kernel_rfl) ?_
              try simp only [Act.put, List.setIfInBounds_toArray, List.set_cons_zero, List.set_cons_succ]
              refine org_pure (v := ?_) (by kernel_rfl) ?_ ?_
              rotate_left
              · intro w' hv; clear hv; go_simp; try with_reducible rfl
              try simp only [Act.put, List.setIfInBounds_toArray, List.set_cons_zero, List.set_cons_succ]
              refine org_pure (v := ?_) (by kernel_rfl) ?_ ?_
              rotate_left
              · intro w' hv; clear hv; go_simp; try with_reducible rfl
              try simp only [Act.put, List.setIfInBounds_toArray, List.set_cons_zero, List.set_cons_succ]
              refine org_pure (v := ?_) (by kernel_rfl) ?_ ?_
              rotate_left
              · intro w' hv; clear hv; go_simp; try with_reducible rfl
              try simp only [Act.put, List.setIfInBounds_toArray, List.set_cons_zero, List.set_cons_succ]
              refine org_pure (v := ?_) (by kernel_rfl) ?_ ?_
              rotate_left
              · intro w' hv; clear hv; go_simp; try with_reducible rfl
              try simp only [Act.put, List.setIfInBounds_toArray, List.set_cons_zero, List.set_cons_succ]
              refine org_pure (v := ?_) (by kernel_rfl) ?_ ?_
              rotate_left
              · intro w' hv; have cx := (HBX3.out w' (HBK.out.trans (Below.mono hv HBK.out.size))).2.1; clear hv; go_simp; try with_reducible rfl
              try simp only [Act.put, List.setIfInBounds_toArray, List.set_cons_zero, List.set_cons_succ]
              refine org_pure (v := ?_) (by kernel_rfl) ?_ ?_
              rotate_left
              · intro w' hv; clear hv; go_simp; try with_reducible rfl
              try simp only [Act.put, List.setIfInBounds_toArray, List.set_cons_zero, List.set_cons_succ]
              refine org_skip (by kernel_rfl) ?_
              try simp only [Act.put, List.setIfInBounds_toArray, List.set_cons_zero, List.set_cons_succ]
              refine org_skip (by kernel_rfl) ?_
              try simp only [Act.put, List.setIfInBounds_toArray, List.set_cons_zero, List.set_cons_succ]
              refine org_skip (by kernel_rfl) ?_
              try simp only [Act.put, List.setIfInBounds_toArray, List.set_cons_zero, List.set_cons_succ]
              refine org_skip (by kernel_rfl) ?_
              try simp only [Act.put, List.setIfInBounds_toArray, List.set_cons_zero, List.set_cons_succ]
              refine org_pure (v := ?_) (by kernel_rfl) ?_ ?_
              rotate_left
              · intro w' hv; clear hv; go_simp; try with_reducible rfl
              try simp only [Act.put, List.setIfInBounds_toArray, List.set_cons_zero, List.set_cons_succ]
              refine org_pure (v := ?_) (by kernel_rfl) ?_ ?_
              rotate_left
              · intro w' hv; clear hv; go_simp; try with_reducible rfl
              try simp only [Act.put, List.setIfInBounds_toArray, List.set_cons_zero, List.set_cons_succ]
              refine org_pure (v := ?_) (by kernel_rfl) ?_ ?_
              rotate_left
              · intro w' hv; clear hv; go_simp; try with_reducible rfl
              try simp only [Act.put, List.setIfInBounds_toArray, List.set_cons_zero, List.set_cons_succ]
              refine org_pure (v := ?_) (by kernel_rfl) ?_ ?_
              rotate_left
              · intro w' hv; clear hv; go_simp; try with_reducible rfl
              try simp only [Act.put, List.setIfInBounds_toArray, List.set_cons_zero, List.set_cons_succ]
              refine org_pure (v := ?_) (by kernel_rfl) ?_ ?_
              rotate_left
              · intro w' hv; have cx := (HBX3.out w' (HBK.out.trans (Below.mono hv HBK.out.size))).2.2; clear hv; go_simp; try with_reducible rfl
              try simp only [Act.put, List.setIfInBounds_toArray, List.set_cons_zero, List.set_cons_succ]
              refine org_pure (v := ?_) (by kernel_rfl) ?_ ?_
              rotate_left
              · intro w' hv; clear hv; go_simp; try with_reducible rfl
              try simp only [Act.put, List.setIfInBounds_toArray, List.set_cons_zero, List.set_cons_succ]
              refine org_pure (v := ?_) (by kernel_rfl) ?_ ?_
              rotate_left
              · intro w' hv; clear hv; go_simp; try with_reducible rfl
              try simp only [Act.put, List.setIfInBounds_toArray, List.set_cons_zero, List.set_cons_succ]
              refine org_pure (v := ?_) (by kernel_rfl) ?_ ?_
              rotate_left
              · intro w' hv; clear hv; go_simp; try with_reducible rfl
              try simp only [Act.put, List.setIfInBounds_toArray, List.set_cons_zero, List.set_cons_succ]
              refine org_nil ?_
              go_wp2_with fail
              go_ret
              exact ⟨rfl, HB.out⟩
            · have n0 : ¬ (2048 : Int) < (n : Int) := by omega
              have HOKE2 : Hid (okE C (prevOf C i) e0 = upB C x.data.toList) := Lib.hid (by rw [HOKE.out, hpv, hg, decide_eq_true (show n ≤ 2048 by omega)]; simp)
              refine wp_region_org [(0, true), (1, true), (2, false), (3, true), (4, true), (5, true), (6, true), (7, true), (8, true), (9, true), (10, true), (11, true), (12, true), (13, true), (14, true), (15, true), (16, false), (17, true), (18, true), (19, true), (20, true), (21, true), (22, true), (23, true), (24, true), (25, true), (26, true), (27, true), (28, true), (29, true), (30, true), (31, true), (32, true), (33, true), (34, true), (35, true)] (by kernel_rfl) (by kernel_rfl) (by kernel_rfl) ?_
              replace HB := Lib.hid HB.out.drew
              replace HBK := Lib.hid HBK.out.drew
              generalize wb.drew = wd at *
              simp only [pickOrs, List.getElem?_cons_zero, List.getElem?_cons_succ]
              refine org_pure (v := ?_) (by kernel_rfl) ?_ ?_
              rotate_left
              · intro w' hv; clear hv; go_simp; try with_reducible rfl
              try simp only [Act.put, List.setIfInBounds_toArray, List.set_cons_zero, List.set_cons_succ]
              refine org_pure (v := ?_) (by kernel_rfl) ?_ ?_
              rotate_left
              · intro w' hv; have cx := (HBX3.out w' (HBK.out.trans (Below.mono hv HBK.out.size))).1; clear hv; go_simp; try with_reducible rfl
              try simp only [Act.put, List.setIfInBounds_toArray, List.set_cons_zero, List.set_cons_succ]
              refine org_step (by kernel_rfl) (fun K hK => ?_)
              go_wp2_with fail
              refine (HG.out _).mono ?_
              rintro e wg ⟨rfl, hb⟩
              have HE2 := Lib.hid hb
              replace HB := Lib.hid (HB.out.trans (hb.mono HB.out.size))
              replace HBK := Lib.hid (HBK.out.trans (hb.mono HBK.out.size))
              clear hb
              refine hK _ _ ⟨HE2.out, ?_⟩
              clear hK HE2
              try simp only [Act.put, List.setIfInBounds_toArray, List.set_cons_zero, List.set_cons_succ]
              refine org_pure (v := ?_) (by kernel_rfl) ?_ ?_
              rotate_left
              · intro w' hv; clear hv; go_simp; try with_reducible rfl
              try simp only [Act.put, List.setIfInBounds_toArray, List.set_cons_zero, List.set_cons_succ]
              refine org_pure (v := ?_) (by kernel_rfl) ?_ ?_
              rotate_left
              · intro w' hv; clear hv; go_simp; try with_reducible rfl
              try simp only [Act.put, List.setIfInBounds_toArray, List.set_cons_zero, List.set_cons_succ]
              refine org_pure (v := ?_) (by kernel_rfl) ?_ ?_
              rotate_left
              · intro w' hv; clear hv; go_simp; try with_reducible rfl
              try simp only [Act.put, List.setIfInBounds_toArray, List.set_cons_zero, List.set_cons_succ]
              refine org_pure (v := ?_) (by kernel_rfl) ?_ ?_
              rotate_left
              · intro w' hv; clear hv; go_simp; try with_reducible rfl
              try simp only [Act.put, List.setIfInBounds_toArray, List.set_cons_zero, List.set_cons_succ]
              refine org_pure (v := ?_) (by kernel_rfl) ?_ ?_
              rotate_left
              · intro w' hv; clear hv; go_simp; try with_reducible rfl
              try simp only [Act.put, List.setIfInBounds_toArray, List.set_cons_zero, List.set_cons_succ]
              refine org_skip (by kernel_rfl) ?_
              try simp only [Act.put, List.setIfInBounds_toArray, List.set_cons_zero, List.set_cons_succ]
              refine org_skip (by kernel_rfl) ?_
              try simp only [Act.put, List.setIfInBounds_toArray, List.set_cons_zero, List.set_cons_succ]
              refine org_skip (by kernel_rfl) ?_
              try simp only [Act.put, List.setIfInBounds_toArray, List.set_cons_zero, List.set_cons_succ]
              refine org_skip (by kernel_rfl) ?_
              try simp only [Act.put, List.setIfInBounds_toArray, List.set_cons_zero, List.set_cons_succ]
              refine org_skip (by kernel_rfl) ?_
              try simp only [Act.put, List.setIfInBounds_toArray, List.set_cons_zero, List.set_cons_succ]
              refine org_skip (by kernel_rfl) ?_
              try simp only [Act.put, List.setIfInBounds_toArray, List.set_cons_zero, List.set_cons_succ]
              refine org_skip (by kernel_rfl) ?_
              try simp only [Act.put, List.setIfInBounds_toArray, List.set_cons_zero, List.set_cons_succ]
              refine org_skip (by kernel_rfl) ?_
              try simp only [Act.put, List.setIfInBounds_toArray, List.set_cons_zero, List.set_cons_succ]
              refine org_pass (by kernel_rfl) ?_
              try simp only [Act.put, List.setIfInBounds_toArray, List.set_cons_zero, List.set_cons_succ]
              refine org_skip (by kernel_rfl) ?_
              try simp only [Act.put, List.setIfInBounds_toArray, List.set_cons_zero, List.set_cons_succ]
              refine org_pure (v := ?_) (by kernel_rfl) ?_ ?_
              rotate_left
              · intro w' hv; clear hv; go_simp; try with_reducible rfl
              try simp only [Act.put, List.setIfInBounds_toArray, List.set_cons_zero, List.set_cons_succ]
              refine org_pure (v := ?_) (by kernel_rfl) ?_ ?_
              rotate_left
              · intro w' hv; clear hv; go_simp; try with_reducible rfl
              try simp only [Act.put, List.setIfInBounds_toArray, List.set_cons_zero, List.set_cons_succ]
              refine org_pure (v := ?_) (by kernel_rfl) ?_ ?_
              rotate_left
              · intro w' hv; clear hv; go_simp; try with_reducible rfl
              try simp only [Act.put, List.setIfInBounds_toArray, List.set_cons_zero, List.set_cons_succ]
              refine org_pure (v := ?_) (by kernel_rfl) ?_ ?_
              rotate_left
              · intro w' hv; clear hv; go_simp; try with_reducible rfl
              try simp only [Act.put, List.setIfInBounds_toArray, List.set_cons_zero, List.set_cons_succ]
              refine org_pure (v := ?_) (by kernel_rfl) ?_ ?_
              rotate_left
              · intro w' hv; have cx := (HBX3.out w' (HBK.out.trans (Below.mono hv HBK.out.size))).2.1; clear hv; go_simp; try with_reducible rfl
              try simp only [Act.put, List.setIfInBounds_toArray, List.set_cons_zero, List.set_cons_succ]
              refine org_pure (v := ?_) (by kernel_rfl) ?_ ?_
              rotate_left
              · intro w' hv; clear hv; go_simp; try with_reducible rfl
              try simp only [Act.put, List.setIfInBounds_toArray, List.set_cons_zero, List.set_cons_succ]
              refine org_skip (by kernel_rfl) ?_
              try simp only [Act.put, List.setIfInBounds_toArray, List.set_cons_zero, List.set_cons_succ]
              refine org_skip (by kernel_rfl) ?_
              try simp only [Act.put, List.setIfInBounds_toArray, List.set_cons_zero, List.set_cons_succ]
              refine org_skip (by kernel_rfl) ?_
              try simp only [Act.put, List.setIfInBounds_toArray, List.set_cons_zero, List.set_cons_succ]
              refine org_skip (by kernel_rfl) ?_
              try simp only [Act.put, List.setIfInBounds_toArray, List.set_cons_zero, List.set_cons_succ]
              refine org_pure (v := ?_) (by kernel_rfl) ?_ ?_
              rotate_left
              · intro w' hv; clear hv; go_simp; try with_reducible rfl
              try simp only [Act.put, List.setIfInBounds_toArray, List.set_cons_zero, List.set_cons_succ]
              refine org_pure (v := ?_) (by kernel_rfl) ?_ ?_
              rotate_left
              · intro w' hv; clear hv; go_simp; try with_reducible rfl
              try simp only [Act.put, List.setIfInBounds_toArray, List.set_cons_zero, List.set_cons_succ]
              refine org_pure (v := ?_) (by kernel_rfl) ?_ ?_
              rotate_left
              · intro w' hv; clear hv; go_simp; try with_reducible rfl
              try simp only [Act.put, List.setIfInBounds_toArray, List.set_cons_zero, List.set_cons_succ]
              refine org_pure (v := ?_) (by kernel_rfl) ?_ ?_
              rotate_left
              · intro w' hv; clear hv; go_simp; try with_reducible rfl
              try simp only [Act.put, List.setIfInBounds_toArray, List.set_cons_zero, List.set_cons_succ]
              refine org_pure (v := ?_) (by kernel_rfl) ?_ ?_
              rotate_left
              · intro w' hv; have cx := (HBX3.out w' (HBK.out.trans (Below.mono hv HBK.out.size))).2.2; clear hv; go_simp; try with_reducible rfl
              try simp only [Act.put, List.setIfInBounds_toArray, List.set_cons_zero, List.set_cons_succ]
              refine org_pure (v := ?_) (by kernel_rfl) ?_ ?_
              rotate_left
              · intro w' hv; clear hv; go_simp; try with_reducible rfl
              try simp only [Act.put, List.setIfInBounds_toArray, List.set_cons_zero, List.set_cons_succ]
              refine org_pure (v := ?_) (by kernel_rfl) ?_ ?_
              rotate_left
              · intro w' hv; clear hv; go_simp; try with_reducible rfl
              try simp only [Act.put, List.setIfInBounds_toArray, List.set_cons_zero, List.set_cons_succ]
              refine org_pure (v := ?_) (by kernel_rfl) ?_ ?_
              rotate_left
              · intro w' hv; clear hv; go_simp; try with_reducible rfl
              try simp only [Act.put, List.setIfInBounds_toArray, List.set_cons_zero, List.set_cons_succ]
              refine org_nil ?_
              obtain ⟨e1, e2, e3⟩ := HBX3.out wg HBK.out
              go_wp2_with fail
              refine (HU.out _).mono ?_
              rintro e wu ⟨rfl, hb⟩
              replace HB := Lib.hid (HB.out.trans (hb.mono HB.out.size))
              replace HBK := Lib.hid (HBK.out.trans (hb.mono HBK.out.size))
              clear hb e1 e2 e3
              go_wp2_with fail
              refine (HAT.out _ ((HS.out.keep HB.out).more HB.out.size)).mono ?_
              rintro e wa ⟨rfl, rfl⟩
              by_cases hU : U.data = #[]
              · have HNX := Lib.hid (HNEXT.out (by rw [HOKE2.out, HUB1.out hU]))
                have k1 := no_text hU
                have k2 : (U.toList == []) = true := by rw [k1]; rfl
                have k3 : (U.toList != []) = false := by rw [k1]; rfl
                have k4 : U.toList.isEmpty = true := by rw [k1]; rfl
                clear hU
                go_wp2_with fail
                go_roundw
                case rel => exact ⟨i + 1, by omega, by go_num, HNX.out, HB.out⟩
                case measure => simp [intOf]; omega
              · have k1 := some_text hU
                have k2 : (U.toList == []) = false := by rw [beq_eq_false_iff_ne]; intro e; rw [e] at k1; cases k1
                have k3 : (U.toList != []) = true := by simp [bne, k2]
                by_cases h0 : Kat < 0
                · have hv : V = false := HBAD.out (by rw [HOKE2.out, HUB2.out hU h0])
                  subst hv
                  clear hU
                  go_wp2_with fail
                  go_ret
                  exact ⟨rfl, HB.out⟩
                · obtain ⟨k, hkk⟩ : ∃ k : Nat, Kat = (k : Int) := ⟨Kat.toNat, by omega⟩
                  have hk : k < C.length := by omega
                  obtain ⟨a2, ha2, _, hc2⟩ := HS.out.ent hk
                  cases ha2
                  have hd : dirT C k = C[k].2.1 := by unfold dirT; rw [List.getElem?_eq_getElem hk]; rfl
                  have hub := HUB3.out hU k hkk
                  rw [hd] at hub
                  have HCK : Hid (∀ w', Below w.heap.size w w' → w'.cell? ⟨(a.add (k * 3)).block, (a.add (k * 3)).off + 1, none⟩ = some (.bool C[k].2.1)) := Lib.hid (fun w' hb => (hc2 w' hb).2.1)
                  have kk2 : ((k : Int) < 0) = False := by simp
                  have kl2 : (k : Int) < (C.length : Int) := by omega
                  clear hc2 hd hU h0
                  subst hkk
                  generalize C[k].2.1 = d2 at *
                  cases d2 with
                  | true =>
                    have HNX := Lib.hid (HNEXT.out (by rw [HOKE2.out, hub]))
                    clear hub
                    have c5 := HCK.out wu HB.out
                    go_wp2_with fail
                    go_roundw
                    case rel => exact ⟨i + 1, by omega, by go_num, HNX.out, HB.out⟩
                    case measure => simp [intOf]; omega
                  | false =>
                    have hv : V = false := HBAD.out (by rw [HOKE2.out, hub])
                    subst hv
                    clear hub
                    have c5 := HCK.out wu HB.out
                    go_wp2_with fail
                    go_ret
                    exact ⟨rfl, HB.out⟩
    · have hil : i = C.length := by omega
      subst hil
      have k0 : ¬ (C.length : Int) < (C.length : Int) := by omega
      have hgr : goodR C C none = true := by rw [← HEQ.out, List.drop_length]; rfl
      have hv : V = (decide (C.length ≤ 40) && decide (bytesT C ≤ 16384)) := by rw [← HV.out]; unfold goodT; rw [hgr]; rfl
      have HBY := Lib.hid (fun w1 h1 h2 => rbytes_any C q c (by omega) hb w1 h1 h2)
      clear hlt HEQ hgr
      by_cases hl : C.length ≤ 40
      · rw [decide_eq_true hl] at hv
        have kl : (C.length : Int) ≤ 40 := by omega
        go_wp2_with fail
        refine (HBY.out _ ((HS.out.keep HB.out).more HB.out.size) (HE.out.keep HB.out)).mono ?_
        rintro e wz ⟨rfl, rfl⟩
        generalize bytesT C = s at *
        by_cases hs : s ≤ 16384
        · have hv2 : V = true := by rw [hv, decide_eq_true hs]; rfl
          have ks : (s : Int) ≤ 16384 := by omega
          subst hv2
          clear hv
          go_wp2_with fail
          go_ret
          exact ⟨rfl, HB.out⟩
        · have hv2 : V = false := by rw [hv, decide_eq_false hs]; rfl
          have KS : Hid (¬ (s : Int) ≤ 16384) := Lib.hid (by omega)
          subst hv2
          clear hv hs
          go_wp2_with fail
          go_ret
          exact ⟨by show Ending.returned (Value.bool (decide ((s : Int) ≤ 16384))) = _; rw [decide_eq_false (by have := KS.out; omega)], HB.out⟩
      · have hv2 : V = false := by rw [hv, decide_eq_false hl]; rfl
        have kl : ¬ (C.length : Int) ≤ 40 := by omega
        subst hv2
        clear hv
        go_wp2_with fail
        go_ret
        exact ⟨rfl, HB.out⟩
end Go.Proofs.YtefamkckoikeoaaDoor
/- Contract: the document's own Make. Conditions: at most 50000 entries, paths of at most 2^20 bytes, all bytes together at most 2^61. -/
namespace Go.Proofs.YtefamkckoikeoaaDoor
open Go.RowKit
theorem withT_mem : ∀ (C : List Ent) (e : Ent) (dn : Bool), ∀ y ∈ withT C e dn, y = e ∨ y ∈ C
  | [], e, dn, y, h => by cases dn <;> simp [withT] at h; exact .inl h
  | x :: C, e, dn, y, h => by
    rw [withT, List.mem_append, List.mem_append] at h
    rcases h with h | h | h
    · split at h
      · exact .inl (by simpa using h)
      · cases h
    · split at h
      · cases h
      · exact .inr (by rw [List.mem_singleton.1 h]; exact List.mem_cons_self ..)
    · rcases withT_mem C e _ y h with h | h
      · exact .inl h
      · exact .inr (List.mem_cons_of_mem _ h)
theorem withT_len : ∀ (C : List Ent) (e : Ent) (dn : Bool), (withT C e dn).length ≤ C.length + (if dn then 0 else 1)
  | [], e, dn => by cases dn <;> simp [withT]
  | x :: C, e, dn => by
    rw [withT, List.length_append, List.length_append, List.length_cons]
    have h := withT_len C e (dn || decide (0 ≤ cmpL x.pa e.pa))
    have h2 : (if (x.pa == e.pa) = true then ([] : List Ent) else [x]).length ≤ 1 := by split <;> simp
    cases dn with
    | true => simp at h ⊢; simp at h2; omega
    | false =>
      cases hd : decide (0 ≤ cmpL x.pa e.pa) with
      | true => rw [hd] at h; simp at h ⊢; simp at h2; omega
      | false => rw [hd] at h; simp at h ⊢; simp at h2; omega
theorem bytesT_app (A B : List Ent) : bytesT (A ++ B) = bytesT A + bytesT B := by unfold bytesT; rw [List.map_append, List.sum_append]
theorem bytesT_one (e : Ent) : bytesT [e] = e.by.length := by simp [bytesT]
theorem withT_bytes : ∀ (C : List Ent) (e : Ent) (dn : Bool), bytesT (withT C e dn) ≤ bytesT C + (if dn then 0 else e.by.length)
  | [], e, dn => by cases dn <;> simp [withT, bytesT]
  | x :: C, e, dn => by
    have hx : bytesT (x :: C) = x.by.length + bytesT C := by rw [show x :: C = [x] ++ C from rfl, bytesT_app, bytesT_one]
    rw [withT, bytesT_app, bytesT_app, hx]
    have h := withT_bytes C e (dn || decide (0 ≤ cmpL x.pa e.pa))
    have h2 : bytesT (if (x.pa == e.pa) = true then ([] : List Ent) else [x]) ≤ x.by.length := by split; exact Nat.zero_le _; rw [bytesT_one]; exact Nat.le_refl _
    cases dn with
    | true => simp at h; simp only [Bool.not_true, Bool.false_and, Bool.false_eq_true, if_false, if_true, Bool.true_or] at *; have : bytesT ([] : List Ent) = 0 := rfl; omega
    | false =>
      have h0 : bytesT ([] : List Ent) = 0 := rfl
      have h1 : bytesT [e] = e.by.length := bytesT_one e
      cases hd : decide (0 ≤ cmpL x.pa e.pa) with
      | true => rw [hd] at h; simp only [Bool.false_or, Bool.not_false, Bool.true_and, if_true, Bool.false_eq_true, if_false] at *; omega
      | false => rw [hd] at h; simp only [Bool.false_or, Bool.not_false, Bool.true_and, Bool.false_eq_true, if_false] at *; omega
def newDir (p : ByteArray) : Ent := (p, true, .slice none 0 0, [])
def makeT (C : List Ent) (p : ByteArray) : List Ent × Int :=
  if goodT C = false then (C, 1) else if okPath p.data.toList = false then (C, 4) else if 0 ≤ atT C p.data.toList then (C, 6) else
  if roomT C p.data.toList ≠ 0 then (C, roomT C p.data.toList) else if goodT (withT C (newDir p) false) = false then (C, 9) else (withT C (newDir p) false, 0)
set_option maxHeartbeats 4000000 in
set_option maxRecDepth 100000 in
theorem rmake_any (C : List Ent) (q : Option Addr) (c : Nat) (p : ByteArray) (hm : C.length ≤ 50000) (hcap : C.length ≤ c) (hq : q = none → c = 0) (hp : p.size ≤ 1048576) (hb : bytesT C ≤ 2305843009213693952) (hn : ∀ e ∈ C, e.1.size ≤ 1048576) (w : World) (hs : Sees w w.heap.size q (rowC C)) (hE : Ents w C) :
    Calls Tryd.prog 88 #[.slice q C.length c, .string p] w fun e w' => (∃ v, e = .returned (.tuple #[v, .int .i64 (makeT C p).2]) ∧ TrV w' v (makeT C p).1 ∧ Ents w' (makeT C p).1) ∧ Below w.heap.size w w' := by
  have HT : Hid (∀ w', Below w.heap.size w w' → TrV w' (.slice q C.length c) C ∧ Ents w' C) := Lib.hid (fun w' h => ⟨⟨q, c, rfl, hcap, hq, (hs.keep h).more h.size⟩, hE.keep h⟩)
  have HS := Lib.hid hs
  have HE := Lib.hid hE
  have HN := Lib.hid hn
  have HGT := Lib.hid (fun w1 h1 h2 => rgt_any C q c (by omega) (by omega) hn w1 h1 h2)
  have HG := Lib.hid (fun w1 => rgood_any p hp w1)
  have HAT := Lib.hid (fun w1 h => rat_any C q c p (by omega) w1 h)
  have HRM := Lib.hid (fun w1 h => rroom_any C q c p (by omega) hp w1 h)
  have HWT := Lib.hid (fun w1 h1 h2 => rwith_any C q c p true (.slice none 0 0) [] (by omega) hp hn w1 h1 h2 rfl)
  have hWn : ∀ e ∈ withT C (newDir p) false, e.1.size ≤ 1048576 := fun e h => by
    rcases withT_mem _ _ _ e h with rfl | h
    · exact hp
    · exact hn e h
  have hWl := withT_len C (newDir p) false
  have hWb : bytesT (withT C (newDir p) false) ≤ bytesT C := withT_bytes C (newDir p) false
  have HWG := Lib.hid (fun q1 c1 w1 h1 h2 => rgt_any (withT C (newDir p) false) q1 c1 (by simp at hWl; omega) (by omega) hWn w1 h1 h2)
  have HWE : Hid (∀ w', Below w.heap.size w w' → Ents w' (withT C (newDir p) false)) := Lib.hid (fun w' h e he => by
    rcases withT_mem _ _ _ e he with rfl | he
    · exact Bs.nil w'
    · exact (hE.keep h) e he)
  obtain ⟨V, hV⟩ : ∃ V, makeT C p = V := ⟨_, rfl⟩
  rw [hV]
  unfold makeT at hV
  generalize goodT (withT C (newDir p) false) = G2 at *
  change Hid (∀ w1 h1 h2, Calls _ _ _ w1 fun e w' => (∃ v, e = .returned v ∧ TrV w' v (withT C (newDir p) false)) ∧ _) at HWT
  generalize withT C (newDir p) false = C2 at *
  generalize goodT C = G1 at *
  generalize okPath p.data.toList = G at *
  have hge := atT_ge C p.data.toList
  generalize atT C p.data.toList = K0 at *
  generalize roomT C p.data.toList = E0 at *
  clear hs hE hn hcap hq hWn hWl hWb
  have HV := Lib.hid hV
  clear hV
  go_enter Tryd.func88, Tryd.ntmps88
  go_wp2_with fail
  refine (HGT.out _ HS.out HE.out).mono ?_
  rintro e w1 ⟨rfl, hb1⟩
  have HB := Lib.hid hb1
  clear hb1
  cases G1 with
  | false =>
    obtain rfl : V = (C, 1) := HV.out.symm
    go_wp2_with fail
    go_ret2
    exact ⟨⟨_, rfl, HT.out _ HB.out⟩, HB.out⟩
  | true =>
    go_wp2_with fail
    refine (HG.out _).mono ?_
    rintro e w2 ⟨rfl, hb1⟩
    replace HB := Lib.hid (HB.out.trans (hb1.mono HB.out.size))
    clear hb1
    cases G with
    | false =>
      obtain rfl : V = (C, 4) := HV.out.symm
      go_wp2_with fail
      go_ret2
      exact ⟨⟨_, rfl, HT.out _ HB.out⟩, HB.out⟩
    | true =>
      go_wp2_with fail
      refine (HAT.out _ ((HS.out.keep HB.out).more HB.out.size)).mono ?_
      rintro e w3 ⟨rfl, rfl⟩
      by_cases hk : 0 ≤ K0
      · obtain rfl : V = (C, 6) := by rw [← HV.out]; simp [hk]
        go_wp2_with fail
        go_ret2
        exact ⟨⟨_, rfl, HT.out _ HB.out⟩, HB.out⟩
      · have hv : (if E0 ≠ 0 then (C, E0) else if G2 = false then (C, 9) else (C2, 0)) = V := by rw [← HV.out]; simp [hk]
        have HV2 := Lib.hid hv
        have hk2 : K0 < 0 := by omega
        clear hv
        go_wp2_with fail
        refine (HRM.out _ ((HS.out.keep HB.out).more HB.out.size)).mono ?_
        rintro e w4 ⟨rfl, hb1⟩
        replace HB := Lib.hid (HB.out.trans (hb1.mono HB.out.size))
        clear hb1
        by_cases he : E0 = 0
        · subst he
          have hv : (if G2 = false then (C, 9) else (C2, 0)) = V := by rw [← HV2.out]; simp
          have HV3 := Lib.hid hv
          clear hv
          go_wp2_with fail
          refine (HWT.out _ ((HS.out.keep HB.out).more HB.out.size) (HE.out.keep HB.out)).mono ?_
          rintro e w5 ⟨⟨v, rfl, q2, c2, rfl, hc2, hq2, hs2⟩, hb1⟩
          replace HB := Lib.hid (HB.out.trans (hb1.mono HB.out.size))
          have HS2 := Lib.hid hs2
          clear hb1 hs2
          go_wp2_with fail
          refine (HWG.out q2 c2 _ HS2.out (HWE.out _ HB.out)).mono ?_
          rintro e w6 ⟨rfl, hb1⟩
          replace HB := Lib.hid (HB.out.trans (hb1.mono HB.out.size))
          replace HS2 := Lib.hid ((HS2.out.keep hb1).more hb1.size)
          clear hb1
          cases G2 with
          | false =>
            obtain rfl : V = (C, 9) := HV3.out.symm
            go_wp2_with fail
            go_ret2
            exact ⟨⟨_, rfl, HT.out _ HB.out⟩, HB.out⟩
          | true =>
            obtain rfl : V = (C2, 0) := HV3.out.symm
            go_wp2_with fail
            go_ret2
            exact ⟨⟨_, rfl, ⟨q2, c2, rfl, hc2, hq2, HS2.out⟩, HWE.out _ HB.out⟩, HB.out⟩
        · obtain rfl : V = (C, E0) := by rw [← HV2.out]; simp [he]
          have hen : (E0 == 0) = false := by rw [beq_eq_false_iff_ne]; exact he
          have hen2 : (E0 != 0) = true := by simp [bne, hen]
          go_wp2_with fail
          go_ret2
          exact ⟨⟨_, rfl, HT.out _ HB.out⟩, HB.out⟩
end Go.Proofs.YtefamkckoikeoaaDoor
/- Contract: the document's own Put. Conditions: at most 50000 entries, paths of at most 2^20 bytes, all bytes together at most 2^61, the new ones at most 2^46. -/
namespace Go.Proofs.YtefamkckoikeoaaDoor
open Go.RowKit
def newF (p : ByteArray) (v : Value) (b : List (BitVec 8)) : Ent := (p, false, v, b)
def putT (C : List Ent) (p : ByteArray) (b : List (BitVec 8)) (v : Value) : List Ent × Int :=
  if goodT C = false then (C, 1) else if okPath p.data.toList = false then (C, 4) else
  if roomT C p.data.toList ≠ 0 then (C, roomT C p.data.toList) else if 0 ≤ atT C p.data.toList ∧ dirT C (atT C p.data.toList).toNat = true then (C, 7) else
  if goodT (withT C (newF p v b) false) = false then (C, 9) else (withT C (newF p v b) false, 0)
theorem own_slice {w : World} {base n size : Nat} {e : TypeId} {v : Value} {xs : List Value} (h : w.ownsRow base e size v n xs) : ∃ x m c, v = .slice x m c := by
  rcases h.2 with ⟨rfl, _⟩ | ⟨g, cap, cur, rfl, _⟩ <;> exact ⟨_, _, _, rfl⟩
set_option maxHeartbeats 4000000 in
set_option maxRecDepth 100000 in
theorem rput_any (C : List Ent) (q : Option Addr) (c : Nat) (p : ByteArray) (b : List (BitVec 8)) (qb : Option Addr) (cb : Nat) (hm : C.length ≤ 50000) (hcap : C.length ≤ c) (hq : q = none → c = 0) (hp : p.size ≤ 1048576) (hb : bytesT C ≤ 2305843009213693952) (hn : ∀ e ∈ C, e.1.size ≤ 1048576)
    (hbl : b.length ≤ 70368744177664) (hqb : qb = none → cb = 0) (w : World) (hs : Sees w w.heap.size q (rowC C)) (hE : Ents w C) (hsb : Sees w w.heap.size qb (b.map u8v)) :
    Calls Tryd.prog 87 #[.slice q C.length c, .string p, .slice qb b.length cb] w fun e w' => (∃ v v5, e = .returned (.tuple #[v, .int .i64 (putT C p b v5).2]) ∧ TrV w' v (putT C p b v5).1 ∧ Ents w' (putT C p b v5).1) ∧ Below w.heap.size w w' := by
  have HT : Hid (∀ w', Below w.heap.size w w' → TrV w' (.slice q C.length c) C ∧ Ents w' C) := Lib.hid (fun w' h => ⟨⟨q, c, rfl, hcap, hq, (hs.keep h).more h.size⟩, hE.keep h⟩)
  have HS := Lib.hid hs
  have HSB := Lib.hid hsb
  have HE := Lib.hid hE
  have HN := Lib.hid hn
  have HGT := Lib.hid (fun w1 h1 h2 => rgt_any C q c (by omega) (by omega) hn w1 h1 h2)
  have HG := Lib.hid (fun w1 => rgood_any p hp w1)
  have HAT := Lib.hid (fun w1 h => rat_any C q c p (by omega) w1 h)
  have HRM := Lib.hid (fun w1 h => rroom_any C q c p (by omega) hp w1 h)
  have HWT : Hid (∀ bv, bv.oneCell' = true → ∀ w1, Sees w1 w1.heap.size q (rowC C) → Ents w1 C → Calls Tryd.prog 101 #[.slice q C.length c, .agg #[.string p, .bool false, bv]] w1 fun e w' => (∃ v, e = .returned v ∧ TrV w' v (withT C (newF p bv b) false)) ∧ Below w1.heap.size w1 w') := Lib.hid (fun bv h0 w1 h1 h2 => rwith_any C q c p false bv b (by omega) hp hn w1 h1 h2 h0)
  have HWG := Lib.hid (fun bv q1 c1 w1 h1 h2 => rgt_any (withT C (newF p bv b) false) q1 c1 (by have := withT_len C (newF p bv b) false; simp at this; omega) (by have := withT_bytes C (newF p bv b) false; simp at this; have e : (newF p bv b).by.length = b.length := rfl; omega) (fun e h => by
    rcases withT_mem _ _ _ e h with rfl | h
    · exact hp
    · exact hn e h) w1 h1 h2)
  have HWE : Hid (∀ bv w', Bs w' bv b → Below w.heap.size w w' → Ents w' (withT C (newF p bv b) false)) := Lib.hid (fun bv w' hbs h e he => by
    rcases withT_mem _ _ _ e he with rfl | he
    · exact hbs
    · exact (hE.keep h) e he)
  have HV : Hid (∀ v5, putT C p b v5 = if goodT C = false then (C, 1) else if okPath p.data.toList = false then (C, 4) else
    if roomT C p.data.toList ≠ 0 then (C, roomT C p.data.toList) else if 0 ≤ atT C p.data.toList ∧ dirT C (atT C p.data.toList).toNat = true then (C, 7) else
    if goodT (withT C (newF p v5 b) false) = false then (C, 9) else (withT C (newF p v5 b) false, 0)) := Lib.hid (fun _ => rfl)
  generalize putT C p b = PV at *
  generalize goodT C = G1 at *
  generalize okPath p.data.toList = G at *
  have hge := atT_ge C p.data.toList
  have hltt := atT_lt C p.data.toList
  generalize atT C p.data.toList = K0 at *
  generalize roomT C p.data.toList = E0 at *
  clear hs hE hn hcap hq hsb
  go_enter Tryd.func87, Tryd.ntmps87
  go_wp2_with fail
  refine (HGT.out _ HS.out HE.out).mono ?_
  rintro e w1 ⟨rfl, hb1⟩
  have HB := Lib.hid hb1
  clear hb1
  cases G1 with
  | false =>
    have hv : PV undef = (C, 1) := by rw [HV.out]; rfl
    go_wp2_with fail
    go_ret2
    exact ⟨⟨.slice q C.length c, undef, by rw [hv]; rfl, by rw [hv]; exact HT.out _ HB.out⟩, HB.out⟩
  | true =>
    go_wp2_with fail
    refine (HG.out _).mono ?_
    rintro e w2 ⟨rfl, hb1⟩
    replace HB := Lib.hid (HB.out.trans (hb1.mono HB.out.size))
    clear hb1
    cases G with
    | false =>
      have hv : PV undef = (C, 4) := by rw [HV.out]; rfl
      go_wp2_with fail
      go_ret2
      exact ⟨⟨.slice q C.length c, undef, by rw [hv]; rfl, by rw [hv]; exact HT.out _ HB.out⟩, HB.out⟩
    | true =>
      go_wp2_with fail
      refine (HRM.out _ ((HS.out.keep HB.out).more HB.out.size)).mono ?_
      rintro e w3 ⟨rfl, hb1⟩
      replace HB := Lib.hid (HB.out.trans (hb1.mono HB.out.size))
      clear hb1
      by_cases he : E0 = 0
      · subst he
        go_wp2_with fail
        refine (HAT.out _ ((HS.out.keep HB.out).more HB.out.size)).mono ?_
        rintro e w4 ⟨rfl, rfl⟩
        by_cases hk : 0 ≤ K0
        · obtain ⟨k, rfl⟩ : ∃ k : Nat, K0 = (k : Int) := ⟨K0.toNat, by omega⟩
          have hkl : k < C.length := by omega
          obtain ⟨a, rfl, ha, hc⟩ := HS.out.ent hkl
          obtain ⟨_, c5, _⟩ := hc w3 HB.out
          have hd : dirT C k = C[k].2.1 := by unfold dirT; rw [List.getElem?_eq_getElem hkl]; rfl
          have HD := Lib.hid hd
          have kl : (k : Int) < (C.length : Int) := by omega
          clear hc ha hd
          generalize C[k].2.1 = d at *
          cases d with
          | true =>
            have hv : PV undef = (C, 7) := by rw [HV.out]; simp [HD.out]
            go_wp2_with fail
            go_ret2
            exact ⟨⟨.slice (some a) C.length c, undef, by rw [hv]; rfl, by rw [hv]; exact HT.out _ HB.out⟩, HB.out⟩
          | false =>
            have HSB3 : Hid (Sees (w3.alloc (.cells #[] 5)) w3.heap.size qb (b.map u8v)) := Lib.hid (((HSB.out.keep HB.out).more HB.out.size).keep ((Below.refl _ _).alloc (Nat.le_refl _) _))
            go_wp2_with (refine wpList_append_sees rfl (.tmp 41) (.tmp 42) rfl w3.heap.size _ 0 [] rfl (World.ownsRow_made w3 #[] 0 (Nat.le_refl _) (Nat.zero_le _) rfl) qb b cb w3.heap.size rfl hqb HSB3.out (by omega) (by simp) ?_; intro v5 w5 ho5 hb5; obtain ⟨x5, m5, k5, rfl⟩ := own_slice ho5; have HO5 := Lib.hid ho5; replace HB := Lib.hid ((HB.out.alloc HB.out.size (.cells #[] 5)).trans (hb5.mono HB.out.size)); clear ho5 hb5 HSB3)
            have HBS : Hid (Bs w5 (.slice x5 m5 k5) b) := Lib.hid (Bs.own (by simpa using HO5.out))
            refine (HWT.out (.slice x5 m5 k5) rfl _ ((HS.out.keep HB.out).more HB.out.size) (HE.out.keep HB.out)).mono ?_
            rintro e w6 ⟨⟨v, rfl, q2, c2, rfl, hc2, hq2, hs2⟩, hb1⟩
            replace HB := Lib.hid (HB.out.trans (hb1.mono HB.out.size))
            replace HBS := Lib.hid (HBS.out.keep hb1)
            have HS2 := Lib.hid hs2
            clear hb1 hs2 HO5
            have hv : PV (.slice x5 m5 k5) = if goodT (withT C (newF p (.slice x5 m5 k5) b) false) = false then (C, 9) else (withT C (newF p (.slice x5 m5 k5) b) false, 0) := by rw [HV.out]; simp [HD.out]
            have HV3 := Lib.hid hv
            have HG2 := Lib.hid (HWG.out (.slice x5 m5 k5) q2 c2)
            have HE2 := Lib.hid (HWE.out (.slice x5 m5 k5))
            clear hv HWG HWT HWE HV
            generalize withT C (newF p (.slice x5 m5 k5) b) false = C2 at *
            generalize goodT C2 = G2 at *
            go_wp2_with fail
            refine (HG2.out _ HS2.out (HE2.out _ HBS.out HB.out)).mono ?_
            rintro e w7 ⟨rfl, hb1⟩
            replace HB := Lib.hid (HB.out.trans (hb1.mono HB.out.size))
            replace HBS := Lib.hid (HBS.out.keep hb1)
            replace HS2 := Lib.hid ((HS2.out.keep hb1).more hb1.size)
            clear hb1
            cases G2 with
            | false =>
              have hv : PV (.slice x5 m5 k5) = (C, 9) := HV3.out
              go_wp2_with fail
              go_ret2
              exact ⟨⟨.slice (some a) C.length c, .slice x5 m5 k5, by rw [hv]; rfl, by rw [hv]; exact HT.out _ HB.out⟩, HB.out⟩
            | true =>
              have hv : PV (.slice x5 m5 k5) = (C2, 0) := HV3.out
              go_wp2_with fail
              go_ret2
              exact ⟨⟨.slice q2 C2.length c2, .slice x5 m5 k5, by rw [hv]; rfl, by rw [hv]; exact ⟨⟨q2, c2, rfl, hc2, hq2, HS2.out⟩, HE2.out _ HBS.out HB.out⟩⟩, HB.out⟩
        · have hk2 : K0 < 0 := by omega
          have HK : Hid (¬ 0 ≤ K0) := Lib.hid hk
          have HSB3 : Hid (Sees (w3.alloc (.cells #[] 5)) w3.heap.size qb (b.map u8v)) := Lib.hid (((HSB.out.keep HB.out).more HB.out.size).keep ((Below.refl _ _).alloc (Nat.le_refl _) _))
          go_wp2_with (refine wpList_append_sees rfl (.tmp 41) (.tmp 42) rfl w3.heap.size _ 0 [] rfl (World.ownsRow_made w3 #[] 0 (Nat.le_refl _) (Nat.zero_le _) rfl) qb b cb w3.heap.size rfl hqb HSB3.out (by omega) (by simp) ?_; intro v5 w5 ho5 hb5; obtain ⟨x5, m5, k5, rfl⟩ := own_slice ho5; have HO5 := Lib.hid ho5; replace HB := Lib.hid ((HB.out.alloc HB.out.size (.cells #[] 5)).trans (hb5.mono HB.out.size)); clear ho5 hb5 HSB3)
          have HBS : Hid (Bs w5 (.slice x5 m5 k5) b) := Lib.hid (Bs.own (by simpa using HO5.out))
          refine (HWT.out (.slice x5 m5 k5) rfl _ ((HS.out.keep HB.out).more HB.out.size) (HE.out.keep HB.out)).mono ?_
          rintro e w6 ⟨⟨v, rfl, q2, c2, rfl, hc2, hq2, hs2⟩, hb1⟩
          replace HB := Lib.hid (HB.out.trans (hb1.mono HB.out.size))
          replace HBS := Lib.hid (HBS.out.keep hb1)
          have HS2 := Lib.hid hs2
          clear hb1 hs2 HO5
          have hv : PV (.slice x5 m5 k5) = if goodT (withT C (newF p (.slice x5 m5 k5) b) false) = false then (C, 9) else (withT C (newF p (.slice x5 m5 k5) b) false, 0) := by rw [HV.out, if_neg (by simp), if_neg (by simp), if_neg (by simp), if_neg (fun h => absurd h.1 (by have := HK.out; omega))]
          have HV3 := Lib.hid hv
          have HG2 := Lib.hid (HWG.out (.slice x5 m5 k5) q2 c2)
          have HE2 := Lib.hid (HWE.out (.slice x5 m5 k5))
          clear hv HWG HWT HWE HV
          generalize withT C (newF p (.slice x5 m5 k5) b) false = C2 at *
          generalize goodT C2 = G2 at *
          go_wp2_with fail
          refine (HG2.out _ HS2.out (HE2.out _ HBS.out HB.out)).mono ?_
          rintro e w7 ⟨rfl, hb1⟩
          replace HB := Lib.hid (HB.out.trans (hb1.mono HB.out.size))
          replace HBS := Lib.hid (HBS.out.keep hb1)
          replace HS2 := Lib.hid ((HS2.out.keep hb1).more hb1.size)
          clear hb1
          cases G2 with
          | false =>
            have hv : PV (.slice x5 m5 k5) = (C, 9) := HV3.out
            go_wp2_with fail
            go_ret2
            exact ⟨⟨.slice q C.length c, .slice x5 m5 k5, by rw [hv]; rfl, by rw [hv]; exact HT.out _ HB.out⟩, HB.out⟩
          | true =>
            have hv : PV (.slice x5 m5 k5) = (C2, 0) := HV3.out
            go_wp2_with fail
            go_ret2
            exact ⟨⟨.slice q2 C2.length c2, .slice x5 m5 k5, by rw [hv]; rfl, by rw [hv]; exact ⟨⟨q2, c2, rfl, hc2, hq2, HS2.out⟩, HE2.out _ HBS.out HB.out⟩⟩, HB.out⟩
      · have hv : PV undef = (C, E0) := by rw [HV.out]; simp [he]
        have hen : (E0 == 0) = false := by rw [beq_eq_false_iff_ne]; exact he
        have hen2 : (E0 != 0) = true := by simp [bne, hen]
        go_wp2_with fail
        go_ret2
        exact ⟨⟨.slice q C.length c, undef, by rw [hv]; rfl, by rw [hv]; exact HT.out _ HB.out⟩, HB.out⟩
end Go.Proofs.YtefamkckoikeoaaDoor
/- Contract: the document's own Under. Condition: texts of at most 2^20 bytes. -/
namespace Go.Proofs.YtefamkckoikeoaaDoor
open Go.RowKit
set_option maxHeartbeats 4000000 in
theorem runder_any (p d : ByteArray) (hp : p.size ≤ 1048576) (hd : d.size ≤ 1048576) (w : World) :
    Calls Tryd.prog 103 #[.string p, .string d] w fun e w' => e = .returned (.bool (underL p.data.toList d.data.toList)) ∧ Below w.heap.size w w' := by
  have HG := Lib.hid (fun w1 => rgood_any p hp w1)
  have HD := Lib.hid (fun w1 => rgood_any d hd w1)
  have hpl : p.data.toList.length = p.size := rfl
  have hdl : d.data.toList.length = d.size := rfl
  have hld : d.toList = d.data.toList := Lib.toList_data d
  cases hg : okPath p.data.toList with
  | false =>
    rw [hg] at HG
    rw [under_no (.inl hg)]
    clear hg
    go_enter Tryd.func103, Tryd.ntmps103
    go_wp2_with fail
    refine (HG.out _).mono ?_
    rintro e w1 ⟨rfl, hb⟩
    go_wp2_with fail
    go_ret
    exact ⟨rfl, hb⟩
  | true =>
    rw [hg] at HG
    cases hgd : okPath d.data.toList with
    | false =>
      rw [hgd] at HD
      rw [under_no (.inr (.inl hgd))]
      clear hg hgd
      go_enter Tryd.func103, Tryd.ntmps103
      go_wp2_with fail
      refine (HG.out _).mono ?_
      rintro e w1 ⟨rfl, hb⟩
      have HB := Lib.hid hb
      clear hb
      go_wp2_with fail
      refine (HD.out _).mono ?_
      rintro e w2 ⟨rfl, hb⟩
      replace HB := Lib.hid (HB.out.trans (hb.mono HB.out.size))
      clear hb
      go_wp2_with fail
      go_ret
      exact ⟨rfl, HB.out⟩
    | true =>
      rw [hgd] at HD
      by_cases hlt : d.size < p.size
      · have hex : (p.extract 0 d.size).toList = p.data.toList.take d.size := by rw [Lib.extract_toList]; simp
        have k1 : (d.size : Int) < (p.size : Int) := by omega
        by_cases heq : p.data.toList.take d.size = d.data.toList
        · have hu := under_at (p := p.data.toList) (d := d.data.toList) hg (by rw [hpl, hdl]; exact hlt) (by rw [hdl]; exact heq)
          have hget : p.data.toList[d.data.toList.length]'(by rw [hpl, hdl]; exact hlt) = p[d.size]'hlt := by
            have h1 := byte_at p d.size hlt
            exact (List.getElem?_eq_some_iff.1 h1).2
          rw [hu, hget]
          have k2 : ((p.extract 0 d.size).toList == d.data.toList) = true := by rw [hex, beq_iff_eq]; exact heq
          have k3 : (((p[d.size]'hlt).toNat : Int) == 47) = (p[d.size]'hlt == 47) := by
            rw [Bool.eq_iff_iff, beq_iff_eq, beq_iff_eq, ← UInt8.toNat_inj]
            show _ ↔ (p[d.size]'hlt).toNat = 47
            omega
          have HK := Lib.hid k3
          clear hu hget heq hex hg hgd k3
          go_enter Tryd.func103, Tryd.ntmps103
          go_wp2_with fail
          refine (HG.out _).mono ?_
          rintro e w1 ⟨rfl, hb⟩
          have HB := Lib.hid hb
          clear hb
          go_wp2_with fail
          refine (HD.out _).mono ?_
          rintro e w2 ⟨rfl, hb⟩
          replace HB := Lib.hid (HB.out.trans (hb.mono HB.out.size))
          clear hb
          go_wp2_with fail
          go_ret
          exact ⟨congrArg (fun b => Ending.returned (.bool b)) HK.out, HB.out⟩
        · rw [under_no (.inr (.inr (.inr (by rw [hdl]; exact heq))))]
          have k2 : ((p.extract 0 d.size).toList == d.data.toList) = false := by rw [hex, beq_eq_false_iff_ne]; exact heq
          clear heq hex hg hgd
          go_enter Tryd.func103, Tryd.ntmps103
          go_wp2_with fail
          refine (HG.out _).mono ?_
          rintro e w1 ⟨rfl, hb⟩
          have HB := Lib.hid hb
          clear hb
          go_wp2_with fail
          refine (HD.out _).mono ?_
          rintro e w2 ⟨rfl, hb⟩
          replace HB := Lib.hid (HB.out.trans (hb.mono HB.out.size))
          clear hb
          go_wp2_with fail
          go_ret
          exact ⟨rfl, HB.out⟩
      · rw [under_no (.inr (.inr (.inl (by rw [hpl, hdl]; exact hlt))))]
        have k1 : ¬ (d.size : Int) < (p.size : Int) := by omega
        clear hg hgd
        go_enter Tryd.func103, Tryd.ntmps103
        go_wp2_with fail
        refine (HG.out _).mono ?_
        rintro e w1 ⟨rfl, hb⟩
        have HB := Lib.hid hb
        clear hb
        go_wp2_with fail
        refine (HD.out _).mono ?_
        rintro e w2 ⟨rfl, hb⟩
        replace HB := Lib.hid (HB.out.trans (hb.mono HB.out.size))
        clear hb
        go_wp2_with fail
        go_ret
        exact ⟨rfl, HB.out⟩
end Go.Proofs.YtefamkckoikeoaaDoor
/- Contract: the document's own Find. Conditions: at most 50000 entries, paths of at most 2^20 bytes, all bytes together at most 2^61. -/
namespace Go.Proofs.YtefamkckoikeoaaDoor
open Go.RowKit
def noE : Ent := (⟨#[]⟩, false, .slice none 0 0, [])
def rerrT (C : List Ent) (p : Tx) : Int := if goodT C = false then 1 else if okPath p = false then 4 else if atT C p < 0 then 5 else 0
def RFind (C : List Ent) (p : Tx) (r : Ent) : Prop := (rerrT C p = 0 ∧ ∃ h : (atT C p).toNat < C.length, r = C[(atT C p).toNat]) ∨ (rerrT C p ≠ 0 ∧ r = noE)
set_option maxHeartbeats 4000000 in
set_option maxRecDepth 100000 in
theorem rfind_any (C : List Ent) (q : Option Addr) (c : Nat) (p : ByteArray) (hm : C.length ≤ 50000) (hp : p.size ≤ 1048576) (hb : bytesT C ≤ 2305843009213693952) (hn : ∀ e ∈ C, e.1.size ≤ 1048576) (w : World) (hs : Sees w w.heap.size q (rowC C)) (hE : Ents w C) :
    Calls Tryd.prog 102 #[.slice q C.length c, .string p] w fun e w' => (∃ r : Ent, e = .returned (.tuple #[entV r, .int .i64 (rerrT C p.data.toList)]) ∧ Bs w' r.val r.by ∧ RFind C p.data.toList r) ∧ Below w.heap.size w w' := by
  have HS := Lib.hid hs
  have HE := Lib.hid hE
  have HGT := Lib.hid (fun w1 h1 h2 => rgt_any C q c (by omega) (by omega) hn w1 h1 h2)
  have HG := Lib.hid (fun w1 => rgood_any p hp w1)
  have HAT := Lib.hid (fun w1 h => rat_any C q c p (by omega) w1 h)
  have hge := atT_ge C p.data.toList
  have hltt := atT_lt C p.data.toList
  have HV : Hid (rerrT C p.data.toList = if goodT C = false then 1 else if okPath p.data.toList = false then 4 else if atT C p.data.toList < 0 then 5 else 0) := Lib.hid rfl
  have HR : Hid (∀ r, ((rerrT C p.data.toList = 0 ∧ ∃ h : (atT C p.data.toList).toNat < C.length, r = C[(atT C p.data.toList).toNat]) ∨ (rerrT C p.data.toList ≠ 0 ∧ r = noE)) → RFind C p.data.toList r) := Lib.hid (fun _ h => h)
  generalize RFind C p.data.toList = RF at *
  generalize rerrT C p.data.toList = V at *
  generalize goodT C = G1 at *
  generalize okPath p.data.toList = G at *
  generalize atT C p.data.toList = K0 at *
  clear hs hE hn
  go_enter Tryd.func102, Tryd.ntmps102
  have HY : Hid (Has (w.alloc (.cells #[.string ⟨#[]⟩, .bool false, .slice none 0 0] 110)) w.heap.size 110 [.string ⟨#[]⟩, .bool false, .slice none 0 0]) := Lib.hid (Has.made w _ _)
  have HB : Hid (Below w.heap.size w (w.alloc (.cells #[.string ⟨#[]⟩, .bool false, .slice none 0 0] 110))) := Lib.hid ((Below.refl _ _).alloc (Nat.le_refl _) _)
  go_wp2_with fail
  refine (HGT.out _ ((HS.out.keep HB.out).more HB.out.size) (HE.out.keep HB.out)).mono ?_
  rintro e w1 ⟨rfl, hb1⟩
  replace HB := Lib.hid (HB.out.trans (hb1.mono HB.out.size))
  replace HY := Lib.hid (HY.out.keep hb1 HY.out.lt)
  clear hb1
  cases G1 with
  | false =>
    have cy0 := HY.out.cellv (i := 0) (v := .string ⟨#[]⟩) rfl
    have cy1 := HY.out.cellv (i := 1) (v := .bool false) rfl
    have cy2 := HY.out.cellv (i := 2) (v := .slice none 0 0) rfl
    have fy0 := HY.out.free 0
    have fy1 := HY.out.free 1
    have fy2 := HY.out.free 2
    have hv : V = 1 := by rw [HV.out]; simp
    subst hv
    go_wp2_with fail
    have hyf := ((HY.out.put 0 (.string ⟨#[]⟩)).put 1 (.bool false)).put 2 (.slice none 0 0)
    have cz0 := hyf.cellv (i := 0) (v := .string ⟨#[]⟩) rfl
    have cz1 := hyf.cellv (i := 1) (v := .bool false) rfl
    have cz2 := hyf.cellv (i := 2) (v := .slice none 0 0) rfl
    refine bodyPost_ret (by simp [results, Tryd.results102, go_sem, cz0, cz1, cz2]; try rfl) rfl ?_
    have hbz := ((HB.out.setCell (p := ⟨w.heap.size, 0, none⟩) (Nat.le_refl _) (.string ⟨#[]⟩)).setCell (p := ⟨w.heap.size, 1, none⟩) (Nat.le_refl _) (.bool false)).setCell (p := ⟨w.heap.size, 2, none⟩) (Nat.le_refl _) (.slice none 0 0)
    exact ⟨⟨noE, rfl, Bs.nil _, HR.out _ (.inr ⟨by decide, rfl⟩)⟩, hbz⟩
  | true =>
    go_wp2_with fail
    refine (HG.out _).mono ?_
    rintro e w2 ⟨rfl, hb1⟩
    replace HB := Lib.hid (HB.out.trans (hb1.mono HB.out.size))
    replace HY := Lib.hid (HY.out.keep hb1 HY.out.lt)
    clear hb1
    cases G with
    | false =>
      have cy0 := HY.out.cellv (i := 0) (v := .string ⟨#[]⟩) rfl
      have cy1 := HY.out.cellv (i := 1) (v := .bool false) rfl
      have cy2 := HY.out.cellv (i := 2) (v := .slice none 0 0) rfl
      have fy0 := HY.out.free 0
      have fy1 := HY.out.free 1
      have fy2 := HY.out.free 2
      have hv : V = 4 := by rw [HV.out]; simp
      subst hv
      go_wp2_with fail
      have hyf := ((HY.out.put 0 (.string ⟨#[]⟩)).put 1 (.bool false)).put 2 (.slice none 0 0)
      have cz0 := hyf.cellv (i := 0) (v := .string ⟨#[]⟩) rfl
      have cz1 := hyf.cellv (i := 1) (v := .bool false) rfl
      have cz2 := hyf.cellv (i := 2) (v := .slice none 0 0) rfl
      refine bodyPost_ret (by simp [results, Tryd.results102, go_sem, cz0, cz1, cz2]; try rfl) rfl ?_
      have hbz := ((HB.out.setCell (p := ⟨w.heap.size, 0, none⟩) (Nat.le_refl _) (.string ⟨#[]⟩)).setCell (p := ⟨w.heap.size, 1, none⟩) (Nat.le_refl _) (.bool false)).setCell (p := ⟨w.heap.size, 2, none⟩) (Nat.le_refl _) (.slice none 0 0)
      exact ⟨⟨noE, rfl, Bs.nil _, HR.out _ (.inr ⟨by decide, rfl⟩)⟩, hbz⟩
    | true =>
      go_wp2_with fail
      refine (HAT.out _ ((HS.out.keep HB.out).more HB.out.size)).mono ?_
      rintro e w3 ⟨rfl, rfl⟩
      by_cases hk : K0 < 0
      · have kk : (K0 < 0) = True := eq_true hk
        have cy0 := HY.out.cellv (i := 0) (v := .string ⟨#[]⟩) rfl
        have cy1 := HY.out.cellv (i := 1) (v := .bool false) rfl
        have cy2 := HY.out.cellv (i := 2) (v := .slice none 0 0) rfl
        have fy0 := HY.out.free 0
        have fy1 := HY.out.free 1
        have fy2 := HY.out.free 2
        have hv : V = 5 := by rw [HV.out]; simp [hk]
        subst hv
        go_wp2_with fail
        have hyf := ((HY.out.put 0 (.string ⟨#[]⟩)).put 1 (.bool false)).put 2 (.slice none 0 0)
        have cz0 := hyf.cellv (i := 0) (v := .string ⟨#[]⟩) rfl
        have cz1 := hyf.cellv (i := 1) (v := .bool false) rfl
        have cz2 := hyf.cellv (i := 2) (v := .slice none 0 0) rfl
        refine bodyPost_ret (by simp [results, Tryd.results102, go_sem, cz0, cz1, cz2]; try rfl) rfl ?_
        have hbz := ((HB.out.setCell (p := ⟨w.heap.size, 0, none⟩) (Nat.le_refl _) (.string ⟨#[]⟩)).setCell (p := ⟨w.heap.size, 1, none⟩) (Nat.le_refl _) (.bool false)).setCell (p := ⟨w.heap.size, 2, none⟩) (Nat.le_refl _) (.slice none 0 0)
        exact ⟨⟨noE, rfl, Bs.nil _, HR.out _ (.inr ⟨by decide, rfl⟩)⟩, hbz⟩
      · have kk : (K0 < 0) = False := eq_false hk
        obtain ⟨n, rfl⟩ := Int.eq_ofNat_of_zero_le (show 0 ≤ K0 by omega)
        have hlt : n < C.length := by omega
        obtain ⟨a, rfl, ha, hc⟩ := HS.out.ent hlt
        obtain ⟨c1, c2, c3⟩ := hc w2 HB.out
        have kk2 : (n : Int) < (C.length : Int) := by omega
        have HBSE := Lib.hid (HE.out C[n] (List.getElem_mem hlt))
        obtain ⟨qb, cb, hv, _, _, _⟩ := HE.out C[n] (List.getElem_mem hlt)
        have HRR : Hid (∀ r, r = C[n] → RF r) := Lib.hid (fun r h => HR.out r (.inl ⟨by rw [HV.out]; simp, by simpa using hlt, by simpa using h⟩))
        obtain ⟨e, he⟩ : ∃ e, C[n] = e := ⟨_, rfl⟩
        rw [he] at c1 c2 c3 hv HBSE HRR
        obtain ⟨x, d, bv, bb⟩ := e
        have hv' : bv = .slice qb (List.length bb) cb := hv
        subst hv'
        simp only [] at c1 c2 c3
        clear hc ha hv he
        go_wp2_with fail
        refine (HAT.out _ ((HS.out.keep HB.out).more HB.out.size)).mono ?_
        rintro e w3 ⟨rfl, rfl⟩
        have cy0 := HY.out.cellv (i := 0) (v := .string ⟨#[]⟩) rfl
        have cy1 := HY.out.cellv (i := 1) (v := .bool false) rfl
        have cy2 := HY.out.cellv (i := 2) (v := .slice none 0 0) rfl
        have fy0 := HY.out.free 0
        have fy1 := HY.out.free 1
        have fy2 := HY.out.free 2
        have hv : V = 0 := by rw [HV.out]; simp
        subst hv
        go_wp2_with fail
        have hyf := ((HY.out.put 0 (.string x)).put 1 (.bool d)).put 2 (.slice qb bb.length cb)
        have cz0 := hyf.cellv (i := 0) (v := .string x) rfl
        have cz1 := hyf.cellv (i := 1) (v := .bool d) rfl
        have cz2 := hyf.cellv (i := 2) (v := .slice qb bb.length cb) rfl
        refine bodyPost_ret (by simp [results, Tryd.results102, go_sem, cz0, cz1, cz2]; try rfl) rfl ?_
        have hbz := ((HB.out.setCell (p := ⟨w.heap.size, 0, none⟩) (Nat.le_refl _) (.string x)).setCell (p := ⟨w.heap.size, 1, none⟩) (Nat.le_refl _) (.bool d)).setCell (p := ⟨w.heap.size, 2, none⟩) (Nat.le_refl _) (.slice qb bb.length cb)
        exact ⟨⟨(x, d, .slice qb bb.length cb, bb), rfl, HBSE.out.keep hbz, HRR.out _ rfl⟩, hbz⟩
end Go.Proofs.YtefamkckoikeoaaDoor
/- The library’s calls that package path makes, by this dump’s numbers: each is one application of the library’s own contract. Conditions: those of the library. -/
namespace Go.Proofs.YtefamkckoikeoaaDoor
open Go.Shelf Go.RowKit
def lays103_ren : Go.Shelf.Ren := ⟨fun | 103 => 96 | 210 => 109 | 206 => 110 | n => n, fun | 9 => 9 | 4 => 4 | 24 => 94 | 3 => 3 | n => n, fun | n => n⟩
theorem lays103 : Go.Proofs.Lays.n103 Tryd.prog lays103_ren := {
  mixed := by kernel_rfl
  f103 := Tryd.func96.trans (congrArg some (by kernel_rfl))
  f206 := Tryd.func110.trans (congrArg some (by kernel_rfl))
  f210 := Tryd.func109.trans (congrArg some (by kernel_rfl))
  t3 := Tryd.underlying3
  a3 := Tryd.isAgg3
  z3 := Tryd.sizeOf3
  v3 := Tryd.zeroValue3
  t4 := Tryd.underlying4
  a4 := Tryd.isAgg4
  z4 := Tryd.sizeOf4
  v4 := Tryd.zeroValue4
  t9 := Tryd.underlying9
  a9 := Tryd.isAgg9
  z9 := Tryd.sizeOf9
  v9 := Tryd.zeroValue9
  t24 := Tryd.underlying94
  a24 := Tryd.isAgg94
  z24 := Tryd.sizeOf94
  v24 := Tryd.zeroValue94 }
def lays122_ren : Go.Shelf.Ren := ⟨fun | 122 => 93 | 215 => 107 | n => n, fun | 3 => 3 | 4 => 4 | n => n, fun | n => n⟩
theorem lays122 : Go.Proofs.Lays.n122 Tryd.prog lays122_ren := {
  mixed := by kernel_rfl
  f122 := Tryd.func93.trans (congrArg some (by kernel_rfl))
  f215 := Tryd.func107.trans (congrArg some (by kernel_rfl))
  t3 := Tryd.underlying3
  a3 := Tryd.isAgg3
  z3 := Tryd.sizeOf3
  v3 := Tryd.zeroValue3
  t4 := Tryd.underlying4
  a4 := Tryd.isAgg4
  z4 := Tryd.sizeOf4
  v4 := Tryd.zeroValue4 }
def lays143_ren : Go.Shelf.Ren := ⟨fun | 143 => 113 | 219 => 115 | 217 => 116 | 225 => 117 | 224 => 118 | 267 => 119 | 266 => 120 | 314 => 121 | n => n, fun | 9 => 9 | 3 => 3 | 4 => 4 | 5 => 5 | 46 => 131 | 146 => 153 | 51 => 152 | n => n, fun | 1 => 0 | n => n⟩
theorem lays143 : Go.Proofs.Lays.n143 Tryd.prog lays143_ren := {
  mixed := by kernel_rfl
  f143 := Tryd.func113.trans (congrArg some (by kernel_rfl))
  f217 := Tryd.func116.trans (congrArg some (by kernel_rfl))
  f219 := Tryd.func115.trans (congrArg some (by kernel_rfl))
  f224 := Tryd.func118.trans (congrArg some (by kernel_rfl))
  f225 := Tryd.func117.trans (congrArg some (by kernel_rfl))
  f266 := Tryd.func120.trans (congrArg some (by kernel_rfl))
  f267 := Tryd.func119.trans (congrArg some (by kernel_rfl))
  f314 := Tryd.func121.trans (congrArg some (by kernel_rfl))
  t3 := Tryd.underlying3
  a3 := Tryd.isAgg3
  z3 := Tryd.sizeOf3
  v3 := Tryd.zeroValue3
  t4 := Tryd.underlying4
  a4 := Tryd.isAgg4
  z4 := Tryd.sizeOf4
  v4 := Tryd.zeroValue4
  t5 := Tryd.underlying5
  a5 := Tryd.isAgg5
  z5 := Tryd.sizeOf5
  v5 := Tryd.zeroValue5
  t9 := Tryd.underlying9
  a9 := Tryd.isAgg9
  z9 := Tryd.sizeOf9
  v9 := Tryd.zeroValue9
  t46 := Tryd.underlying131
  a46 := Tryd.isAgg131
  z46 := Tryd.sizeOf131
  v46 := Tryd.zeroValue131
  t51 := Tryd.underlying152
  a51 := Tryd.isAgg152
  z51 := Tryd.sizeOf152
  v51 := Tryd.zeroValue152
  t146 := Tryd.underlying153
  a146 := Tryd.isAgg153
  z146 := Tryd.sizeOf153
  v146 := Tryd.zeroValue153
  g1 := by kernel_rfl }
def lays149_ren : Go.Shelf.Ren := ⟨fun | 149 => 82 | 222 => 98 | n => n, fun | 9 => 9 | 5 => 5 | 3 => 3 | 4 => 4 | n => n, fun | n => n⟩
theorem lays149 : Go.Proofs.Lays.n149 Tryd.prog lays149_ren := {
  mixed := by kernel_rfl
  f149 := Tryd.func82.trans (congrArg some (by kernel_rfl))
  f222 := Tryd.func98.trans (congrArg some (by kernel_rfl))
  t3 := Tryd.underlying3
  a3 := Tryd.isAgg3
  z3 := Tryd.sizeOf3
  v3 := Tryd.zeroValue3
  t4 := Tryd.underlying4
  a4 := Tryd.isAgg4
  z4 := Tryd.sizeOf4
  v4 := Tryd.zeroValue4
  t5 := Tryd.underlying5
  a5 := Tryd.isAgg5
  z5 := Tryd.sizeOf5
  v5 := Tryd.zeroValue5
  t9 := Tryd.underlying9
  a9 := Tryd.isAgg9
  z9 := Tryd.sizeOf9
  v9 := Tryd.zeroValue9 }
def lays99_ren : Go.Shelf.Ren := ⟨fun | 99 => 97 | 206 => 110 | n => n, fun | 9 => 9 | 4 => 4 | 3 => 3 | n => n, fun | n => n⟩
theorem lays99 : Go.Proofs.Lays.n99 Tryd.prog lays99_ren := {
  mixed := by kernel_rfl
  f99 := Tryd.func97.trans (congrArg some (by kernel_rfl))
  f206 := Tryd.func110.trans (congrArg some (by kernel_rfl))
  t3 := Tryd.underlying3
  a3 := Tryd.isAgg3
  z3 := Tryd.sizeOf3
  v3 := Tryd.zeroValue3
  t4 := Tryd.underlying4
  a4 := Tryd.isAgg4
  z4 := Tryd.sizeOf4
  v4 := Tryd.zeroValue4
  t9 := Tryd.underlying9
  a9 := Tryd.isAgg9
  z9 := Tryd.sizeOf9
  v9 := Tryd.zeroValue9 }
theorem index_any (s : ByteArray) (w : World) : Calls Tryd.prog 113 #[.string s, .string ⟨#[47]⟩] w fun e w' => e = .returned (.int .i64 (Lib.indexByte s.data.toList 47)) ∧ w' = w := Any.strings_Index_one lays143 s 47 w
theorem lastIndex_any (s : ByteArray) (hs : s.size < 4611686018427387904) (w : World) : Calls Tryd.prog 82 #[.string s, .int .u8 47] w fun e w' => e = .returned (.int .i64 (Lib.lastIndexByte s 47)) ∧ w' = w := Any.strings_LastIndexByte lays149 s 47 hs w
theorem cutPrefix_any (s p : ByteArray) (w : World) : Calls Tryd.prog 96 #[.string s, .string p] w fun e w' => e = .returned (.tuple #[.string ⟨(Lib.trimPrefix s.data.toList p.data.toList).toArray⟩, .bool (Lib.hasPrefix s.data.toList p.data.toList)]) ∧ w' = w := Any.strings_CutPrefix lays103 s p w
theorem hasPrefix_any (s p : ByteArray) (w : World) : Calls Tryd.prog 97 #[.string s, .string p] w fun e w' => e = .returned (.bool (Lib.hasPrefix s.data.toList p.data.toList)) ∧ w' = w := Any.strings_HasPrefix lays99 s p w
theorem compare_any (x y : Int) (w : World) : Calls Tryd.prog 93 #[.int .i64 x, .int .i64 y] w fun e w' => e = .returned (.int .i64 (Lib.compareInt x y)) ∧ w' = w := Any.cmp_Compare_int lays122 x y w
end Go.Proofs.YtefamkckoikeoaaDoor
/- A range over an iterator that hands on texts and keeps its rest in a box of its own: the loop's law, and strings.SplitSeq's iterator at a slash. Conditions: what the loop's body keeps. -/
namespace Go.Proofs.YtefamkckoikeoaaDoor
open Go.RowKit Go.Shelf
/-- How a round may be left: it goes on, or it returns. -/
def postT (Kp : World → World → Prop) (I Ix : List Tx → World → Prop) (xs : List Tx) (W : World) : Exit → Act → World → Prop
  | .normal, _, W' => KeepsOthers W W' ∧ Kp W W' ∧ I xs W'
  | .ret, _, W' => KeepsOthers W W' ∧ Ix xs W'
  | _, _, _ => False
/-- What an iterator over texts gives: every round's word is handed on, its own box b aside. -/
def GivesI (P : Program) (gf : Nat) (lb : Array Value) (b : Nat) (Kp : World → World → Prop) (L : List Tx) (w : World) : Prop :=
  ∀ (l : Nat) (J Jx : List Tx → World → Prop) (W : World), Below w.heap.size w W →
    (∀ pre W1 t, J pre W1 → J pre (W1.setCell ⟨b, 0, none⟩ (.string t))) →
    (∀ pre (x : ByteArray) W1, J pre W1 → YieldAt Fence.wide 1 P l #[.string x] W1 fun e W' =>
      (e = .returned (.bool true) ∧ J (pre ++ [x.data.toList]) W' ∧ Kp W1 W') ∨ (e = .returned (.bool false) ∧ Jx (pre ++ [x.data.toList]) W')) →
    J [] W →
    CallsIn Fence.wide 2 P gf (#[.func (.yield l) #[] #[]] ++ lb) W fun e W' => (∃ v, e = .returned v) ∧ (J L W' ∨ ∃ pre, pre <+: L ∧ Jx pre W')
theorem range_law {P : Program} {g : Operand} {ps : Array Tmp} {assign body : Code} {Q : Exit → Act → World → Prop} {a : Act} {w : World}
    {gf : Nat} {lb : Array Value} (hg : a.eval g = .func (.func gf) #[] lb) (eg : ∀ args w, (callFunc gf args).run P w = .ok (.enter gf args) w)
    (b : Nat) (hbw : b < w.heap.size) (hps : ps.size = 1) (L : List Tx) {Kp : World → World → Prop}
    (hKt : ∀ {A B C : World}, Kp A B → Kp B C → Kp A C) (hKb : ∀ (W : World) (l : Nat) (o : Obj), w.heap.size ≤ l → Kp W (W.putObj l o))
    (hseq : GivesI P gf lb b Kp L w) (I Ix : List Tx → World → Prop)
    (hI : ∀ s W l o, w.heap.size ≤ l → I s W → I s (W.putObj l o)) (hIx : ∀ s W l o, w.heap.size ≤ l → Ix s W → Ix s (W.putObj l o))
    (hIa : ∀ s W o, I s W → I s (W.alloc o)) (hIs : ∀ s W t, I s W → I s (W.setCell ⟨b, 0, none⟩ (.string t)))
    (h0 : I [] w) (a₁ : ByteArray → Act)
    (hassign : ∀ (l : Nat) (x : ByteArray) (W : World) (K : Act → World → Prop), K (a₁ x) W →
      assign.wpIn (Fence.wide.inRound l) 1 P (Exit.then K (fun _ _ _ => False)) { tmps := (ps.zip #[.string x]).foldl (fun t (p, v) => t.setIfInBounds p v) a.tmps, defers := [] } W)
    (hbody : ∀ (l : Nat) (pre : List Tx) (x : ByteArray) (W : World), I pre W → body.wpIn (Fence.wide.inRound l) 1 P (postT Kp I Ix (pre ++ [x.data.toList]) W) (a₁ x) W)
    (hdone : ∀ (D : Nat) (W : World), w.heap.size ≤ D → I L W → W.heap[D]? = some (.deferred (some [])) → Q .normal { a with defers := { target := .collected D, args := #[] } :: a.defers } W)
    (hstop : ∀ (D : Nat) (pre : List Tx) (W : World), w.heap.size ≤ D → pre <+: L → Ix pre W → W.heap[D]? = some (.deferred (some [])) → Code.ret.wpIn Fence.wide 3 P Q { a with defers := { target := .collected D, args := #[] } :: a.defers } W) :
    (Code.rangeFunc g ps assign body).wpIn Fence.wide 3 P Q a w := by
  refine wpIn_rangeFunc ?_
  intro fn _
  obtain ⟨rec, hrec⟩ : ∃ rec : LoopState → Option Code → Loop, rec = fun st pe => { state := st, pending := pe, fn, tmps := a.tmps, params := ps, assign, body, defers := w.heap.size } := ⟨_, rfl⟩
  obtain ⟨W1, hW1⟩ : ∃ W1, (w.alloc (.deferred (some []))).alloc (.loop (rec .ready none)) = W1 := ⟨_, rfl⟩
  have hL1 : W1.heap[w.heap.size + 1]? = some (.loop (rec .ready none)) := by
    rw [← hW1]; have := World.alloc_heap_new (w.alloc (.deferred (some []))) (.loop (rec .ready none)); rwa [World.size_alloc] at this
  have hK1 : W1.heap[w.heap.size]? = some (.deferred (some [])) := by
    rw [← hW1]; exact (Below.heap_alloc _ _ _ (by simp)).trans (World.alloc_heap_new w _)
  have hI1 : I [] W1 := by rw [← hW1]; exact hIa _ _ _ (hIa _ _ _ h0)
  have hb1 : Below w.heap.size w W1 := by rw [← hW1]; exact ((Below.refl _ w).alloc (Nat.le_refl _) _).alloc (by simp) _
  refine ⟨w.heap.size + 1, [{ target := .collected w.heap.size, args := #[] }], W1, { target := .fn (.func gf) lb, args := #[.func (.yield (w.heap.size + 1)) #[] #[]] }, W1, gf,
    #[.func (.yield (w.heap.size + 1)) #[] #[]] ++ lb, W1, ?_, ?_, fun _ _ => trivial, ?_, (fun h => by cases h), ?_⟩
  · rw [← hW1, hrec]; exact run_enterLoop_outer _ _ _ _ _
  · simp only [resolve, hg]
    simp [go_sem]
  · simp [invoke, go_sem, eg]
  · refine (hseq (w.heap.size + 1)
      (fun pre W => I pre W ∧ W.heap[w.heap.size + 1]? = some (.loop (rec .ready none)) ∧ W.heap[w.heap.size]? = some (.deferred (some [])))
      (fun pre W => Ix pre W ∧ W.heap[w.heap.size + 1]? = some (.loop (rec .done (some .ret))) ∧ W.heap[w.heap.size]? = some (.deferred (some [])))
      W1 hb1 (fun pre W t h => ⟨hIs _ _ _ h.1, (Below.heap_setCell W ⟨b, 0, none⟩ _ _ (by show w.heap.size + 1 ≠ b; omega)).trans h.2.1, (Below.heap_setCell W ⟨b, 0, none⟩ _ _ (by show w.heap.size ≠ b; omega)).trans h.2.2⟩)
      ?_ ⟨hI1, hL1, hK1⟩).mono ?_
    · rintro pre x W ⟨hi, hl, hk⟩
      have hlt : w.heap.size + 1 < W.heap.size := (Array.getElem?_eq_some_iff.1 hl).1
      have hy := run_yield (P := P) (args := #[.string x]) hl (by rw [hrec]; exact hps.symm)
      rw [hrec] at hy
      refine ⟨fn, _, assign, body, hy, roundIn_of_wpIn trivial (hassign _ x W _ ⟨_, run_beginRound hl (by rw [hrec]), ?_⟩)⟩
      have hl2 : (W.putObj (w.heap.size + 1) (.loop { rec .ready none with state := .busy })).heap[w.heap.size + 1]? = some (.loop { rec .ready none with state := .busy }) := World.putObj_heap_same hlt
      have hk2 : (W.putObj (w.heap.size + 1) (.loop { rec .ready none with state := .busy })).heap[w.heap.size]? = some (.deferred (some [])) := (World.putObj_heap_other (by omega)).trans hk
      have hw2 : Kp W (W.putObj (w.heap.size + 1) (.loop { rec .ready none with state := .busy })) := hKb _ _ _ (by omega)
      refine wpIn_mono (hbody _ pre x _ (hI _ _ _ _ (by omega) hi)) ?_
      have fin : ∀ (jump : Option Code) (W3 : World), KeepsOthers (W.putObj (w.heap.size + 1) (.loop { rec .ready none with state := .busy })) W3 →
          (Instr.endRound (w.heap.size + 1) jump).run P W3 = .ok (.bool jump.isNone) (W3.putObj (w.heap.size + 1) (.loop (rec (if jump.isNone then .ready else .done) jump))) ∧
          (W3.putObj (w.heap.size + 1) (.loop (rec (if jump.isNone then .ready else .done) jump))).heap[w.heap.size + 1]? = some (.loop (rec (if jump.isNone then .ready else .done) jump)) ∧
          (W3.putObj (w.heap.size + 1) (.loop (rec (if jump.isNone then .ready else .done) jump))).heap[w.heap.size]? = some (.deferred (some [])) := fun jump W3 hk3 => by
        have hl3 := hk3.same _ _ hl2 rfl
        have := run_endRound (P := P) jump hl3
        rw [hrec] at this ⊢
        exact ⟨this, World.putObj_heap_same (Array.getElem?_eq_some_iff.1 hl3).1, (World.putObj_heap_other (by omega)).trans (hk3.same _ _ hk2 rfl)⟩
      rintro e a3 W3 hp
      cases e with
      | normal =>
        obtain ⟨hk3, hkp3, hi3⟩ := hp
        obtain ⟨hr, hl4, hk4⟩ := fin none W3 hk3
        exact ⟨_, _, hr, .inl ⟨rfl, ⟨hI _ _ _ _ (by omega) hi3, hl4, hk4⟩, hKt (hKt hw2 hkp3) (hKb _ _ _ (by omega))⟩⟩
      | ret =>
        obtain ⟨hk3, hi3⟩ := hp
        obtain ⟨hr, hl4, hk4⟩ := fin (some .ret) W3 hk3
        exact ⟨_, _, hr, .inr ⟨rfl, hIx _ _ _ _ (by omega) hi3, hl4, hk4⟩⟩
      | exit id => exact hp.elim
      | goto t => exact hp.elim
      | panic ch => exact hp.elim
      | outgrown => exact hp.elim
    · rintro e W2 ⟨⟨v, rfl⟩, (⟨hi, hl, hk⟩ | ⟨pre, hpre, hi, hl, hk⟩)⟩
      · exact ⟨none, _, by have := run_endLoop (P := P) hl (by rw [hrec]; simp); rw [hrec] at this; exact this, hdone _ _ (Nat.le_refl _) (hI _ _ _ _ (by omega) hi) ((World.putObj_heap_other (by omega)).trans hk)⟩
      · exact ⟨some .ret, _, by have := run_endLoop (P := P) hl (by rw [hrec]; simp); rw [hrec] at this; exact this, hstop _ _ _ (Nat.le_refl _) hpre (hIx _ _ _ _ (by omega) hi) ((World.putObj_heap_other (by omega)).trans hk)⟩
end Go.Proofs.YtefamkckoikeoaaDoor
/- Contract: strings.SplitSeq at a slash: its iterator gives a text's names, one by one. Condition: the text is shorter than 2^62 bytes. -/
namespace Go.Proofs.YtefamkckoikeoaaDoor
open Go.RowKit Go.Shelf
attribute [local go_sem] Oper.semAt_some
/-- What the iterator keeps in its three boxes. -/
def Boxes (b : Nat) (W : World) (s : ByteArray) : Prop :=
  W.cell? ⟨b, 0, none⟩ = some (.string s) ∧ W.frozen? ⟨b, 0, none⟩ = false ∧ W.cell? ⟨b + 1, 0, none⟩ = some (.string ⟨#[47]⟩) ∧ W.cell? ⟨b + 2, 0, none⟩ = some (.int .i64 0)
/-- What a round keeps: the three boxes. -/
def KpB (b : Nat) (W W' : World) : Prop := ∀ s, Boxes b W s → Boxes b W' s
def leftB (b : Nat) (W : World) : Nat := match W.cell? ⟨b, 0, none⟩ with | some (.string t) => t.size | _ => 0
theorem Boxes.left {b : Nat} {W : World} {s : ByteArray} (h : Boxes b W s) : leftB b W = s.size := by unfold leftB; rw [h.1]
theorem Boxes.set {b : Nat} {W : World} {s : ByteArray} (h : Boxes b W s) (t : ByteArray) : Boxes b (W.setCell ⟨b, 0, none⟩ (.string t)) t := by
  obtain ⟨h1, h2, h3, h4⟩ := h
  refine ⟨World.cell?_setCell_same' _ _ _ (by rw [h1]; rfl), by rw [World.frozen?_setCell]; exact h2, ?_, ?_⟩
  · rw [World.cell?_of_block (Below.heap_setCell W ⟨b, 0, none⟩ _ (b + 1) (by show b + 1 ≠ b; omega))]; exact h3
  · rw [World.cell?_of_block (Below.heap_setCell W ⟨b, 0, none⟩ _ (b + 2) (by show b + 2 ≠ b; omega))]; exact h4
set_option maxRecDepth 100000 in
set_option maxHeartbeats 2000000 in
theorem split_in (l b : Nat) (J Jx : List Tx → World → Prop) (L : List Tx)
    (hJ : ∀ pre W1 t, J pre W1 → J pre (W1.setCell ⟨b, 0, none⟩ (.string t)))
    (hY : ∀ pre (x : ByteArray) W1, J pre W1 → YieldAt Fence.wide 1 Tryd.prog l #[.string x] W1 fun e W' =>
      (e = .returned (.bool true) ∧ J (pre ++ [x.data.toList]) W' ∧ KpB b W1 W') ∨ (e = .returned (.bool false) ∧ Jx (pre ++ [x.data.toList]) W'))
    (s : ByteArray) (hs : s.size < 9223372036854775808) (hL : L = nms s.data.toList) (W : World) (hB : Boxes b W s) (h0 : J [] W) :
    CallsIn Fence.wide 2 Tryd.prog 111 #[.func (.yield l) #[] #[], .pointer (some ⟨b + 1, 0, none⟩), .pointer (some ⟨b, 0, none⟩), .pointer (some ⟨b + 2, 0, none⟩)] W
      fun e W' => (∃ v, e = .returned v) ∧ (J L W' ∨ ∃ pre, pre <+: L ∧ Jx pre W') := by
  have HB := Lib.hid hB
  obtain ⟨c1, c2, c3, c4⟩ := hB
  refine callsIn_of_wp Tryd.func111 rfl trivial ?_ rfl
  simp only [Tryd.ntmps111, List.size_toArray, List.length_cons, List.length_nil, Nat.reduceAdd, Nat.reduceSub, Array.replicate_succ, Array.replicate_zero, List.push_toArray, List.append_toArray, List.nil_append, List.cons_append]
  gi_wp2
  gi_loopw [7, 8] (fun _ _ wr => ∃ (pre : List Tx) (t : ByteArray), L = pre ++ nms t.data.toList ∧ t.size < 9223372036854775808 ∧ Boxes b wr t ∧ J pre wr) (fun _ _ wr => leftB b wr)
  case atStart => exact ⟨[], s, by rw [hL]; rfl, hs, HB.out, h0⟩
  case round =>
    obtain ⟨pre, t, hx, ht, hB, hJs⟩ := hrel
    have HB := Lib.hid hB
    have HX := Lib.hid hx
    obtain ⟨c1, c2, c3, c4⟩ := hB
    rcases idx_cases t.data.toList with ⟨hi, hno⟩ | ⟨i, hil, hi, hcut, hno⟩
    · have H1 : ∀ w1, Calls Tryd.prog 113 #[.string t, .string ⟨#[47]⟩] w1 fun e w' => e = .returned (.int .i64 (-1)) ∧ w' = w1 := fun w1 => by rw [← hi]; exact index_any t w1
      have HN : L = pre ++ [t.data.toList] := by rw [hx, nms_plain hno]
      obtain ⟨fn, tmps, assign, body, hy, hR⟩ := hY pre t wr hJs
      clear hx hi hno
      gi_wp2_with (first | (refine ⟨trivial, ?_⟩; gi_at_call 113; refine (callsIn_wide.2 (H1 _)).mono ?_; rintro e w' ⟨rfl, rfl⟩))
      refine hR.mono ?_
      rintro e W3 (⟨rfl, hJ3, hk3⟩ | ⟨rfl, hJx3⟩)
      · gi_wp2
        go_end0
        exact ⟨⟨_, rfl⟩, .inl (by rw [HN]; exact hJ3)⟩
      · gi_wp2
        go_end0
        exact ⟨⟨_, rfl⟩, .inr ⟨_, by rw [HN]; exact List.prefix_refl _, hJx3⟩⟩
    · have H1 : ∀ w1, Calls Tryd.prog 113 #[.string t, .string ⟨#[47]⟩] w1 fun e w' => e = .returned (.int .i64 (i : Int)) ∧ w' = w1 := fun w1 => by rw [← hi]; exact index_any t w1
      have hts : t.data.toList.length = t.size := rfl
      have hn := nms_hit hcut hno
      obtain ⟨fn, tmps, assign, body, hy, hR⟩ := hY pre (t.extract 0 i) wr hJs
      have e1 : (t.extract 0 i).data.toList = t.data.toList.take i := by rw [Lib.extract_data]; simp
      have e2 : (t.extract (i + 1) t.size).data.toList = t.data.toList.drop (i + 1) := by rw [Lib.extract_data, List.take_of_length_le]; rw [List.length_drop, hts]; exact Nat.le_refl _
      have e3 : (t.extract (i + 1) t.size).size = t.size - (i + 1) := by rw [ByteArray.size_extract]; omega
      rw [e1] at hR
      have HN : L = (pre ++ [t.data.toList.take i]) ++ nms (t.extract (i + 1) t.size).data.toList := by rw [hx, hn, e2]; simp
      have k1 : IntKind.i64.wrap (i : Int) = (i : Int) := by rw [IntWalk.i64_in _ (by omega)]
      have k2 : IntKind.i64.wrap ((i : Int) + 1) = ((i + 1 : Nat) : Int) := by rw [IntWalk.i64_in _ (by omega)]; omega
      have k3 : ¬ (i : Int) < 0 := by omega
      clear hx hi hno hn hcut
      gi_wp2_with (first | (refine ⟨trivial, ?_⟩; gi_at_call 113; refine (callsIn_wide.2 (H1 _)).mono ?_; rintro e w' ⟨rfl, rfl⟩))
      refine hR.mono ?_
      rintro e W3 (⟨rfl, hJ3, hk3⟩ | ⟨rfl, hJx3⟩)
      · have HB3 := Lib.hid (hk3 _ HB.out)
        have HK := Lib.hid (hJ _ _ (t.extract (i + 1) t.size) hJ3)
        obtain ⟨d1, d2, d3, d4⟩ := HB3.out
        clear hJ3 hJs c1 c2 c3 c4 hk3
        gi_wp2
        go_roundw
        case rel => exact ⟨_, _, HN, by rw [e3]; omega, HB3.out.set _, HK.out⟩
        case measure => rw [(HB3.out.set _).left, HB.out.left, e3]; omega
      · have HN2 := Lib.hid HN
        clear HN
        gi_wp2
        refine bodyPost_ret (results_none rfl _ _ _) rfl ?_
        exact ⟨⟨_, rfl⟩, .inr ⟨_, ⟨_, HN2.out.symm⟩, hJx3⟩⟩
end Go.Proofs.YtefamkckoikeoaaDoor
/- Contracts: package path's goodByte, goodName. No condition. -/
namespace Go.Proofs.YtefamkckoikeoaaDoor
open Go.RowKit
set_option maxHeartbeats 400000 in
theorem goodByte_any (c : UInt8) (w : World) :
    Calls Tryd.prog 106 #[.int .u8 (c.toNat : Int)] w fun e w' => e = .returned (.bool (okByte c)) ∧ w' = w := by
  obtain ⟨n, hn⟩ : ∃ n : Nat, n = c.toNat := ⟨_, rfl⟩
  have e1 : (c == 46) = decide (n = 46) := by rw [hn, Bool.eq_iff_iff]; simp [← UInt8.toNat_inj]
  have e2 : (c == 45) = decide (n = 45) := by rw [hn, Bool.eq_iff_iff]; simp [← UInt8.toNat_inj]
  have e3 : (c == 95) = decide (n = 95) := by rw [hn, Bool.eq_iff_iff]; simp [← UInt8.toNat_inj]
  unfold okByte
  rw [e1, e2, e3, ← hn]
  clear e1 e2 e3 hn
  go_enter Tryd.func106, Tryd.ntmps106
  go_wp2_with fail
  all_goals go_ret
  all_goals refine ⟨?_, rfl⟩
  all_goals refine congrArg (fun b => Ending.returned (.bool b)) ?_
  all_goals rw [Bool.eq_iff_iff]
  all_goals simp only [Bool.or_eq_true, Bool.and_eq_true, decide_eq_true_eq, beq_iff_eq, true_iff]
  all_goals omega
set_option maxHeartbeats 1000000 in
theorem goodName_any (s : ByteArray) (w : World) :
    Calls Tryd.prog 92 #[.string s] w fun e w' => e = .returned (.bool (okName s.data.toList)) ∧ w' = w := by
  have hl : s.toList = s.data.toList := Lib.toList_data s
  obtain ⟨r, hr⟩ : ∃ r, okName s.data.toList = r := ⟨_, rfl⟩
  have HR := Lib.hid hr
  rw [hr]
  clear hr
  go_enter Tryd.func92, Tryd.ntmps92
  go_wp2_with fail
  all_goals first
    | (go_ret; refine ⟨congrArg (fun b => Ending.returned (.bool b)) ?_, rfl⟩; rw [← HR.out]; symm; apply okName_bad; simp_all; done)
    | skip
  have HG := Lib.hid ((okName_good s (by assumption) (by assumption) (by assumption) (by simp_all)).symm.trans HR.out)
  rename_i f1 f2 f3 f4 _ _
  have hs : s.size < 4611686018427387904 := by omega
  clear f1 f2 f3 f4 hl HR
  go_loop [3, 21] (fun _ vi => ∃ i : Nat, i ≤ s.size ∧ vi = .int .i64 i ∧ (s.data.toList.take i).all okByte = true) (fun _ vi => s.size - (intOf vi).toNat)
  case atStart => exact ⟨0, by omega, rfl, rfl⟩
  case round =>
    obtain ⟨i, hi, rfl, hall⟩ := hrel
    by_cases hlt : i < s.size
    · have hx := all_take_succ (byte_at s i hlt)
      rw [hall, Bool.true_and] at hx
      have HX := Lib.hid hx
      have H1 := Lib.hid (fun w1 => goodByte_any (s[i]'hlt) w1)
      clear hx hall
      cases hb : okByte (s[i]'hlt) with
      | true =>
        rw [hb] at H1 HX
        clear hb
        go_wp2_with (first | ((with_reducible refine (H1.out _).mono ?_); rintro e w1 ⟨rfl, rfl⟩))
        go_round
        case rel => exact ⟨i + 1, by omega, by go_num, HX.out⟩
        case measure => simp [intOf]; omega
      | false =>
        rw [hb] at H1 HX
        clear hb
        go_wp2_with (first | ((with_reducible refine (H1.out _).mono ?_); rintro e w1 ⟨rfl, rfl⟩))
        go_ret
        refine ⟨congrArg (fun b => Ending.returned (.bool b)) ?_, rfl⟩
        rw [← HG.out]
        have h1 := HX.out
        rw [← List.take_append_drop (i + 1) s.data.toList, List.all_append, h1, Bool.false_and]
    · have hil : i = s.size := by omega
      subst hil
      have e : s.data.toList.take s.size = s.data.toList := List.take_of_length_le (Nat.le_of_eq rfl)
      rw [e] at hall
      have HA := Lib.hid hall
      have k1 : ¬ (s.size : Int) < (s.size : Int) := by omega
      clear hlt hall e
      go_wp2_with fail
      go_ret
      exact ⟨congrArg (fun b => Ending.returned (.bool b)) (HA.out.symm.trans HG.out), rfl⟩
end Go.Proofs.YtefamkckoikeoaaDoor
/- Contract: package path's Good: whether a text may be a path. Condition: the text is shorter than 2^62 bytes. -/
namespace Go.Proofs.YtefamkckoikeoaaDoor
open Go.RowKit Go.Shelf
set_option maxHeartbeats 400000 in
theorem splitSeq_any (s : ByteArray) (w : World) :
    Calls Tryd.prog 105 #[.string s, .string ⟨#[47]⟩, .int .i64 0] w fun e w' => e = .returned (.func (.func 111) #[] #[.pointer (some ⟨w.heap.size + 1, 0, none⟩), .pointer (some ⟨w.heap.size, 0, none⟩), .pointer (some ⟨w.heap.size + 2, 0, none⟩)]) ∧
      w' = ((w.alloc (.cells #[.string s] 9)).alloc (.cells #[.string ⟨#[47]⟩] 9)).alloc (.cells #[.int .i64 0] 3) := by
  go_enter Tryd.func105, Tryd.ntmps105
  go_wp2_with fail
  go_ret
  exact ⟨by simp, rfl⟩
set_option maxHeartbeats 400000 in
theorem SplitSeq_any (s : ByteArray) (w : World) :
    Calls Tryd.prog 91 #[.string s, .string ⟨#[47]⟩] w fun e w' => e = .returned (.func (.func 111) #[] #[.pointer (some ⟨w.heap.size + 1, 0, none⟩), .pointer (some ⟨w.heap.size, 0, none⟩), .pointer (some ⟨w.heap.size + 2, 0, none⟩)]) ∧
      w' = ((w.alloc (.cells #[.string s] 9)).alloc (.cells #[.string ⟨#[47]⟩] 9)).alloc (.cells #[.int .i64 0] 3) := by
  have H1 := Lib.hid (fun w1 => splitSeq_any s w1)
  go_enter Tryd.func91, Tryd.ntmps91
  go_wp2_with (first | ((with_reducible refine (H1.out _).mono ?_); rintro e w1 ⟨rfl, rfl⟩))
  go_ret
  exact ⟨rfl, rfl⟩
attribute [local go_sem] Oper.semAt_some
theorem box_cell {W : World} {k : Nat} {v : Value} {t : TypeId} (h : W.heap[k]? = some (.cells #[v] t)) : W.cell? ⟨k, 0, none⟩ = some v ∧ W.frozen? ⟨k, 0, none⟩ = false := by
  unfold World.cell? World.frozen?; simp [h]
/-- What Good's own two boxes hold between two rounds. -/
def GI (B : Nat) (w : World) (pre : List Tx) (W : World) : Prop :=
  Below B w W ∧ B + 5 ≤ W.heap.size ∧ W.cell? ⟨B, 0, none⟩ = some (.bool false) ∧ W.frozen? ⟨B, 0, none⟩ = false ∧ W.cell? ⟨B + 1, 0, none⟩ = some (.int .i64 (pre.length : Int)) ∧ W.frozen? ⟨B + 1, 0, none⟩ = false ∧ pre.all okName = true ∧ pre.length ≤ 4
def GX (B : Nat) (w : World) (pre : List Tx) (W : World) : Prop :=
  Below B w W ∧ B + 5 ≤ W.heap.size ∧ W.cell? ⟨B, 0, none⟩ = some (.bool false) ∧ (4 < pre.length ∨ pre.all okName = false)
theorem put_cell {W : World} {l k : Nat} {o : Obj} (h : k ≠ l) : (W.putObj l o).cell? ⟨k, 0, none⟩ = W.cell? ⟨k, 0, none⟩ ∧ (W.putObj l o).frozen? ⟨k, 0, none⟩ = W.frozen? ⟨k, 0, none⟩ :=
  ⟨World.cell?_of_block (World.putObj_heap_other h), World.frozen?_of_block (World.putObj_heap_other h)⟩
theorem set_cell {W : World} {l k : Nat} {v : Value} (h : k ≠ l) : (W.setCell ⟨l, 0, none⟩ v).cell? ⟨k, 0, none⟩ = W.cell? ⟨k, 0, none⟩ ∧ (W.setCell ⟨l, 0, none⟩ v).frozen? ⟨k, 0, none⟩ = W.frozen? ⟨k, 0, none⟩ :=
  ⟨World.cell?_of_block (Below.heap_setCell W ⟨l, 0, none⟩ v k h), World.frozen?_of_block (Below.heap_setCell W ⟨l, 0, none⟩ v k h)⟩
theorem new_cell {W : World} {k : Nat} {o : Obj} (h : k < W.heap.size) : (W.alloc o).cell? ⟨k, 0, none⟩ = W.cell? ⟨k, 0, none⟩ ∧ (W.alloc o).frozen? ⟨k, 0, none⟩ = W.frozen? ⟨k, 0, none⟩ :=
  ⟨World.cell?_of_block (Below.heap_alloc W o k h), World.frozen?_of_block (Below.heap_alloc W o k h)⟩
theorem size_set (W : World) (a : Addr) (v : Value) : (W.setCell a v).heap.size = W.heap.size := by
  show (W.heap.modify _ _).size = _; rw [Array.size_modify]
theorem below_put {B : Nat} {w W : World} (h : Below B w W) (hw : B ≤ W.heap.size) {l : Nat} (hl : B ≤ l) (o : Obj) : Below B w (W.putObj l o) :=
  h.grown (grownBy_putObj' W l o) hw (fun k e => by cases e; exact hl)
theorem GI.put {B : Nat} {w : World} {pre : List Tx} {W : World} (h : GI B w pre W) {l : Nat} (hl : B + 5 ≤ l) (o : Obj) : GI B w pre (W.putObj l o) := by
  obtain ⟨h1, h2, h3, h4, h5, h6, h7⟩ := h
  have p0 := put_cell (W := W) (o := o) (show B ≠ l by omega)
  have p1 := put_cell (W := W) (o := o) (show B + 1 ≠ l by omega)
  exact ⟨below_put h1 (by omega) (by omega) o, by rw [World.putObj_size]; exact h2, p0.1.trans h3, p0.2.trans h4, p1.1.trans h5, p1.2.trans h6, h7⟩
theorem GX.put {B : Nat} {w : World} {pre : List Tx} {W : World} (h : GX B w pre W) {l : Nat} (hl : B + 5 ≤ l) (o : Obj) : GX B w pre (W.putObj l o) := by
  obtain ⟨h1, h2, h3, h7⟩ := h
  have p0 := put_cell (W := W) (o := o) (show B ≠ l by omega)
  exact ⟨below_put h1 (by omega) (by omega) o, by rw [World.putObj_size]; exact h2, p0.1.trans h3, h7⟩
theorem GI.new {B : Nat} {w : World} {pre : List Tx} {W : World} (h : GI B w pre W) (o : Obj) : GI B w pre (W.alloc o) := by
  obtain ⟨h1, h2, h3, h4, h5, h6, h7⟩ := h
  have p0 := new_cell (W := W) (o := o) (show B < W.heap.size by omega)
  have p1 := new_cell (W := W) (o := o) (show B + 1 < W.heap.size by omega)
  exact ⟨h1.alloc (by omega) o, by rw [World.size_alloc]; omega, p0.1.trans h3, p0.2.trans h4, p1.1.trans h5, p1.2.trans h6, h7⟩
theorem GI.set {B : Nat} {w : World} {pre : List Tx} {W : World} (h : GI B w pre W) (t : ByteArray) : GI B w pre (W.setCell ⟨B + 2, 0, none⟩ (.string t)) := by
  obtain ⟨h1, h2, h3, h4, h5, h6, h7⟩ := h
  have p0 := set_cell (W := W) (v := .string t) (show B ≠ B + 2 by omega)
  have p1 := set_cell (W := W) (v := .string t) (show B + 1 ≠ B + 2 by omega)
  exact ⟨h1.setCell (p := ⟨B + 2, 0, none⟩) (by show B ≤ B + 2; omega) _, by rw [size_set]; exact h2, p0.1.trans h3, p0.2.trans h4, p1.1.trans h5, p1.2.trans h6, h7⟩
theorem KpB.put {B l : Nat} (W : World) (hl : B + 5 ≤ l) (o : Obj) : KpB (B + 2) W (W.putObj l o) := fun s h => by
  obtain ⟨h1, h2, h3, h4⟩ := h
  exact ⟨(put_cell (show B + 2 ≠ l by omega)).1.trans h1, (put_cell (show B + 2 ≠ l by omega)).2.trans h2, (put_cell (show B + 2 + 1 ≠ l by omega)).1.trans h3, (put_cell (show B + 2 + 2 ≠ l by omega)).1.trans h4⟩
theorem Boxes.below {b : Nat} {w W : World} {s : ByteArray} (h : Boxes b w s) (hB : Below w.heap.size w W) (hb : b + 2 < w.heap.size) : Boxes b W s := by
  obtain ⟨h1, h2, h3, h4⟩ := h
  exact ⟨(hB.cell (p := ⟨b, 0, none⟩) (by show b < _; omega)).trans h1, (hB.frozen (p := ⟨b, 0, none⟩) (by show b < _; omega)).trans h2, (hB.cell (p := ⟨b + 1, 0, none⟩) (by show b + 1 < _; omega)).trans h3, (hB.cell (p := ⟨b + 2, 0, none⟩) (by show b + 2 < _; omega)).trans h4⟩
theorem ok_of_all {s : ByteArray} (h1 : (nms s.data.toList).all okName = true) (h2 : (nms s.data.toList).length ≤ 4) : okPath s.data.toList = true := by
  unfold okPath; rw [h1, decide_eq_true h2]; rfl
theorem not_ok_of {s : ByteArray} {pre : List Tx} (hp : pre <+: nms s.data.toList) (h : 4 < pre.length ∨ pre.all okName = false) : okPath s.data.toList = false := by
  obtain ⟨t, ht⟩ := hp
  unfold okPath
  rw [← ht]
  rcases h with h | h
  · rw [decide_eq_false (by rw [List.length_append]; omega)]; rfl
  · rw [List.all_append, h]; simp
set_option maxRecDepth 100000 in
set_option maxHeartbeats 2000000 in
theorem good_any (s : ByteArray) (hs : s.size < 9223372036854775808) (w : World) :
    Calls Tryd.prog 72 #[.string s] w fun e w' => e = .returned (.bool (okPath s.data.toList)) ∧ Below w.heap.size w w' := by
  obtain ⟨r, hr⟩ : ∃ r, okPath s.data.toList = r := ⟨_, rfl⟩
  have HR := Lib.hid hr
  rw [hr]
  clear hr
  refine (callsIn_wide (n := 3)).1 ?_
  refine callsIn_of_wp_marks Tryd.func72 rfl trivial ?_ rfl
  simp only [Tryd.ntmps72, List.size_toArray, List.length_cons, List.length_nil, Nat.reduceAdd, Nat.reduceSub, Array.replicate_succ, Array.replicate_zero, List.push_toArray, List.append_toArray, List.nil_append, List.cons_append]
  gi_wp2_with (first | (refine ⟨trivial, ?_⟩; gi_at_call 91; refine (callsIn_wide.2 (SplitSeq_any _ _)).mono ?_; rintro e w' ⟨rfl, rfl⟩))
  obtain ⟨B, hB⟩ : ∃ B, w.heap.size = B := ⟨_, rfl⟩
  obtain ⟨W0, hW0⟩ : ∃ W0, ((((w.alloc (.cells #[.bool false] 4)).alloc (.cells #[.int .i64 0] 3)).alloc (.cells #[.string s] 9)).alloc (.cells #[.string ⟨#[47]⟩] 9)).alloc (.cells #[.int .i64 0] 3) = W0 := ⟨_, rfl⟩
  have z0 : W0.heap.size = B + 5 := by rw [← hW0, ← hB]; simp
  have hblk : ∀ k : Nat, W0.heap[k]? = ((((((w.heap.push (.cells #[.bool false] 4)).push (.cells #[.int .i64 0] 3)).push (.cells #[.string s] 9)).push (.cells #[.string ⟨#[47]⟩] 9)).push (.cells #[.int .i64 0] 3)))[k]? := fun k => by rw [← hW0]; rfl
  have b0 : W0.heap[B]? = some (.cells #[.bool false] 4) := by rw [hblk, ← hB]; simp only [Array.getElem?_push, Array.size_push]; (repeat' split) <;> first | rfl | omega | exact absurd trivial ‹¬ True›
  have b1 : W0.heap[B + 1]? = some (.cells #[.int .i64 0] 3) := by rw [hblk, ← hB]; simp only [Array.getElem?_push, Array.size_push]; (repeat' split) <;> first | rfl | omega | exact absurd trivial ‹¬ True›
  have b2 : W0.heap[B + 2]? = some (.cells #[.string s] 9) := by rw [hblk, ← hB]; simp only [Array.getElem?_push, Array.size_push]; (repeat' split) <;> first | rfl | omega | exact absurd trivial ‹¬ True›
  have b3 : W0.heap[B + 2 + 1]? = some (.cells #[.string ⟨#[47]⟩] 9) := by rw [hblk, ← hB]; simp only [Array.getElem?_push, Array.size_push]; (repeat' split) <;> first | rfl | omega | exact absurd trivial ‹¬ True›
  have b4 : W0.heap[B + 2 + 2]? = some (.cells #[.int .i64 0] 3) := by rw [hblk, ← hB]; simp only [Array.getElem?_push, Array.size_push]; (repeat' split) <;> first | rfl | omega | exact absurd trivial ‹¬ True›
  have hX : Boxes (B + 2) W0 s := ⟨(box_cell b2).1, (box_cell b2).2, (box_cell b3).1, (box_cell b4).1⟩
  have hbl : Below B w W0 := by
    rw [← hW0, ← hB]
    exact ((((((Below.refl _ w).alloc (Nat.le_refl _) _).alloc (by simp) _).alloc (by simp; omega) _).alloc (by simp; omega) _).alloc (by simp; omega) _)
  rw [hW0, hB]
  have HW := Lib.hid hW0
  have HB := Lib.hid hB
  clear hblk hW0 hB
  have e3 : B + 1 + 1 = B + 2 := rfl
  have e4 : B + 2 + 1 = B + 2 + 1 := rfl
  refine range_law (gf := 111) (lb := #[.pointer (some ⟨B + 2 + 1, 0, none⟩), .pointer (some ⟨B + 2, 0, none⟩), .pointer (some ⟨B + 2 + 2, 0, none⟩)]) rfl (enters_of Tryd.func111 (by kernel_rfl) rfl)
    (B + 2) (by omega) rfl (nms s.data.toList) (Kp := KpB (B + 2)) (fun h k t ht => k t (h t ht)) (fun W l o hl => KpB.put W (by omega) o)
    (fun l J Jx W hW hJ hY h0 => split_in l (B + 2) J Jx _ hJ hY s hs rfl W (hX.below hW (by omega)) h0)
    (GI B w) (GX B w) (fun _ _ _ o hl h => h.put (by omega) o) (fun _ _ _ o hl h => h.put (by omega) o) (fun _ _ o h => h.new o) (fun _ _ t h => h.set t)
    ⟨hbl, by omega, (box_cell b0).1, (box_cell b0).2, (box_cell b1).1, (box_cell b1).2, rfl, by decide⟩
    (fun x => { tmps := #[.string s, undef, .pointer (some ⟨B, 0, none⟩), .pointer (some ⟨B + 1, 0, none⟩), .string x, .string s, .func (.func 111) #[] #[.pointer (some ⟨B + 2 + 1, 0, none⟩), .pointer (some ⟨B + 2, 0, none⟩), .pointer (some ⟨B + 2 + 2, 0, none⟩)], .string x, undef, undef, undef, undef, undef, undef, undef, undef, undef], defers := [] }) ?assign ?body ?done ?stop
  case assign =>
    intro l x W K hK
    gi_wp2
    exact hK
  case body =>
    rintro l pre x W hGI
    have HGI := Lib.hid hGI
    obtain ⟨q1, q2, q3, q4, q5, q6, q7, q8⟩ := hGI
    have p0 : ∀ v : Value, ((W.setCell ⟨B + 1, 0, none⟩ v).cell? ⟨B, 0, none⟩ = some (.bool false)) ∧ (W.setCell ⟨B + 1, 0, none⟩ v).frozen? ⟨B, 0, none⟩ = false := fun v => by
      obtain ⟨a, b⟩ := set_cell (W := W) (v := v) (show B ≠ B + 1 by omega)
      exact ⟨a.trans q3, b.trans q4⟩
    have p1 : ∀ v : Value, ((W.setCell ⟨B + 1, 0, none⟩ v).cell? ⟨B + 1, 0, none⟩ = some v) ∧ (W.setCell ⟨B + 1, 0, none⟩ v).frozen? ⟨B + 1, 0, none⟩ = false := fun v =>
      ⟨World.cell?_setCell_same' _ _ _ (by rw [q5]; rfl), by rw [World.frozen?_setCell]; exact q6⟩
    have pB : ∀ v : Value, Below B w (W.setCell ⟨B + 1, 0, none⟩ v) := fun v => q1.setCell (p := ⟨B + 1, 0, none⟩) (by show B ≤ B + 1; omega) _
    have pS : ∀ v : Value, B + 5 ≤ (W.setCell ⟨B + 1, 0, none⟩ v).heap.size := fun v => by rw [size_set]; exact q2
    have PS := Lib.hid pS
    have PB := Lib.hid pB
    have P0 := Lib.hid p0
    have P1 := Lib.hid p1
    have kw : IntKind.i64.wrap ((pre.length : Int) + 1) = (pre.length : Int) + 1 := by rw [IntWalk.i64_in _ (by omega)]
    obtain ⟨pa, pb⟩ := p0 (.int .i64 ((pre.length : Int) + 1))
    obtain ⟨pc, pd⟩ := p1 (.int .i64 ((pre.length : Int) + 1))
    have hkp : ∀ v : Value, KpB (B + 2) W (W.setCell ⟨B + 1, 0, none⟩ v) := fun v k hk => by
      obtain ⟨h1, h2, h3, h4⟩ := hk
      exact ⟨(set_cell (show B + 2 ≠ B + 1 by omega)).1.trans h1, (set_cell (show B + 2 ≠ B + 1 by omega)).2.trans h2, (set_cell (show B + 2 + 1 ≠ B + 1 by omega)).1.trans h3, (set_cell (show B + 2 + 2 ≠ B + 1 by omega)).1.trans h4⟩
    have HK := Lib.hid hkp
    clear hkp
    have H1 := Lib.hid (fun w1 => goodName_any x w1)
    have HA := Lib.hid q7
    clear p0 p1 pB pS q7
    have hl1 : ∀ y : Tx, (pre ++ [y]).length = pre.length + 1 := fun y => by simp
    have HL := Lib.hid hl1
    clear hl1
    by_cases h4 : 4 < pre.length + 1
    · have k4 : (4 : Int) < (pre.length : Int) + 1 := by omega
      gi_wp2_with (refine ⟨trivial, ?_⟩)
      refine ⟨(KeepsOthers.setCell _ _ _).trans (KeepsOthers.setCell _ _ _), ?_⟩
      exact ⟨(PB.out _).setCell (p := ⟨B, 0, none⟩) (Nat.le_refl _) _, by rw [size_set]; exact PS.out _, World.cell?_setCell_same' _ _ _ (by rw [pa]; rfl), .inl (by rw [HL.out]; exact h4)⟩
    · have k4 : ¬ (4 : Int) < (pre.length : Int) + 1 := by omega
      cases hb : okName x.data.toList with
      | true =>
        rw [hb] at H1
        have HB := Lib.hid hb
        clear hb
        gi_wp2_with (first | (refine ⟨trivial, ?_⟩; gi_at_call 92; refine (CallsIn.inRound l (callsIn_wide.2 (H1.out _))).mono ?_; rintro e w' ⟨rfl, rfl⟩))
        exact ⟨KeepsOthers.setCell _ _ _, HK.out _, PB.out _, PS.out _, pa, pb, by rw [HL.out]; simpa using pc, pd, by rw [List.all_append, HA.out]; simp [HB.out], by rw [HL.out]; omega⟩
      | false =>
        rw [hb] at H1
        have HB := Lib.hid hb
        clear hb
        gi_wp2_with (first | (refine ⟨trivial, ?_⟩; gi_at_call 92; refine (CallsIn.inRound l (callsIn_wide.2 (H1.out _))).mono ?_; rintro e w' ⟨rfl, rfl⟩))
        refine ⟨(KeepsOthers.setCell _ _ _).trans (KeepsOthers.setCell _ _ _), ?_⟩
        exact ⟨(PB.out _).setCell (p := ⟨B, 0, none⟩) (Nat.le_refl _) _, by rw [size_set]; exact PS.out _, World.cell?_setCell_same' _ _ _ (by rw [pa]; rfl), .inr (by rw [List.all_append]; simp [HB.out])⟩
  case done =>
    rintro D W hD ⟨q1, q2, q3, q4, q5, q6, q7, q8⟩ hK
    have hr : r = true := HR.out.symm.trans (ok_of_all q7 q8)
    subst hr
    have HQ := Lib.hid q1
    have HK := Lib.hid hK
    clear q1 q5 q6 q7 q8
    gi_wp2
    have hK' := (KeepsOthers.setCell W ⟨B, 0, none⟩ (.bool true)).same D _ HK.out rfl
    have c5 := (put_cell (W := W.setCell ⟨B, 0, none⟩ (.bool true)) (o := .deferred none) (show B ≠ D by omega)).1.trans (World.cell?_setCell_same' W ⟨B, 0, none⟩ (.bool true) (by rw [q3]; rfl))
    refine ⟨by simp, .inl ⟨_, _, rfl, run_takeDeferred hK', ?_⟩⟩
    refine ⟨.bool true, ?_, rfl, ?_⟩
    · simp [results, Tryd.f72, go_sem, c5]
    · rw [HB.out]
      exact below_put (HQ.out.setCell (p := ⟨B, 0, none⟩) (Nat.le_refl _) _) (by rw [size_set]; omega) (by omega) _
  case stop =>
    rintro D pre W hD hp ⟨q1, q2, q3, q4⟩ hK
    have hr : r = false := HR.out.symm.trans (not_ok_of hp q4)
    subst hr
    have HQ := Lib.hid q1
    clear q1 q4
    gi_wp2
    have c5 := (put_cell (W := W) (o := .deferred none) (show B ≠ D by omega)).1.trans q3
    refine ⟨by simp, .inl ⟨_, _, rfl, run_takeDeferred hK, ?_⟩⟩
    refine ⟨.bool false, ?_, rfl, ?_⟩
    · simp [results, Tryd.f72, go_sem, c5]
    · rw [HB.out]
      exact below_put HQ.out (by omega) (by omega) _
end Go.Proofs.YtefamkckoikeoaaDoor
/- Contracts: package tree's size, fits, goodEntry. Condition: all bytes together at most 2^62. -/
namespace Go.Proofs.YtefamkckoikeoaaDoor
open Go.RowKit
set_option maxHeartbeats 4000000 in
set_option maxRecDepth 100000 in
theorem tsize_any (C : List Ent) (q : Option Addr) (c : Nat) (hm : C.length ≤ 100000) (hb : bytesT C ≤ 4611686018427387904) (w : World) (hs : Sees w w.heap.size q (rowC C)) (hE : Ents w C) :
    Calls Tryd.prog 57 #[.slice q C.length c] w fun e w' => e = .returned (.int .i64 (bytesT C : Int)) ∧ Below w.heap.size w w' := by
  have HS := Lib.hid hs
  have HE := Lib.hid hE
  clear hs hE
  go_enter Tryd.func57, Tryd.ntmps57
  go_wp2_with fail
  go_loopw [3, 5, 8] (fun vn _ vi wr => ∃ i : Nat, i ≤ C.length ∧ vi = .int .i64 i ∧ vn = .int .i64 (bytesT (C.take i) : Int) ∧ Below w.heap.size w wr) (fun _ _ vi _ => C.length - (intOf vi).toNat)
  case atStart => exact ⟨0, by omega, rfl, rfl, Below.refl _ _⟩
  case round =>
    rename_i wr
    obtain ⟨i, hi, rfl, rfl, hB⟩ := hrel
    have HB := Lib.hid hB
    clear hB
    by_cases hlt : i < C.length
    · obtain ⟨a, rfl, ha, hc⟩ := HS.out.ent hlt
      obtain ⟨c1, c2, c3⟩ := hc wr HB.out
      obtain ⟨qb, cb, hv, _, _, _⟩ := HE.out C[i] (List.getElem_mem hlt)
      have kk : (i : Int) < (C.length : Int) := by omega
      have hadd := bytesT_add C i hlt
      have htot := bytesT_take C (i + 1)
      obtain ⟨e, he⟩ : ∃ e, C[i] = e := ⟨_, rfl⟩
      rw [he] at c1 c2 c3 hv hadd
      obtain ⟨x, d, bv, bb⟩ := e
      have hv' : bv = .slice qb (List.length bb) cb := hv
      subst hv'
      simp only [] at c1 c2 c3
      have hbb : Ent.by (x, d, Value.slice qb (List.length bb) cb, bb) = bb := rfl
      rw [hbb] at hadd
      clear hc ha he hv hbb
      obtain ⟨s0, hs0⟩ : ∃ s0, bytesT (C.take i) = s0 := ⟨_, rfl⟩
      obtain ⟨s1, hs1⟩ : ∃ s1, bytesT (C.take (i + 1)) = s1 := ⟨_, rfl⟩
      rw [hs0] at hadd ⊢
      rw [hs1] at hadd htot
      have kw : IntKind.i64.wrap ((s0 : Int) + (bb.length : Int)) = (s1 : Int) := by rw [IntWalk.i64_in _ (by omega)]; omega
      have HS1 := Lib.hid hs1
      clear hs0 hs1 hadd htot
      go_wp2_with fail
      go_roundw
      case rel => exact ⟨i + 1, by omega, by go_num, by rw [HS1.out], HB.out.alloc HB.out.size _⟩
      case measure => simp [intOf]; omega
    · have hil : i = C.length := by omega
      subst hil
      have k0 : ¬ (C.length : Int) < (C.length : Int) := by omega
      rw [List.take_length]
      clear hlt
      go_wp2_with fail
      go_ret
      exact ⟨rfl, HB.out⟩
def fitsT (C : List Ent) : Bool := decide (C.length ≤ 40) && decide (bytesT C ≤ 16384)
set_option maxHeartbeats 4000000 in
theorem tfits_any (C : List Ent) (q : Option Addr) (c : Nat) (hm : C.length ≤ 100000) (hb : bytesT C ≤ 4611686018427387904) (w : World) (hs : Sees w w.heap.size q (rowC C)) (hE : Ents w C) :
    Calls Tryd.prog 69 #[.slice q C.length c] w fun e w' => e = .returned (.bool (fitsT C)) ∧ Below w.heap.size w w' := by
  have HSZ := Lib.hid (fun w1 h1 h2 => tsize_any C q c hm hb w1 h1 h2)
  have HS := Lib.hid hs
  have HE := Lib.hid hE
  clear hs hE
  unfold fitsT
  by_cases h1 : C.length ≤ 40
  · have k1 : (C.length : Int) ≤ 40 := by omega
    rw [decide_eq_true h1, Bool.true_and]
    by_cases h2 : bytesT C ≤ 16384
    · have k2 : (bytesT C : Int) ≤ 16384 := by omega
      rw [decide_eq_true h2]
      go_enter Tryd.func69, Tryd.ntmps69
      go_wp2_with (first | ((with_reducible refine (HSZ.out _ HS.out HE.out).mono ?_); rintro e w1 ⟨rfl, hb1⟩; have HB := Lib.hid hb1; clear hb1))
      go_ret
      exact ⟨rfl, HB.out⟩
    · have k2 : ((bytesT C : Int) ≤ 16384) = False := eq_false (by omega)
      rw [decide_eq_false h2]
      go_enter Tryd.func69, Tryd.ntmps69
      go_wp2_with (first | ((with_reducible refine (HSZ.out _ HS.out HE.out).mono ?_); rintro e w1 ⟨rfl, hb1⟩; have HB := Lib.hid hb1; clear hb1))
      go_ret
      exact ⟨rfl, HB.out⟩
  · have k1 : ¬ (C.length : Int) ≤ 40 := by omega
    rw [decide_eq_false h1, Bool.false_and]
    go_enter Tryd.func69, Tryd.ntmps69
    go_wp2_with fail
    go_ret
    exact ⟨rfl, Below.refl _ _⟩
/-- A block that was made stands behind what the calls since have laid. -/
theorem boxed {w w1 : World} {t : TypeId} {cs : Array Value} (hb : Below (w.alloc (.cells cs t)).heap.size (w.alloc (.cells cs t)) w1) : Has w1 w.heap.size t cs.toList :=
  (Has.made w t cs).keep hb (by simp)
/-- Whether an entry may be, wherever it is. -/
def okEnt (e : Ent) : Bool := !(e.dir && decide (0 < e.by.length)) && (okPath e.pa && decide (e.by.length ≤ 2048))
set_option maxHeartbeats 4000000 in
theorem tgoodEntry_any (x : ByteArray) (d : Bool) (qb : Option Addr) (cb : Nat) (bb : List (BitVec 8)) (hx : x.size < 9223372036854775808) (w : World) :
    Calls Tryd.prog 70 #[.agg #[.string x, .bool d, .slice qb bb.length cb]] w fun e w' => e = .returned (.bool (okEnt (x, d, .slice qb bb.length cb, bb))) ∧ Below w.heap.size w w' := by
  have HG := Lib.hid (fun w1 => good_any x hx w1)
  have hpa : okEnt (x, d, .slice qb bb.length cb, bb) = (!(d && decide (0 < bb.length)) && (okPath x.data.toList && decide (bb.length ≤ 2048))) := rfl
  rw [hpa]
  clear hpa
  generalize okPath x.data.toList = G at *
  by_cases h0 : d = true ∧ 0 < bb.length
  · obtain ⟨rfl, h0⟩ := h0
    have k0 : (0 : Int) < (bb.length : Int) := by omega
    rw [decide_eq_true h0]
    go_enter Tryd.func70, Tryd.ntmps70
    go_wp2_with fail
    go_ret
    exact ⟨rfl, (Below.refl _ _).alloc (Nat.le_refl _) _⟩
  · have hd : (d && decide (0 < bb.length)) = false := by
      cases d with
      | false => rfl
      | true => rw [decide_eq_false (fun h => h0 ⟨rfl, h⟩)]; rfl
    rw [hd]
    by_cases h2 : bb.length ≤ 2048
    · have k2 : (bb.length : Int) ≤ 2048 := by omega
      rw [decide_eq_true h2]
      cases d with
      | false =>
        cases G <;>
        · go_enter Tryd.func70, Tryd.ntmps70
          go_wp2_with (first | ((with_reducible refine (HG.out _).mono ?_); rintro e w1 ⟨rfl, hb1⟩; have q2 := (boxed hb1).cellv (i := 2) (v := .slice qb bb.length cb) rfl; have HB := Lib.hid (((Below.refl _ w).alloc (Nat.le_refl _) _).trans (hb1.mono (by simp))); clear hb1))
          go_ret
          exact ⟨rfl, HB.out⟩
      | true =>
        have k3 : ¬ (0 : Int) < (bb.length : Int) := fun h => h0 ⟨rfl, by omega⟩
        cases G <;>
        · go_enter Tryd.func70, Tryd.ntmps70
          go_wp2_with (first | ((with_reducible refine (HG.out _).mono ?_); rintro e w1 ⟨rfl, hb1⟩; have q2 := (boxed hb1).cellv (i := 2) (v := .slice qb bb.length cb) rfl; have HB := Lib.hid (((Below.refl _ w).alloc (Nat.le_refl _) _).trans (hb1.mono (by simp))); clear hb1))
          go_ret
          exact ⟨rfl, HB.out⟩
    · have k2 : ((bb.length : Int) ≤ 2048) = False := eq_false (by omega)
      rw [decide_eq_false h2]
      cases d with
      | false =>
        cases G <;>
        · go_enter Tryd.func70, Tryd.ntmps70
          go_wp2_with (first | ((with_reducible refine (HG.out _).mono ?_); rintro e w1 ⟨rfl, hb1⟩; have q2 := (boxed hb1).cellv (i := 2) (v := .slice qb bb.length cb) rfl; have HB := Lib.hid (((Below.refl _ w).alloc (Nat.le_refl _) _).trans (hb1.mono (by simp))); clear hb1))
          go_ret
          exact ⟨rfl, HB.out⟩
      | true => exact absurd ⟨rfl, by omega⟩ h0
end Go.Proofs.YtefamkckoikeoaaDoor
/- Contract: package path's Cmp. Condition: texts shorter than 2^63 bytes. -/
namespace Go.Proofs.YtefamkckoikeoaaDoor
open Go.RowKit Go.Shelf
set_option maxHeartbeats 400000 in
theorem rank_any (c : UInt8) (w : World) :
    Calls Tryd.prog 94 #[.int .u8 (c.toNat : Int)] w fun e w' => e = .returned (.int .i64 (rankB c)) ∧ w' = w := by
  have hl : c.toNat < 256 := UInt8.toNat_lt c
  unfold rankB
  by_cases h : c = 47
  · rw [if_pos h, h]
    go_enter Tryd.func94, Tryd.ntmps94
    go_wp2_with fail
    go_ret
    exact ⟨rfl, rfl⟩
  · rw [if_neg h]
    have k1 : ¬ (c.toNat : Int) = 47 := fun e => h (UInt8.toNat_inj.1 (by show c.toNat = 47; omega))
    have kw : IntKind.i64.wrap (c.toNat : Int) = (c.toNat : Int) := by rw [IntWalk.i64_in _ (by omega)]
    generalize c.toNat = n at *
    clear h hl
    go_enter Tryd.func94, Tryd.ntmps94
    go_wp2_with fail
    go_ret
    exact ⟨rfl, rfl⟩
theorem drop_at (s : ByteArray) (i : Nat) (h : i < s.size) : s.data.toList.drop i = (s[i]'h) :: s.data.toList.drop (i + 1) := by
  have e := byte_at s i h
  obtain ⟨h1, h2⟩ := List.getElem?_eq_some_iff.1 e
  rw [List.drop_eq_getElem_cons h1, h2]
theorem drop_end (s : ByteArray) : s.data.toList.drop s.size = [] := List.drop_of_length_le (Nat.le_of_eq rfl)
theorem cmpL_drop (x y : List UInt8) : cmpL x y = Lib.compareInt x.length y.length ∨ (x ≠ [] ∧ y ≠ []) := by
  cases x <;> cases y
  · left; rfl
  · left; symm; exact cmpI_lt (by simp)
  · left; symm; exact cmpI_gt (by simp)
  · right; simp
set_option maxHeartbeats 4000000 in
set_option maxRecDepth 100000 in
theorem cmp_any (a b : ByteArray) (ha : a.size < 9223372036854775808) (hb : b.size < 9223372036854775808) (w : World) :
    Calls Tryd.prog 75 #[.string a, .string b] w fun e w' => e = .returned (.int .i64 (cmpL a.data.toList b.data.toList)) ∧ ∃ q, w' = w.drewN q := by
  obtain ⟨V, hV⟩ : ∃ V, cmpL a.data.toList b.data.toList = V := ⟨_, rfl⟩
  have HV := Lib.hid hV
  rw [hV]
  clear hV
  go_enter Tryd.func75, Tryd.ntmps75
  go_wp2_with fail
  go_loopw [5, 11] (fun _ vi wr => ∃ i q : Nat, i ≤ min a.size b.size ∧ vi = .int .i64 i ∧ cmpL (a.data.toList.drop i) (b.data.toList.drop i) = V ∧ wr = w.drewN q) (fun _ vi _ => min a.size b.size - (intOf vi).toNat)
  case atStart => exact ⟨0, 0, by omega, rfl, HV.out, rfl⟩
  case round =>
    obtain ⟨i, q, hi, rfl, hv, rfl⟩ := hrel
    by_cases hlt : i < min a.size b.size
    · have ia : i < a.size := by omega
      have ib : i < b.size := by omega
      rw [drop_at a i ia, drop_at b i ib, cmpL] at hv
      have HVV := Lib.hid hv
      have HR1 := Lib.hid (fun w1 => rank_any (a[i]'ia) w1)
      have HR2 := Lib.hid (fun w1 => rank_any (b[i]'ib) w1)
      have k1 : (i : Int) < (a.size : Int) := by omega
      have k2 : (i : Int) < (b.size : Int) := by omega
      have k3 : (0 : Int) ≤ (i : Int) := by omega
      clear hv
      have kd : a[i]'ia = b[i]'ib ∨ ¬ ((a[i]'ia).toNat : Int) = ((b[i]'ib).toNat : Int) := by
        by_cases h : a[i]'ia = b[i]'ib
        · exact .inl h
        · exact .inr (fun e => h (UInt8.toNat_inj.1 (by omega)))
      have HD := Lib.hid kd
      clear kd
      go_wp2_with fail
      refine wp_region_org [(0, true), (1, true), (2, true), (3, true), (4, true), (5, true), (6, true)] (by kernel_rfl) (by kernel_rfl) (by kernel_rfl) ?_
      have e1 : (w.drewN q).drew = w.drewN (q + 1) := rfl
      rw [e1]
      clear e1
      simp only [pickOrs, List.getElem?_cons_zero, List.getElem?_cons_succ]
      refine org_pure (v := ?_) (by kernel_rfl) ?_ ?_
      rotate_left
      · intro w' hv; clear hv; go_simp; try with_reducible rfl
      try simp only [Act.put, List.setIfInBounds_toArray, List.set_cons_zero, List.set_cons_succ]
      refine org_pure (v := ?_) (by kernel_rfl) ?_ ?_
      rotate_left
      · intro w' hv; clear hv; go_simp; try with_reducible rfl
      try simp only [Act.put, List.setIfInBounds_toArray, List.set_cons_zero, List.set_cons_succ]
      refine org_pure (v := ?_) (by kernel_rfl) ?_ ?_
      rotate_left
      · intro w' hv; clear hv; go_simp; try with_reducible rfl
      try simp only [Act.put, List.setIfInBounds_toArray, List.set_cons_zero, List.set_cons_succ]
      refine org_pure (v := ?_) (by kernel_rfl) ?_ ?_
      rotate_left
      · intro w' hv; clear hv; go_simp; try with_reducible rfl
      try simp only [Act.put, List.setIfInBounds_toArray, List.set_cons_zero, List.set_cons_succ]
      refine org_pure (v := ?_) (by kernel_rfl) ?_ ?_
      rotate_left
      · intro w' hv; clear hv; go_simp; try with_reducible rfl
      try simp only [Act.put, List.setIfInBounds_toArray, List.set_cons_zero, List.set_cons_succ]
      refine org_pure (v := ?_) (by kernel_rfl) ?_ ?_
      rotate_left
      · intro w' hv; clear hv; go_simp; try with_reducible rfl
      try simp only [Act.put, List.setIfInBounds_toArray, List.set_cons_zero, List.set_cons_succ]
      refine org_pure (v := ?_) (by kernel_rfl) ?_ ?_
      rotate_left
      · intro w' hv; clear hv; go_simp; try with_reducible rfl
      try simp only [Act.put, List.setIfInBounds_toArray, List.set_cons_zero, List.set_cons_succ]
      refine org_nil ?_
      rcases HD.out with h | h
      · have hvv := HVV.out
        rw [if_pos h] at hvv
        have HV2 := Lib.hid hvv
        rw [h]
        clear hvv
        go_wp2_with fail
        go_roundw
        case rel => exact ⟨i + 1, q + 1, by omega, by go_num, HV2.out, rfl⟩
        case measure => simp [intOf]; omega
      · have hne : ¬ a[i]'ia = b[i]'ib := fun e => h (by rw [e])
        have hvv := HVV.out
        rw [if_neg hne] at hvv
        have HV2 := Lib.hid hvv
        have HC := Lib.hid (fun w1 => compare_any (rankB (a[i]'ia)) (rankB (b[i]'ib)) w1)
        rw [hvv] at HC
        clear hvv hne
        go_wp2_with fail
        refine wp_region_org [(0, true), (1, true), (2, true), (4, true), (5, true), (6, true), (3, false), (7, false), (8, false), (9, true)] (by kernel_rfl) (by kernel_rfl) (by kernel_rfl) ?_
        have e1 : (w.drewN (q + 1)).drew = w.drewN (q + 2) := rfl
        rw [e1]
        clear e1
        simp only [pickOrs, List.getElem?_cons_zero, List.getElem?_cons_succ]
        refine org_pure (v := ?_) (by kernel_rfl) ?_ ?_
        rotate_left
        · intro w' hv; clear hv; go_simp; try with_reducible rfl
        try simp only [Act.put, List.setIfInBounds_toArray, List.set_cons_zero, List.set_cons_succ]
        refine org_pure (v := ?_) (by kernel_rfl) ?_ ?_
        rotate_left
        · intro w' hv; clear hv; go_simp; try with_reducible rfl
        try simp only [Act.put, List.setIfInBounds_toArray, List.set_cons_zero, List.set_cons_succ]
        refine org_pure (v := ?_) (by kernel_rfl) ?_ ?_
        rotate_left
        · intro w' hv; clear hv; go_simp; try with_reducible rfl
        try simp only [Act.put, List.setIfInBounds_toArray, List.set_cons_zero, List.set_cons_succ]
        refine org_pure (v := ?_) (by kernel_rfl) ?_ ?_
        rotate_left
        · intro w' hv; clear hv; go_simp; try with_reducible rfl
        try simp only [Act.put, List.setIfInBounds_toArray, List.set_cons_zero, List.set_cons_succ]
        refine org_pure (v := ?_) (by kernel_rfl) ?_ ?_
        rotate_left
        · intro w' hv; clear hv; go_simp; try with_reducible rfl
        try simp only [Act.put, List.setIfInBounds_toArray, List.set_cons_zero, List.set_cons_succ]
        refine org_pure (v := ?_) (by kernel_rfl) ?_ ?_
        rotate_left
        · intro w' hv; clear hv; go_simp; try with_reducible rfl
        try simp only [Act.put, List.setIfInBounds_toArray, List.set_cons_zero, List.set_cons_succ]
        refine org_step (by kernel_rfl) (fun K hK => ?_)
        go_wp2_with fail
        refine (HR1.out _).mono ?_
        rintro e w1 ⟨rfl, rfl⟩
        refine hK _ _ ⟨Ext.refl _, ?_⟩
        clear hK
        try simp only [Act.put, List.setIfInBounds_toArray, List.set_cons_zero, List.set_cons_succ]
        refine org_step (by kernel_rfl) (fun K hK => ?_)
        go_wp2_with fail
        refine (HR2.out _).mono ?_
        rintro e w1 ⟨rfl, rfl⟩
        refine hK _ _ ⟨Ext.refl _, ?_⟩
        clear hK
        try simp only [Act.put, List.setIfInBounds_toArray, List.set_cons_zero, List.set_cons_succ]
        refine org_step (by kernel_rfl) (fun K hK => ?_)
        go_wp2_with fail
        refine (HC.out _).mono ?_
        rintro e w1 ⟨rfl, rfl⟩
        refine hK _ _ ⟨Ext.refl _, ?_⟩
        clear hK
        try simp only [Act.put, List.setIfInBounds_toArray, List.set_cons_zero, List.set_cons_succ]
        refine org_pure (v := ?_) (by kernel_rfl) ?_ ?_
        rotate_left
        · intro w' hv; clear hv; go_simp; try with_reducible rfl
        try simp only [Act.put, List.setIfInBounds_toArray, List.set_cons_zero, List.set_cons_succ]
        refine org_nil ?_
        go_wp2_with fail
        go_ret
        exact ⟨rfl, _, rfl⟩
    · have hil : i = min a.size b.size := by omega
      have hd := (cmpL_drop (a.data.toList.drop i) (b.data.toList.drop i)).resolve_right (fun ⟨h1, h2⟩ => by
        rcases (by omega : i = a.size ∨ i = b.size) with e | e
        · exact h1 (by rw [e]; exact drop_end a)
        · exact h2 (by rw [e]; exact drop_end b))
      rw [List.length_drop, List.length_drop] at hd
      have hsa : a.data.toList.length = a.size := rfl
      have hsb : b.data.toList.length = b.size := rfl
      have hc : Lib.compareInt (a.size : Int) (b.size : Int) = V := by
        rw [← hv, hd, hsa, hsb]
        unfold Lib.compareInt
        split <;> split <;> (try split) <;> (try split) <;> omega
      have HC := Lib.hid (fun w1 => compare_any (a.size : Int) (b.size : Int) w1)
      rw [hc] at HC
      have k1 : ¬ i < min a.size b.size := hlt
      clear hd hc hv hil hlt hsa hsb
      go_wp2_with (first | ((with_reducible refine (HC.out _).mono ?_); rintro e w1 ⟨rfl, rfl⟩))
      go_ret
      exact ⟨rfl, _, rfl⟩
end Go.Proofs.YtefamkckoikeoaaDoor
/- Contracts: package tree's where (slices.BinarySearchFunc at entries). Conditions: the entries are in order; paths shorter than 2^63 bytes. -/
namespace Go.Proofs.YtefamkckoikeoaaDoor
open Go.RowKit
set_option maxHeartbeats 4000000 in
theorem tcmpE_any (x : ByteArray) (d : Bool) (bv : Value) (p : ByteArray) (hx : x.size < 9223372036854775808) (hp : p.size < 9223372036854775808) (w : World) :
    Calls Tryd.prog 74 #[.agg #[.string x, .bool d, bv], .string p] w fun e w' => e = .returned (.int .i64 (cmpL x.data.toList p.data.toList)) ∧ Below w.heap.size w w' := by
  have HC := Lib.hid (fun w1 => cmp_any x p hx hp w1)
  go_enter Tryd.func74, Tryd.ntmps74
  go_wp2_with (first | ((with_reducible refine (HC.out _).mono ?_); rintro e w1 ⟨rfl, nq, rfl⟩))
  go_ret
  exact ⟨rfl, below_drewN ((Below.refl _ _).alloc (Nat.le_refl _) _) _⟩
/-- The place of a path among entries in order: how many stand ahead of it. -/
def posT (C : List Ent) (p : Tx) : Nat := (C.takeWhile fun e => decide (cmpL e.pa p < 0)).length
theorem posT_le (C : List Ent) (p : Tx) : posT C p ≤ C.length := (List.takeWhile_prefix _).length_le
theorem tw_len {α : Type} (f : α → Bool) : ∀ (C : List α) (j : Nat), j ≤ C.length → (∀ k (hk : k < C.length), k < j → f C[k] = true) → (∀ k (hk : k < C.length), j ≤ k → f C[k] = false) → (C.takeWhile f).length = j
  | [], j, h, _, _ => by simp at h; subst h; rfl
  | e :: C, 0, _, _, h2 => by
    have h := h2 0 (by simp) (Nat.le_refl _)
    simp at h
    rw [List.takeWhile_cons, if_neg (by simp [h])]; rfl
  | e :: C, j + 1, h, h1, h2 => by
    have h0 := h1 0 (by simp) (by omega)
    simp at h0
    rw [List.takeWhile_cons, if_pos h0, List.length_cons, tw_len f C j (by simpa using h) (fun k hk hkj => h1 (k + 1) (by simpa using hk) (by omega)) (fun k hk hkj => h2 (k + 1) (by simpa using hk) (by omega))]
def hasT (C : List Ent) (p : Tx) : Bool := match C[posT C p]? with | some e => decide (cmpL e.pa p = 0) | none => false
set_option maxHeartbeats 16000000 in
set_option maxRecDepth 100000 in
theorem bsearch_any (C : List Ent) (q : Option Addr) (c : Nat) (p : ByteArray) (hm : C.length ≤ 100000) (hn : ∀ e ∈ C, e.1.size < 9223372036854775808) (hp : p.size < 9223372036854775808)
    (hup : ∀ i j (hi : i < C.length) (hj : j < C.length), i ≤ j → cmpL C[j].pa p.data.toList < 0 → cmpL C[i].pa p.data.toList < 0) (w : World) (hs : Sees w w.heap.size q (rowC C)) :
    Calls Tryd.prog 73 #[.slice q C.length c, .string p, .func (.func 74) #[] #[]] w fun e w' => e = .returned (.tuple #[.int .i64 (posT C p.data.toList : Int), .bool (hasT C p.data.toList)]) ∧ Below w.heap.size w w' := by
  have HS := Lib.hid hs
  have HN := Lib.hid hn
  have HUP := Lib.hid hup
  clear hs hn hup
  go_enter Tryd.func73, Tryd.ntmps73
  go_wp2_with fail
  go_loopw [9, 10, 11] (fun vi vj _ wr => ∃ i j : Nat, i ≤ j ∧ j ≤ C.length ∧ vi = .int .i64 i ∧ vj = .int .i64 j ∧ (∀ k (hk : k < C.length), k < i → cmpL C[k].pa p.data.toList < 0) ∧ (∀ k (hk : k < C.length), j ≤ k → 0 ≤ cmpL C[k].pa p.data.toList) ∧ Below w.heap.size w wr) (fun vi vj _ _ => (intOf vj).toNat - (intOf vi).toNat)
  case atStart => exact ⟨0, C.length, by omega, by omega, rfl, rfl, fun _ _ h => absurd h (by omega), fun _ _ h => absurd h (by omega), Below.refl _ _⟩
  case round =>
    rename_i wr
    obtain ⟨i, j, hij, hj, rfl, rfl, hlo, hhi, hB⟩ := hrel
    have HB := Lib.hid hB
    have HLO := Lib.hid hlo
    have HHI := Lib.hid hhi
    clear hB hlo hhi
    by_cases hlt : i < j
    · have kk : (i : Int) < (j : Int) := by omega
      obtain ⟨h, hh⟩ : ∃ h, (i + j) / 2 = h := ⟨_, rfl⟩
      have eh : ((i : Int) + (j : Int)) / 2 = (h : Int) := by omega
      have h1 : i ≤ h := by omega
      have h2 : h < j := by omega
      have hl : h < C.length := by omega
      have kh : (h : Int) < (C.length : Int) := by omega
      obtain ⟨a, rfl, ha, hc⟩ := HS.out.ent hl
      obtain ⟨c1, c2, c3⟩ := hc wr HB.out
      have hsz := HN.out C[h] (List.getElem_mem hl)
      have hpa : C[h].pa = C[h].1.data.toList := rfl
      have HLT : Hid (cmpL C[h].1.data.toList p.data.toList < 0 → ∀ k (hk : k < C.length), k < h + 1 → cmpL C[k].pa p.data.toList < 0) := Lib.hid (fun h0 k hk hkh => HUP.out k h hk hl (by omega) h0)
      have HGE : Hid (¬ cmpL C[h].1.data.toList p.data.toList < 0 → ∀ k (hk : k < C.length), h ≤ k → 0 ≤ cmpL C[k].pa p.data.toList) := Lib.hid (fun h0 k hk hkh => by
        rcases Int.lt_or_le (cmpL C[k].pa p.data.toList) 0 with h | h
        · exact absurd (HUP.out _ k hl hk hkh h) h0
        · exact h)
      generalize C[h].1 = x at *
      generalize C[h].2.1 = d at *
      generalize C[h].2.2.1 = bv at *
      have HC := Lib.hid (fun w1 => tcmpE_any x d bv p hsz hp w1)
      clear hc ha hpa hsz hh
      generalize cmpL x.data.toList p.data.toList = K at *
      by_cases hK : K < 0
      · go_wp2_with (first | ((with_reducible refine (HC.out _).mono ?_); rintro e w1 ⟨rfl, hb1⟩; replace HB := Lib.hid (HB.out.trans (hb1.mono HB.out.size)); clear hb1))
        go_roundw
        case rel => exact ⟨h + 1, j, by omega, hj, by go_num, rfl, HLT.out hK, HHI.out, HB.out⟩
        case measure => simp [intOf]; omega
      · have hKf : (K < 0) = False := eq_false hK
        go_wp2_with (first | ((with_reducible refine (HC.out _).mono ?_); rintro e w1 ⟨rfl, hb1⟩; replace HB := Lib.hid (HB.out.trans (hb1.mono HB.out.size)); clear hb1))
        go_roundw
        case rel => exact ⟨i, h, by omega, by omega, rfl, rfl, HLO.out, HGE.out hK, HB.out⟩
        case measure => simp [intOf]; omega
    · have hji : j = i := by omega
      subst hji
      have k0 : ¬ (j : Int) < (j : Int) := by omega
      have hpos : posT C p.data.toList = j := tw_len _ C j hj (fun k hk h => decide_eq_true (HLO.out k hk h)) (fun k hk h => decide_eq_false (Int.not_lt.2 (HHI.out k hk h)))
      have HP := Lib.hid hpos
      have HHAS : Hid (hasT C p.data.toList = match C[j]? with | some e => decide (cmpL e.pa p.data.toList = 0) | none => false) := Lib.hid (by unfold hasT; rw [hpos])
      by_cases hl : j < C.length
      · obtain ⟨a, rfl, ha, hc⟩ := HS.out.ent hl
        obtain ⟨c1, c2, c3⟩ := hc wr HB.out
        have hsz := HN.out C[j] (List.getElem_mem hl)
        have kh : (j : Int) < (C.length : Int) := by omega
        rw [List.getElem?_eq_getElem hl] at HHAS
        have hpa : C[j].pa = C[j].1.data.toList := rfl
        simp only [hpa] at HHAS
        generalize C[j].1 = x at *
        generalize C[j].2.1 = d at *
        generalize C[j].2.2.1 = bv at *
        have HC := Lib.hid (fun w1 => tcmpE_any x d bv p hsz hp w1)
        clear hc ha hpa hsz hpos
        generalize cmpL x.data.toList p.data.toList = K at *
        by_cases hK : K = 0
        · subst hK
          go_wp2_with (first | ((with_reducible refine (HC.out _).mono ?_); rintro e w1 ⟨rfl, hb1⟩; replace HB := Lib.hid (HB.out.trans (hb1.mono HB.out.size)); clear hb1))
          go_ret2
          exact ⟨by rw [HP.out, HHAS.out]; rfl, HB.out⟩
        · have hKf : (K = 0) = False := eq_false hK
          go_wp2_with (first | ((with_reducible refine (HC.out _).mono ?_); rintro e w1 ⟨rfl, hb1⟩; replace HB := Lib.hid (HB.out.trans (hb1.mono HB.out.size)); clear hb1))
          go_ret2
          exact ⟨by rw [HP.out, HHAS.out]; simp [hK], HB.out⟩
      · have kh : ¬ (j : Int) < (C.length : Int) := by omega
        rw [List.getElem?_eq_none (by omega)] at HHAS
        clear hpos
        go_wp2_with fail
        go_ret2
        exact ⟨by rw [HP.out, HHAS.out]; rfl, HB.out⟩
set_option maxHeartbeats 1000000 in
theorem twhere_any (C : List Ent) (q : Option Addr) (c : Nat) (p : ByteArray) (hm : C.length ≤ 100000) (hn : ∀ e ∈ C, e.1.size < 9223372036854775808) (hp : p.size < 9223372036854775808)
    (hup : ∀ i j (hi : i < C.length) (hj : j < C.length), i ≤ j → cmpL C[j].pa p.data.toList < 0 → cmpL C[i].pa p.data.toList < 0) (w : World) (hs : Sees w w.heap.size q (rowC C)) :
    Calls Tryd.prog 42 #[.slice q C.length c, .string p] w fun e w' => e = .returned (.tuple #[.int .i64 (posT C p.data.toList : Int), .bool (hasT C p.data.toList)]) ∧ Below w.heap.size w w' := by
  have HC := Lib.hid (fun w1 h => bsearch_any C q c p hm hn hp hup w1 h)
  have HS := Lib.hid hs
  clear hs hn hup
  go_enter Tryd.func42, Tryd.ntmps42
  go_wp2_with (first | ((with_reducible refine (HC.out _ HS.out).mono ?_); rintro e w1 ⟨rfl, hb1⟩; have HB := Lib.hid hb1; clear hb1))
  go_ret2
  exact ⟨rfl, HB.out⟩
end Go.Proofs.YtefamkckoikeoaaDoor
/- Contract: package path's Up. Condition: a text shorter than 2^61 bytes. -/
namespace Go.Proofs.YtefamkckoikeoaaDoor
open Go.RowKit Go.Shelf
set_option maxHeartbeats 800000 in
theorem up_any (s : ByteArray) (hs : s.size < 2305843009213693952) (w : World) :
    Calls Tryd.prog 56 #[.string s] w fun e w' => e = .returned (.tuple #[.string ⟨(upV s.data.toList).toArray⟩, .bool (okPath s.data.toList)]) ∧ Below w.heap.size w w' := by
  have H1 := Lib.hid (good_any s (by omega) w)
  have H2 := Lib.hid (fun w1 => lastIndex_any s (by omega) w1)
  obtain ⟨r, hr⟩ : ∃ r, Lib.lastIndexByte s 47 = r := ⟨_, rfl⟩
  have hsz : s.data.toList.length = s.size := rfl
  unfold upV
  cases hg : okPath s.data.toList with
  | false =>
    rw [hg] at H1
    clear hr H2 hsz
    go_enter Tryd.func56, Tryd.ntmps56
    go_wp2_with (first | ((with_reducible refine (H1.out).mono ?_); rintro e w1 ⟨rfl, hb1⟩))
    go_ret2
    exact ⟨rfl, hb1⟩
  | true =>
    rw [hg] at H1
    rw [hr] at H2
    rcases last_cases s with ⟨h1, h2⟩ | ⟨i, h0, h1, h2, h3⟩
    · have hu : upL s.data.toList = [] := (up_plain h2).1
      rw [if_pos rfl, hu]
      rw [h1] at hr
      subst hr
      clear h1 h2 hu hsz
      go_enter Tryd.func56, Tryd.ntmps56
      go_wp2_with (first | ((with_reducible refine (H1.out).mono ?_); rintro e w1 ⟨rfl, hb1⟩) | ((with_reducible refine (H2.out _).mono ?_); rintro e w1 ⟨rfl, rfl⟩))
      go_ret2
      exact ⟨congrArg (fun b => Ending.returned (.tuple #[.string b, .bool true])) (show s.extract 0 (max 0 (-1 : Int)).toNat = ⟨#[]⟩ from (cut_upT s 0).symm), hb1⟩
    · have hu : upL s.data.toList = s.data.toList.take i := by
        have h4 := (up_sep (s.data.toList.take i) (s.data.toList.drop (i + 1)) h3).1
        rwa [← h2] at h4
      rw [if_pos rfl, hu]
      rw [h1] at hr
      subst hr
      clear h1 h2 hu
      go_enter Tryd.func56, Tryd.ntmps56
      go_wp2_with (first | ((with_reducible refine (H1.out).mono ?_); rintro e w1 ⟨rfl, hb1⟩) | ((with_reducible refine (H2.out _).mono ?_); rintro e w1 ⟨rfl, rfl⟩))
      go_ret2
      exact ⟨congrArg (fun b => Ending.returned (.tuple #[.string b, .bool true])) (cut_upT s i).symm, hb1⟩
end Go.Proofs.YtefamkckoikeoaaDoor
/- Contract: package tree's upIn. Conditions: the entries are in order; texts shorter than 2^61 bytes. -/
namespace Go.Proofs.YtefamkckoikeoaaDoor
open Go.RowKit
/-- Entries in path's order. -/
def AscE (C : List Ent) : Prop := C.Pairwise fun a b => cmpL a.pa b.pa < 0
theorem cmpL_lt_le {p q r : Tx} (h1 : cmpL p q < 0) (h2 : cmpL q r ≤ 0) : cmpL p r < 0 := by
  have h3 := cmpL_trans (Int.le_of_lt h1) h2
  rcases Int.lt_or_le (cmpL p r) 0 with h | h
  · exact h
  · exfalso
    have h0 : cmpL p r = 0 := by omega
    have e := cmpL_zero.1 h0
    subst e
    rw [cmpL_neg] at h2
    omega
theorem cmpL_le_lt {p q r : Tx} (h1 : cmpL p q ≤ 0) (h2 : cmpL q r < 0) : cmpL p r < 0 := by
  have h3 := cmpL_trans h1 (Int.le_of_lt h2)
  rcases Int.lt_or_le (cmpL p r) 0 with h | h
  · exact h
  · exfalso
    have h0 : cmpL p r = 0 := by omega
    have e := cmpL_zero.1 h0
    subst e
    rw [cmpL_neg] at h1
    omega
theorem AscE.lt {C : List Ent} (h : AscE C) {i j : Nat} (hi : i < C.length) (hj : j < C.length) (hij : i < j) : cmpL C[i].pa C[j].pa < 0 :=
  List.pairwise_iff_getElem.1 h i j hi hj hij
theorem AscE.up {C : List Ent} (h : AscE C) (p : Tx) : ∀ i j (hi : i < C.length) (hj : j < C.length), i ≤ j → cmpL C[j].pa p < 0 → cmpL C[i].pa p < 0 := fun i j hi hj hij hl => by
  rcases Nat.lt_or_eq_of_le hij with h1 | rfl
  · exact cmpL_lt_le (h.lt hi hj h1) (Int.le_of_lt hl)
  · exact hl
theorem AscE.take {C : List Ent} (h : AscE C) (k : Nat) : AscE (C.take k) := h.sublist (List.take_sublist k C)
/-- Found by halving is found at all. -/
theorem asc_at : ∀ {C : List Ent}, AscE C → ∀ p, (hasT C p = true ∧ atT C p = (posT C p : Int) ∧ posT C p < C.length) ∨ (hasT C p = false ∧ atT C p = -1)
  | [], _, p => .inr ⟨rfl, rfl⟩
  | e :: C, h, p => by
    have h' := List.pairwise_cons.1 h
    by_cases hl : cmpL e.pa p < 0
    · have hp : posT (e :: C) p = posT C p + 1 := by unfold posT; rw [List.takeWhile_cons, if_pos (by simp [hl])]; rfl
      have hh : hasT (e :: C) p = hasT C p := by unfold hasT; rw [hp, List.getElem?_cons_succ]
      have hne : e.pa ≠ p := fun k => by rw [k, cmpL_self] at hl; omega
      rcases asc_at h'.2 p with ⟨h1, h2, h3⟩ | ⟨h1, h2⟩
      · refine .inl ⟨hh.trans h1, ?_, by rw [hp, List.length_cons]; omega⟩
        unfold atT; rw [if_neg hne, if_neg (by rw [h2]; omega), h2, hp]; rfl
      · refine .inr ⟨hh.trans h1, ?_⟩
        unfold atT; rw [if_neg hne, if_pos (by rw [h2]; decide)]
    · have hp : posT (e :: C) p = 0 := by unfold posT; rw [List.takeWhile_cons, if_neg (by simp [hl])]; rfl
      have hh : hasT (e :: C) p = decide (cmpL e.pa p = 0) := by unfold hasT; rw [hp]; rfl
      by_cases h0 : cmpL e.pa p = 0
      · refine .inl ⟨by rw [hh]; simp [h0], ?_, by rw [hp]; simp⟩
        unfold atT; rw [if_pos (cmpL_zero.1 h0), hp]; rfl
      · refine .inr ⟨by rw [hh]; simp [h0], atT_no fun x hx => ?_⟩
        rcases List.mem_cons.1 hx with rfl | hx
        · exact fun k => h0 (cmpL_zero.2 k)
        · intro k
          have := h'.1 x hx
          rw [k] at this
          exact hl this
theorem upV_len (p : Tx) : (upV p).length ≤ p.length := by
  unfold upV
  split
  · exact (up_less p).1
  · simp
set_option maxHeartbeats 4000000 in
set_option maxRecDepth 100000 in
theorem tupIn_any (C : List Ent) (q : Option Addr) (c : Nat) (p : ByteArray) (hm : C.length ≤ 100000) (hn : ∀ e ∈ C, e.1.size < 9223372036854775808) (hA : AscE C) (hp : p.size < 2305843009213693952) (w : World) (hs : Sees w w.heap.size q (rowC C)) :
    Calls Tryd.prog 43 #[.slice q C.length c, .string p] w fun e w' => e = .returned (.int .i64 (roomT C p.data.toList)) ∧ Below w.heap.size w w' := by
  have HS := Lib.hid hs
  have HU := Lib.hid (fun w1 => up_any p hp w1)
  clear hs
  obtain ⟨U, hU⟩ : ∃ U : ByteArray, (⟨(upV p.data.toList).toArray⟩ : ByteArray) = U := ⟨_, rfl⟩
  rw [hU] at HU
  have hUt : upV p.data.toList = U.data.toList := by rw [← hU]
  have hUs : U.size < 9223372036854775808 := by
    have h1 := upV_len p.data.toList
    rw [hUt] at h1
    have h2 : U.size = U.data.toList.length := rfl
    have h3 : p.size = p.data.toList.length := rfl
    omega
  obtain ⟨V, hV⟩ : ∃ V, roomT C p.data.toList = V := ⟨_, rfl⟩
  rw [hV]
  unfold roomT at hV
  rw [hUt] at hV
  have HV := Lib.hid hV
  have HWH := Lib.hid (fun w1 h => twhere_any C q c U hm hn hUs (hA.up _) w1 h)
  have HAT := Lib.hid (asc_at hA U.data.toList)
  generalize okPath p.data.toList = G at *
  clear hV hU hUt hn hA hUs hp
  go_enter Tryd.func43, Tryd.ntmps43
  go_wp2_with fail
  refine (HU.out _).mono ?_
  rintro e w1 ⟨rfl, hb⟩
  have HB := Lib.hid hb
  clear hb
  by_cases hU : U.data = #[]
  · have hv : V = 0 := by rw [← HV.out, hU]; rfl
    subst hv
    have k1 := no_text hU
    clear hU
    go_wp2_with fail
    go_ret
    exact ⟨rfl, HB.out⟩
  · have k1 := some_text hU
    have hne : U.data.toList ≠ [] := fun e => hU (by simpa using e)
    have hv := HV.out
    rw [if_neg hne] at hv
    have HV2 := Lib.hid hv
    clear hne hU hv
    go_wp2_with fail
    refine (HWH.out _ ((HS.out.keep HB.out).more HB.out.size)).mono ?_
    rintro e w2 ⟨rfl, hb⟩
    replace HB := Lib.hid (HB.out.trans (hb.mono HB.out.size))
    clear hb
    rcases HAT.out with ⟨h1, h2, h3⟩ | ⟨h1, h2⟩
    · rw [h1]
      have hv := HV2.out
      rw [h2, if_neg (by omega)] at hv
      have hv2 : (if dirT C (posT C U.data.toList) = true then (0 : Int) else 7) = V := by simpa using hv
      obtain ⟨a, rfl, ha, hc⟩ := HS.out.ent h3
      obtain ⟨c1, c2, c3⟩ := hc w2 HB.out
      have hd : dirT C (posT C U.data.toList) = C[posT C U.data.toList].2.1 := by unfold dirT; rw [List.getElem?_eq_getElem h3]; rfl
      rw [hd] at hv2
      generalize C[posT C U.data.toList].2.1 = D at *
      generalize C[posT C U.data.toList].1 = x at *
      generalize C[posT C U.data.toList].2.2.1 = bv at *
      generalize posT C U.data.toList = K at *
      have kk : (K : Int) < (C.length : Int) := by omega
      clear hv hc ha HWH h1 h2 HAT HV2 HV
      subst hv2
      cases D with
      | true =>
        go_wp2_with fail
        go_ret
        exact ⟨rfl, HB.out⟩
      | false =>
        go_wp2_with fail
        go_ret
        exact ⟨rfl, HB.out⟩
    · rw [h1]
      have hv := HV2.out
      rw [h2] at hv
      have hv2 : (5 : Int) = V := by simpa using hv
      clear hv HWH h1 h2 HAT HV2 HV
      subst hv2
      go_wp2_with fail
      go_ret
      exact ⟨rfl, HB.out⟩
end Go.Proofs.YtefamkckoikeoaaDoor
/- Contract: package tree's behind. Condition: paths shorter than 2^63 bytes. -/
namespace Go.Proofs.YtefamkckoikeoaaDoor
open Go.RowKit
set_option maxHeartbeats 4000000 in
set_option maxRecDepth 100000 in
theorem tbehind_any (C : List Ent) (q : Option Addr) (c : Nat) (x : ByteArray) (d : Bool) (bv : Value) (hn : ∀ e ∈ C, e.1.size < 9223372036854775808) (hx : x.size < 9223372036854775808) (w : World) (hs : Sees w w.heap.size q (rowC C)) (h64 : C.length ≤ 100000) :
    Calls Tryd.prog 71 #[.slice q C.length c, .agg #[.string x, .bool d, bv]] w fun e w' => e = .returned (.bool (prevB C.getLast? x.data.toList)) ∧ Below w.heap.size w w' := by
  have HS := Lib.hid hs
  have HN := Lib.hid hn
  have HX : Hid (Has (w.alloc (.cells #[.string x, .bool d, bv] 32)) w.heap.size 32 [.string x, .bool d, bv]) := Lib.hid (Has.made w 32 #[.string x, .bool d, bv])
  have HB : Hid (Below w.heap.size w (w.alloc (.cells #[.string x, .bool d, bv] 32))) := Lib.hid ((Below.refl _ w).alloc (Nat.le_refl _) _)
  obtain ⟨V, hV⟩ : ∃ V, prevB C.getLast? x.data.toList = V := ⟨_, rfl⟩
  rw [hV]
  clear hs hn
  go_enter Tryd.func71, Tryd.ntmps71
  go_wp2_with fail
  by_cases h0 : C = []
  · subst h0
    have hv : V = true := hV.symm
    subst hv
    clear hV
    have k0 : ([] : List Ent).length = 0 := rfl
    refine wp_region_org [(0, true), (1, true), (2, true), (3, true), (4, true), (5, true), (6, true), (7, true), (8, true), (9, true), (10, true), (11, true), (12, true), (13, false), (14, true), (15, true), (16, true)] (by kernel_rfl) (by kernel_rfl) (by kernel_rfl) ?_
    replace HB := Lib.hid (HB.out.drew)
    replace HX := Lib.hid (HX.out.drew)
    generalize (w.alloc (.cells #[.string x, .bool d, bv] 32)).drew = wd at *
    simp only [pickOrs, List.getElem?_cons_zero, List.getElem?_cons_succ]
    refine org_pure (v := ?_) (by kernel_rfl) ?_ ?_
    rotate_left
    · intro w' hv; clear hv; go_simp; try with_reducible rfl
    try simp only [Act.put, List.setIfInBounds_toArray, List.set_cons_zero, List.set_cons_succ]
    refine org_pure (v := ?_) (by kernel_rfl) ?_ ?_
    rotate_left
    · intro w' hv; clear hv; go_simp; try with_reducible rfl
    try simp only [Act.put, List.setIfInBounds_toArray, List.set_cons_zero, List.set_cons_succ]
    refine org_pure (v := ?_) (by kernel_rfl) ?_ ?_
    rotate_left
    · intro w' hv; clear hv; go_simp; try with_reducible rfl
    try simp only [Act.put, List.setIfInBounds_toArray, List.set_cons_zero, List.set_cons_succ]
    refine org_pure (v := ?_) (by kernel_rfl) ?_ ?_
    rotate_left
    · intro w' hv; clear hv; go_simp; try with_reducible rfl
    try simp only [Act.put, List.setIfInBounds_toArray, List.set_cons_zero, List.set_cons_succ]
    refine org_skip (by kernel_rfl) ?_
    try simp only [Act.put, List.setIfInBounds_toArray, List.set_cons_zero, List.set_cons_succ]
    refine org_skip (by kernel_rfl) ?_
    try simp only [Act.put, List.setIfInBounds_toArray, List.set_cons_zero, List.set_cons_succ]
    refine org_skip (by kernel_rfl) ?_
    try simp only [Act.put, List.setIfInBounds_toArray, List.set_cons_zero, List.set_cons_succ]
    refine org_skip (by kernel_rfl) ?_
    try simp only [Act.put, List.setIfInBounds_toArray, List.set_cons_zero, List.set_cons_succ]
    refine org_skip (by kernel_rfl) ?_
    try simp only [Act.put, List.setIfInBounds_toArray, List.set_cons_zero, List.set_cons_succ]
    refine org_skip (by kernel_rfl) ?_
    try simp only [Act.put, List.setIfInBounds_toArray, List.set_cons_zero, List.set_cons_succ]
    refine org_skip (by kernel_rfl) ?_
    try simp only [Act.put, List.setIfInBounds_toArray, List.set_cons_zero, List.set_cons_succ]
    refine org_skip (by kernel_rfl) ?_
    try simp only [Act.put, List.setIfInBounds_toArray, List.set_cons_zero, List.set_cons_succ]
    refine org_skip (by kernel_rfl) ?_
    try simp only [Act.put, List.setIfInBounds_toArray, List.set_cons_zero, List.set_cons_succ]
    refine org_pass (by kernel_rfl) ?_
    try simp only [Act.put, List.setIfInBounds_toArray, List.set_cons_zero, List.set_cons_succ]
    refine org_skip (by kernel_rfl) ?_
    try simp only [Act.put, List.setIfInBounds_toArray, List.set_cons_zero, List.set_cons_succ]
    refine org_pure (v := ?_) (by kernel_rfl) ?_ ?_
    rotate_left
    · intro w' hv; clear hv; go_simp; try with_reducible rfl
    try simp only [Act.put, List.setIfInBounds_toArray, List.set_cons_zero, List.set_cons_succ]
    refine org_pure (v := ?_) (by kernel_rfl) ?_ ?_
    rotate_left
    · intro w' hv; clear hv; go_simp; try with_reducible rfl
    try simp only [Act.put, List.setIfInBounds_toArray, List.set_cons_zero, List.set_cons_succ]
    refine org_nil ?_
    go_wp2_with fail
    go_ret
    exact ⟨rfl, HB.out⟩
  · obtain ⟨n1, hn1⟩ : ∃ n1, C.length = n1 + 1 := ⟨C.length - 1, by have := List.length_pos_iff.2 h0; omega⟩
    have hl : n1 < C.length := by omega
    have kl : (C.length : Int) - 1 = (n1 : Int) := by omega
    have kne : ((C.length : Int) = 0) = False := eq_false (by omega)
    have kbe : ((C.length : Int) == 0) = false := by simp; exact h0
    have kk : (n1 : Int) < (C.length : Int) := by omega
    obtain ⟨a, rfl, ha, hc⟩ := HS.out.ent hl
    have HCX : Hid (∀ w', Below w.heap.size w w' → w'.cell? (a.add (n1 * 3)) = some (.string C[n1].1)) := Lib.hid (fun w' h => (hc w' h).1)
    have hsz := HN.out C[n1] (List.getElem_mem hl)
    have hlast : C.getLast? = some C[n1] := by rw [List.getLast?_eq_getElem?, hn1, Nat.add_sub_cancel, List.getElem?_eq_getElem hl]
    rw [hlast] at hV
    have hpb : prevB (some C[n1]) x.data.toList = decide (cmpL C[n1].1.data.toList x.data.toList < 0) := rfl
    rw [hpb] at hV
    have kw : IntKind.i64.wrap (n1 : Int) = (n1 : Int) := IntWalk.i64_in _ (by omega)
    clear hc ha hlast hpb h0 hn1
    generalize C[n1].1 = y at *
    have HCM := Lib.hid (fun w1 => cmp_any y x hsz hx w1)
    clear hsz
    generalize cmpL y.data.toList x.data.toList = KK at *
    by_cases hneg : KK < 0
    · have kK : (KK < 0) = True := eq_true hneg
      rw [decide_eq_true hneg] at hV
      subst hV
      refine wp_region_org [(0, true), (1, true), (2, true), (3, true), (4, true), (5, true), (6, true), (7, true), (8, true), (9, true), (10, true), (11, true), (12, true), (13, false), (14, true), (15, true), (16, true)] (by kernel_rfl) (by kernel_rfl) (by kernel_rfl) ?_
      replace HB := Lib.hid (HB.out.drew)
      replace HX := Lib.hid (HX.out.drew)
      generalize (w.alloc (.cells #[.string x, .bool d, bv] 32)).drew = wd at *
      simp only [pickOrs, List.getElem?_cons_zero, List.getElem?_cons_succ]
      refine org_pure (v := ?_) (by kernel_rfl) ?_ ?_
      rotate_left
      · intro w' hv; clear hv; go_simp; try with_reducible rfl
      try simp only [Act.put, List.setIfInBounds_toArray, List.set_cons_zero, List.set_cons_succ]
      refine org_pure (v := ?_) (by kernel_rfl) ?_ ?_
      rotate_left
      · intro w' hv; clear hv; go_simp; try with_reducible rfl
      try simp only [Act.put, List.setIfInBounds_toArray, List.set_cons_zero, List.set_cons_succ]
      refine org_pure (v := ?_) (by kernel_rfl) ?_ ?_
      rotate_left
      · intro w' hv; clear hv; go_simp; try with_reducible rfl
      try simp only [Act.put, List.setIfInBounds_toArray, List.set_cons_zero, List.set_cons_succ]
      refine org_pure (v := ?_) (by kernel_rfl) ?_ ?_
      rotate_left
      · intro w' hv; clear hv; go_simp; try with_reducible rfl
      try simp only [Act.put, List.setIfInBounds_toArray, List.set_cons_zero, List.set_cons_succ]
      refine org_pure (v := ?_) (by kernel_rfl) ?_ ?_
      rotate_left
      · intro w' hv; clear hv; go_simp; try with_reducible rfl
      try simp only [Act.put, List.setIfInBounds_toArray, List.set_cons_zero, List.set_cons_succ]
      refine org_pure (v := ?_) (by kernel_rfl) ?_ ?_
      rotate_left
      · intro w' hv; clear hv; go_simp; try with_reducible rfl
      try simp only [Act.put, List.setIfInBounds_toArray, List.set_cons_zero, List.set_cons_succ]
      refine org_pure (v := ?_) (by kernel_rfl) ?_ ?_
      rotate_left
      · intro w' hv; clear hv; go_simp; try with_reducible rfl
      try simp only [Act.put, List.setIfInBounds_toArray, List.set_cons_zero, List.set_cons_succ]
      refine org_pure (v := ?_) (by kernel_rfl) ?_ ?_
      rotate_left
      · intro w' hv; clear hv; go_simp; try with_reducible rfl
      try simp only [Act.put, List.setIfInBounds_toArray, List.set_cons_zero, List.set_cons_succ]
      refine org_pure (v := ?_) (by kernel_rfl) ?_ ?_
      rotate_left
      · intro w' hv; clear hv; go_simp; try with_reducible rfl
      try simp only [Act.put, List.setIfInBounds_toArray, List.set_cons_zero, List.set_cons_succ]
      refine org_pure (v := ?_) (by kernel_rfl) ?_ ?_
      rotate_left
      · intro w' hv; clear hv; go_simp; try with_reducible rfl
      try simp only [Act.put, List.setIfInBounds_toArray, List.set_cons_zero, List.set_cons_succ]
      refine org_pure (v := ?_) (by kernel_rfl) ?_ ?_
      rotate_left
      · intro w' hv; have cp := HCX.out w' (HB.out.trans (Below.mono hv HB.out.size)); clear hv; go_simp; try with_reducible rfl
      try simp only [Act.put, List.setIfInBounds_toArray, List.set_cons_zero, List.set_cons_succ]
      refine org_pure (v := ?_) (by kernel_rfl) ?_ ?_
      rotate_left
      · intro w' hv; clear hv; go_simp; try with_reducible rfl
      try simp only [Act.put, List.setIfInBounds_toArray, List.set_cons_zero, List.set_cons_succ]
      refine org_pure (v := ?_) (by kernel_rfl) ?_ ?_
      rotate_left
      · intro w' hv; have cq := (HX.out.keep hv HX.out.lt).cellv (i := 0) (v := .string x) rfl; clear hv; go_simp; try with_reducible rfl
      try simp only [Act.put, List.setIfInBounds_toArray, List.set_cons_zero, List.set_cons_succ]
      refine org_step (by kernel_rfl) (fun K hK => ?_)
      go_wp2_with fail
      refine (HCM.out _).mono ?_
      rintro e wx ⟨rfl, nq, hq⟩
      have hb : Below wd.heap.size wd wx := by rw [hq]; exact below_drewN (Below.refl _ _) _
      clear hq
      have HE2 := Lib.hid hb
      replace HB := Lib.hid (HB.out.trans (hb.mono HB.out.size))
      replace HX := Lib.hid (HX.out.keep hb HX.out.lt)
      clear hb
      refine hK _ _ ⟨HE2.out, ?_⟩
      clear hK HE2
      try simp only [Act.put, List.setIfInBounds_toArray, List.set_cons_zero, List.set_cons_succ]
      refine org_pure (v := ?_) (by kernel_rfl) ?_ ?_
      rotate_left
      · intro w' hv; clear hv; go_simp; try with_reducible rfl
      try simp only [Act.put, List.setIfInBounds_toArray, List.set_cons_zero, List.set_cons_succ]
      refine org_pure (v := ?_) (by kernel_rfl) ?_ ?_
      rotate_left
      · intro w' hv; clear hv; go_simp; try with_reducible rfl
      try simp only [Act.put, List.setIfInBounds_toArray, List.set_cons_zero, List.set_cons_succ]
      refine org_pure (v := ?_) (by kernel_rfl) ?_ ?_
      rotate_left
      · intro w' hv; clear hv; go_simp; try with_reducible rfl
      try simp only [Act.put, List.setIfInBounds_toArray, List.set_cons_zero, List.set_cons_succ]
      refine org_nil ?_
      go_wp2_with fail
      go_ret
      exact ⟨rfl, HB.out⟩
    · have kK : (KK < 0) = False := eq_false hneg
      rw [decide_eq_false hneg] at hV
      subst hV
      refine wp_region_org [(0, true), (1, true), (2, true), (3, true), (4, true), (5, true), (6, true), (7, true), (8, true), (9, true), (10, true), (11, true), (12, true), (13, false), (14, true), (15, true), (16, true)] (by kernel_rfl) (by kernel_rfl) (by kernel_rfl) ?_
      replace HB := Lib.hid (HB.out.drew)
      replace HX := Lib.hid (HX.out.drew)
      generalize (w.alloc (.cells #[.string x, .bool d, bv] 32)).drew = wd at *
      simp only [pickOrs, List.getElem?_cons_zero, List.getElem?_cons_succ]
      refine org_pure (v := ?_) (by kernel_rfl) ?_ ?_
      rotate_left
      · intro w' hv; clear hv; go_simp; try with_reducible rfl
      try simp only [Act.put, List.setIfInBounds_toArray, List.set_cons_zero, List.set_cons_succ]
      refine org_pure (v := ?_) (by kernel_rfl) ?_ ?_
      rotate_left
      · intro w' hv; clear hv; go_simp; try with_reducible rfl
      try simp only [Act.put, List.setIfInBounds_toArray, List.set_cons_zero, List.set_cons_succ]
      refine org_pure (v := ?_) (by kernel_rfl) ?_ ?_
      rotate_left
      · intro w' hv; clear hv; go_simp; try with_reducible rfl
      try simp only [Act.put, List.setIfInBounds_toArray, List.set_cons_zero, List.set_cons_succ]
      refine org_pure (v := ?_) (by kernel_rfl) ?_ ?_
      rotate_left
      · intro w' hv; clear hv; go_simp; try with_reducible rfl
      try simp only [Act.put, List.setIfInBounds_toArray, List.set_cons_zero, List.set_cons_succ]
      refine org_pure (v := ?_) (by kernel_rfl) ?_ ?_
      rotate_left
      · intro w' hv; clear hv; go_simp; try with_reducible rfl
      try simp only [Act.put, List.setIfInBounds_toArray, List.set_cons_zero, List.set_cons_succ]
      refine org_pure (v := ?_) (by kernel_rfl) ?_ ?_
      rotate_left
      · intro w' hv; clear hv; go_simp; try with_reducible rfl
      try simp only [Act.put, List.setIfInBounds_toArray, List.set_cons_zero, List.set_cons_succ]
      refine org_pure (v := ?_) (by kernel_rfl) ?_ ?_
      rotate_left
      · intro w' hv; clear hv; go_simp; try with_reducible rfl
      try simp only [Act.put, List.setIfInBounds_toArray, List.set_cons_zero, List.set_cons_succ]
      refine org_pure (v := ?_) (by kernel_rfl) ?_ ?_
      rotate_left
      · intro w' hv; clear hv; go_simp; try with_reducible rfl
      try simp only [Act.put, List.setIfInBounds_toArray, List.set_cons_zero, List.set_cons_succ]
      refine org_pure (v := ?_) (by kernel_rfl) ?_ ?_
      rotate_left
      · intro w' hv; clear hv; go_simp; try with_reducible rfl
      try simp only [Act.put, List.setIfInBounds_toArray, List.set_cons_zero, List.set_cons_succ]
      refine org_pure (v := ?_) (by kernel_rfl) ?_ ?_
      rotate_left
      · intro w' hv; clear hv; go_simp; try with_reducible rfl
      try simp only [Act.put, List.setIfInBounds_toArray, List.set_cons_zero, List.set_cons_succ]
      refine org_pure (v := ?_) (by kernel_rfl) ?_ ?_
      rotate_left
      · intro w' hv; have cp := HCX.out w' (HB.out.trans (Below.mono hv HB.out.size)); clear hv; go_simp; try with_reducible rfl
      try simp only [Act.put, List.setIfInBounds_toArray, List.set_cons_zero, List.set_cons_succ]
      refine org_pure (v := ?_) (by kernel_rfl) ?_ ?_
      rotate_left
      · intro w' hv; clear hv; go_simp; try with_reducible rfl
      try simp only [Act.put, List.setIfInBounds_toArray, List.set_cons_zero, List.set_cons_succ]
      refine org_pure (v := ?_) (by kernel_rfl) ?_ ?_
      rotate_left
      · intro w' hv; have cq := (HX.out.keep hv HX.out.lt).cellv (i := 0) (v := .string x) rfl; clear hv; go_simp; try with_reducible rfl
      try simp only [Act.put, List.setIfInBounds_toArray, List.set_cons_zero, List.set_cons_succ]
      refine org_step (by kernel_rfl) (fun K hK => ?_)
      go_wp2_with fail
      refine (HCM.out _).mono ?_
      rintro e wx ⟨rfl, nq, hq⟩
      have hb : Below wd.heap.size wd wx := by rw [hq]; exact below_drewN (Below.refl _ _) _
      clear hq
      have HE2 := Lib.hid hb
      replace HB := Lib.hid (HB.out.trans (hb.mono HB.out.size))
      replace HX := Lib.hid (HX.out.keep hb HX.out.lt)
      clear hb
      refine hK _ _ ⟨HE2.out, ?_⟩
      clear hK HE2
      try simp only [Act.put, List.setIfInBounds_toArray, List.set_cons_zero, List.set_cons_succ]
      refine org_pure (v := ?_) (by kernel_rfl) ?_ ?_
      rotate_left
      · intro w' hv; clear hv; go_simp; try with_reducible rfl
      try simp only [Act.put, List.setIfInBounds_toArray, List.set_cons_zero, List.set_cons_succ]
      refine org_pure (v := ?_) (by kernel_rfl) ?_ ?_
      rotate_left
      · intro w' hv; clear hv; go_simp; try with_reducible rfl
      try simp only [Act.put, List.setIfInBounds_toArray, List.set_cons_zero, List.set_cons_succ]
      refine org_pure (v := ?_) (by kernel_rfl) ?_ ?_
      rotate_left
      · intro w' hv; clear hv; go_simp; try with_reducible rfl
      try simp only [Act.put, List.setIfInBounds_toArray, List.set_cons_zero, List.set_cons_succ]
      refine org_nil ?_
      go_wp2_with fail
      go_ret
      exact ⟨rfl, HB.out⟩
end Go.Proofs.YtefamkckoikeoaaDoor
