/- Contract: package tree's Good. Conditions: at most 10^5 entries, all bytes together at most 2^62, paths shorter than 2^63 bytes. -/
import Derived.Test.YtefamkckoikeoaaDoorBase2
import Derived.Test.YtefamkckoikeoaaDoorBase1
import Derived.Lib.Overlaps
import Derived.Lib.SliceRun
import Derived.Laws.IdiomCopy
import Derived.Lib.AppendZerosOnto
import Derived.Shelf.Spec.SlicesInsert
import Derived.Shelf.Slices.Delete
import Derived.Handy
namespace Go.Proofs.YtefamkckoikeoaaDoor
open Go.RowKit
theorem rowC_app (A B : List Ent) : rowC (A ++ B) = rowC A ++ rowC B := by unfold rowC; exact List.flatMap_append ..
theorem rowC_take (C : List Ent) (i : Nat) : rowC (C.take i) = (rowC C).take (3 * i) := by
  have h := congrArg rowC (List.take_append_drop i C)
  rw [rowC_app] at h
  by_cases hi : i ≤ C.length
  · rw [← h, List.take_left' (by rw [rowC_len, List.length_take, Nat.min_eq_left hi])]
  · rw [List.take_of_length_le (by omega), List.take_of_length_le (by rw [rowC_len]; omega)]
theorem Sees.headE {w : World} {b : Nat} {q : Option Addr} {C : List Ent} (h : Sees w b q (rowC C)) (i : Nat) : Sees w b q (rowC (C.take i)) := by
  rw [rowC_take]; exact h.head _
theorem AscE.snoc {C : List Ent} {e : Ent} (h : AscE C) (hp : prevB C.getLast? e.pa = true) : AscE (C ++ [e]) := by
  refine List.pairwise_append.2 ⟨h, List.pairwise_singleton .., fun a ha b hb => ?_⟩
  rw [List.mem_singleton.1 hb]
  obtain ⟨i, hi, rfl⟩ := List.getElem_of_mem ha
  have hl : C.length - 1 < C.length := by omega
  rw [List.getLast?_eq_getElem?, List.getElem?_eq_getElem hl] at hp
  have h1 : cmpL C[C.length - 1].pa e.pa < 0 := of_decide_eq_true hp
  rcases Nat.lt_or_ge i (C.length - 1) with h2 | h2
  · exact cmpL_lt_le (h.lt hi hl h2) (Int.le_of_lt h1)
  · have : i = C.length - 1 := by omega
    subst this
    exact h1
/-- Good, entry by entry, as package tree looks. -/
def goodQ : List Ent → List Ent → Bool
  | _, [] => true
  | pre, e :: r => okEnt e && (prevB pre.getLast? e.pa && (decide (roomT pre e.pa = 0) && goodQ (pre ++ [e]) r))
def goodP (C : List Ent) : Bool := fitsT C && goodQ [] C
theorem ok_size {p : ByteArray} (h : okPath p.data.toList = true) : p.size ≤ 68 := by
  have hj := jn_nms p.data.toList
  unfold okPath at h
  rw [Bool.and_eq_true, decide_eq_true_eq, List.all_eq_true] at h
  have hl := jn_len (T := nms p.data.toList) (fun n hn => ⟨h.2 n hn, nms_no _ n hn⟩)
  rw [hj] at hl
  have : p.size = p.data.toList.length := rfl
  omega
set_option maxHeartbeats 16000000 in
set_option maxRecDepth 100000 in
theorem tgood_any (C : List Ent) (q : Option Addr) (c : Nat) (hm : C.length ≤ 100000) (hcap : C.length ≤ c) (hb : bytesT C ≤ 4611686018427387904) (hn : ∀ e ∈ C, e.1.size < 9223372036854775808) (w : World) (hs : Sees w w.heap.size q (rowC C)) (hE : Ents w C) :
    Calls Tryd.prog 40 #[.agg #[.slice q C.length c]] w fun e w' => e = .returned (.bool (goodP C)) ∧ Below w.heap.size w w' := by
  have HFT := Lib.hid (fun w1 h1 h2 => tfits_any C q c hm hb w1 h1 h2)
  have HS := Lib.hid hs
  have HE := Lib.hid hE
  have HN := Lib.hid hn
  obtain ⟨V, hV⟩ : ∃ V, goodP C = V := ⟨_, rfl⟩
  rw [hV]
  unfold goodP at hV
  have HV := Lib.hid hV
  clear hs hE hn hV
  generalize fitsT C = F at *
  go_enter Tryd.func40, Tryd.ntmps40
  go_wp2_with fail
  refine (HFT.out _ ((HS.out.keep ((Below.refl _ w).alloc (Nat.le_refl _) _)).more (by simp)) (HE.out.keep ((Below.refl _ w).alloc (Nat.le_refl _) _))).mono ?_
  rintro e w1 ⟨rfl, hb1⟩
  have HT : Hid (Has w1 w.heap.size 25 [.slice q C.length c]) := Lib.hid (boxed hb1)
  have HB := Lib.hid (((Below.refl _ w).alloc (Nat.le_refl _) (.cells #[.slice q C.length c] 25)).trans (hb1.mono (by simp)))
  clear hb1 HFT
  cases F with
  | false =>
    have hv : V = false := HV.out.symm
    subst hv
    go_wp2_with fail
    go_ret
    exact ⟨rfl, HB.out⟩
  | true =>
  have HQ : Hid (goodQ [] C = V) := Lib.hid HV.out
  clear HV
  have ct := HT.out.cellv (i := 0) (v := .slice q C.length c) rfl
  go_wp2_with fail
  clear ct
  go_loopw [3, 4, 12, 14, 15, 16] (fun _ _ vi _ _ _ wr => ∃ i : Nat, i ≤ C.length ∧ vi = .int .i64 i ∧ goodQ (C.take i) (C.drop i) = V ∧ AscE (C.take i) ∧ Has wr w.heap.size 25 [.slice q C.length c] ∧ Below w.heap.size w wr) (fun _ _ vi _ _ _ _ => C.length - (intOf vi).toNat)
  case atStart => exact ⟨0, by omega, rfl, HQ.out, List.Pairwise.nil, HT.out, HB.out⟩
  case round =>
    rename_i wr
    clear HQ HT HB
    obtain ⟨i, hi, rfl, hq, hasc, hT, hB⟩ := hrel
    have HQ := Lib.hid hq
    have HA := Lib.hid hasc
    have HT := Lib.hid hT
    have HB := Lib.hid hB
    clear hq hasc hT hB
    by_cases hlt : i < C.length
    · obtain ⟨a, rfl, ha, hc⟩ := HS.out.ent hlt
      obtain ⟨c1, c2, c3⟩ := hc wr HB.out
      obtain ⟨qb, cb, hv, _, _, _⟩ := HE.out C[i] (List.getElem_mem hlt)
      have hsz := HN.out C[i] (List.getElem_mem hlt)
      have kk : (i : Int) < (C.length : Int) := by omega
      have kw : IntKind.i64.wrap (i : Int) = (i : Int) := IntWalk.i64_in _ (by omega)
      have kc : (i : Int) ≤ (c : Int) := by omega
      have kc2 : i ≤ c := by omega
      have hq := HQ.out
      have hdr : C.drop i = C[i] :: C.drop (i + 1) := List.drop_eq_getElem_cons hlt
      have htk : C.take (i + 1) = C.take i ++ [C[i]] := by rw [List.take_add_one, List.getElem?_eq_getElem hlt]; rfl
      rw [hdr, goodQ, ← htk] at hq
      have HNX : Hid (prevB (C.take i).getLast? C[i].pa = true → AscE (C.take (i + 1))) := Lib.hid (fun h => by rw [htk]; exact HA.out.snoc h)
      have HSI : Hid (∀ w', Below w.heap.size w w' → Sees w' w'.heap.size (some a) (rowC (C.take i))) := Lib.hid (fun w' h => ((HS.out.keep h).more h.size).headE i)
      obtain ⟨e, he⟩ : ∃ e, C[i] = e := ⟨_, rfl⟩
      rw [he] at c1 c2 c3 hv hsz hq HNX
      obtain ⟨x, d, bv, bb⟩ := e
      have hv' : bv = .slice qb (List.length bb) cb := hv
      subst hv'
      simp only [] at c1 c2 c3 hsz
      have hlen : (C.take i).length = i := by rw [List.length_take]; omega
      have HGE := Lib.hid (fun w1 => tgoodEntry_any x d qb cb bb hsz w1)
      have HBH := Lib.hid (fun w1 h => tbehind_any (C.take i) (some a) c x d (.slice qb bb.length cb) (fun e he => HN.out e (List.mem_of_mem_take he)) hsz w1 h (by omega))
      rw [hlen] at HBH
      have hpa : Ent.pa (x, d, Value.slice qb (List.length bb) cb, bb) = x.data.toList := rfl
      rw [hpa] at hq HNX
      have HSM : Hid (okEnt (x, d, .slice qb bb.length cb, bb) = true → x.size < 2305843009213693952) := Lib.hid (fun h => by
        unfold okEnt at h
        rw [Bool.and_eq_true, Bool.and_eq_true] at h
        have := ok_size (p := x) h.2.1
        omega)
      have HUI : Hid (x.size < 2305843009213693952 → ∀ w1 (_ : Sees w1 w1.heap.size (some a) (rowC (C.take i))), Calls Tryd.prog 43 #[.slice (some a) i c, .string x] w1 fun e w' => e = .returned (.int .i64 (roomT (C.take i) x.data.toList)) ∧ Below w1.heap.size w1 w') := Lib.hid (fun hxs w1 h => by
        have := tupIn_any (C.take i) (some a) c x (by omega) (fun e he => HN.out e (List.mem_of_mem_take he)) HA.out hxs w1 h
        rw [hlen] at this
        exact this)
      have HQ2 := Lib.hid hq
      clear hc ha he hv hdr htk hlen hpa hq HQ
      generalize okEnt (x, d, .slice qb bb.length cb, bb) = OK at *
      generalize prevB (C.take i).getLast? x.data.toList = PB at *
      generalize roomT (C.take i) x.data.toList = RM at *
      go_wp2_with fail
      have HX : Hid (Has (wr.alloc (.cells #[.string x, .bool d, .slice qb bb.length cb] 32)) wr.heap.size 32 [.string x, .bool d, .slice qb bb.length cb]) := Lib.hid (Has.made wr 32 #[.string x, .bool d, .slice qb bb.length cb])
      replace HT : Hid (Has (wr.alloc (.cells #[.string x, .bool d, .slice qb bb.length cb] 32)) w.heap.size 25 [.slice (some a) C.length c]) := Lib.hid (HT.out.alloc _)
      replace HB : Hid (Below w.heap.size w (wr.alloc (.cells #[.string x, .bool d, .slice qb bb.length cb] 32))) := Lib.hid (HB.out.alloc HB.out.size _)
      clear c1 c2 c3
      generalize wr.alloc (.cells #[.string x, .bool d, .slice qb bb.length cb] 32) = W1 at *
      generalize wr.heap.size = BX at *
      cases OK with
      | false =>
        have hv : V = false := HQ2.out.symm
        subst hv
        clear HNX HUI HBH HSM
        refine wp_region_org [(0, true), (1, false), (2, true), (3, true), (4, true), (5, true), (6, true), (7, true), (8, true), (9, false), (10, true), (11, true), (12, true), (13, true), (14, true), (15, true), (16, true), (17, true), (18, true), (19, false), (20, true), (21, true)] (by kernel_rfl) (by kernel_rfl) (by kernel_rfl) ?_
        replace HB := Lib.hid (HB.out.drew)
        replace HX := Lib.hid (HX.out.drew)
        replace HT := Lib.hid (HT.out.drew)
        generalize W1.drew = wd at *
        simp only [pickOrs, List.getElem?_cons_zero, List.getElem?_cons_succ]
        refine org_pure (v := ?_) (by kernel_rfl) ?_ ?_
        rotate_left
        · intro w' hv; obtain ⟨cx, cy, cz⟩ : w'.cell? ⟨BX, 0, none⟩ = some (.string x) ∧ w'.cell? ⟨BX, 1, none⟩ = some (.bool d) ∧ w'.cell? ⟨BX, 2, none⟩ = some (.slice qb bb.length cb) := ⟨(HX.out.keep hv HX.out.lt).cellv rfl, (HX.out.keep hv HX.out.lt).cellv rfl, (HX.out.keep hv HX.out.lt).cellv rfl⟩; clear hv; go_simp; try with_reducible rfl
        try simp only [Act.put, List.setIfInBounds_toArray, List.set_cons_zero, List.set_cons_succ]
        refine org_step (by kernel_rfl) (fun K hK => ?_)
        go_wp2_with fail
        refine (HGE.out _).mono ?_
        rintro e wx ⟨rfl, hb⟩
        have HE2 := Lib.hid hb
        replace HB := Lib.hid (HB.out.trans (hb.mono HB.out.size))
        replace HX := Lib.hid (HX.out.keep hb HX.out.lt)
        replace HT := Lib.hid (HT.out.keep hb HT.out.lt)
        clear hb
        refine hK _ _ ⟨HE2.out, ?_⟩
        clear hK HE2
        try simp only [Act.put, List.setIfInBounds_toArray, List.set_cons_zero, List.set_cons_succ]
        refine org_pure (v := ?_) (by kernel_rfl) ?_ ?_
        rotate_left
        · intro w' hv; clear hv; go_simp; try with_reducible rfl
        try simp only [Act.put, List.setIfInBounds_toArray, List.set_cons_zero, List.set_cons_succ]
        refine org_pure (v := ?_) (by kernel_rfl) ?_ ?_
        rotate_left
        · intro w' hv; clear hv; go_simp; try with_reducible rfl
        try simp only [Act.put, List.setIfInBounds_toArray, List.set_cons_zero, List.set_cons_succ]
        refine org_skip (by kernel_rfl) ?_
        try simp only [Act.put, List.setIfInBounds_toArray, List.set_cons_zero, List.set_cons_succ]
        refine org_skip (by kernel_rfl) ?_
        try simp only [Act.put, List.setIfInBounds_toArray, List.set_cons_zero, List.set_cons_succ]
        refine org_skip (by kernel_rfl) ?_
        try simp only [Act.put, List.setIfInBounds_toArray, List.set_cons_zero, List.set_cons_succ]
        refine org_skip (by kernel_rfl) ?_
        try simp only [Act.put, List.setIfInBounds_toArray, List.set_cons_zero, List.set_cons_succ]
        refine org_skip (by kernel_rfl) ?_
        try simp only [Act.put, List.setIfInBounds_toArray, List.set_cons_zero, List.set_cons_succ]
        refine org_pass (by kernel_rfl) ?_
        try simp only [Act.put, List.setIfInBounds_toArray, List.set_cons_zero, List.set_cons_succ]
        refine org_skip (by kernel_rfl) ?_
        try simp only [Act.put, List.setIfInBounds_toArray, List.set_cons_zero, List.set_cons_succ]
        refine org_pure (v := ?_) (by kernel_rfl) ?_ ?_
        rotate_left
        · intro w' hv; clear hv; go_simp; try with_reducible rfl
        try simp only [Act.put, List.setIfInBounds_toArray, List.set_cons_zero, List.set_cons_succ]
        refine org_pure (v := ?_) (by kernel_rfl) ?_ ?_
        rotate_left
        · intro w' hv; clear hv; go_simp; try with_reducible rfl
        try simp only [Act.put, List.setIfInBounds_toArray, List.set_cons_zero, List.set_cons_succ]
        refine org_skip (by kernel_rfl) ?_
        try simp only [Act.put, List.setIfInBounds_toArray, List.set_cons_zero, List.set_cons_succ]
        refine org_skip (by kernel_rfl) ?_
        try simp only [Act.put, List.setIfInBounds_toArray, List.set_cons_zero, List.set_cons_succ]
        refine org_skip (by kernel_rfl) ?_
        try simp only [Act.put, List.setIfInBounds_toArray, List.set_cons_zero, List.set_cons_succ]
        refine org_skip (by kernel_rfl) ?_
        try simp only [Act.put, List.setIfInBounds_toArray, List.set_cons_zero, List.set_cons_succ]
        refine org_skip (by kernel_rfl) ?_
        try simp only [Act.put, List.setIfInBounds_toArray, List.set_cons_zero, List.set_cons_succ]
        refine org_skip (by kernel_rfl) ?_
        try simp only [Act.put, List.setIfInBounds_toArray, List.set_cons_zero, List.set_cons_succ]
        refine org_pass (by kernel_rfl) ?_
        try simp only [Act.put, List.setIfInBounds_toArray, List.set_cons_zero, List.set_cons_succ]
        refine org_skip (by kernel_rfl) ?_
        try simp only [Act.put, List.setIfInBounds_toArray, List.set_cons_zero, List.set_cons_succ]
        refine org_pure (v := ?_) (by kernel_rfl) ?_ ?_
        rotate_left
        · intro w' hv; clear hv; go_simp; try with_reducible rfl
        try simp only [Act.put, List.setIfInBounds_toArray, List.set_cons_zero, List.set_cons_succ]
        refine org_nil ?_
        go_wp2_with fail
        go_ret
        exact ⟨rfl, HB.out⟩
      | true =>
        have hxs := HSM.out rfl
        clear HSM
        cases PB with
        | false =>
          have hv : V = false := HQ2.out.symm
          subst hv
          clear HNX HUI
          refine wp_region_org [(0, true), (1, false), (2, true), (3, true), (4, true), (5, true), (6, true), (7, true), (8, true), (9, false), (10, true), (11, true), (12, true), (13, true), (14, true), (15, true), (16, true), (17, true), (18, true), (19, false), (20, true), (21, true)] (by kernel_rfl) (by kernel_rfl) (by kernel_rfl) ?_
          replace HB := Lib.hid (HB.out.drew)
          replace HX := Lib.hid (HX.out.drew)
          replace HT := Lib.hid (HT.out.drew)
          generalize W1.drew = wd at *
          simp only [pickOrs, List.getElem?_cons_zero, List.getElem?_cons_succ]
          refine org_pure (v := ?_) (by kernel_rfl) ?_ ?_
          rotate_left
          · intro w' hv; obtain ⟨cx, cy, cz⟩ : w'.cell? ⟨BX, 0, none⟩ = some (.string x) ∧ w'.cell? ⟨BX, 1, none⟩ = some (.bool d) ∧ w'.cell? ⟨BX, 2, none⟩ = some (.slice qb bb.length cb) := ⟨(HX.out.keep hv HX.out.lt).cellv rfl, (HX.out.keep hv HX.out.lt).cellv rfl, (HX.out.keep hv HX.out.lt).cellv rfl⟩; clear hv; go_simp; try with_reducible rfl
          try simp only [Act.put, List.setIfInBounds_toArray, List.set_cons_zero, List.set_cons_succ]
          refine org_step (by kernel_rfl) (fun K hK => ?_)
          go_wp2_with fail
          refine (HGE.out _).mono ?_
          rintro e wx ⟨rfl, hb⟩
          have HE2 := Lib.hid hb
          replace HB := Lib.hid (HB.out.trans (hb.mono HB.out.size))
          replace HX := Lib.hid (HX.out.keep hb HX.out.lt)
          replace HT := Lib.hid (HT.out.keep hb HT.out.lt)
          clear hb
          refine hK _ _ ⟨HE2.out, ?_⟩
          clear hK HE2
          try simp only [Act.put, List.setIfInBounds_toArray, List.set_cons_zero, List.set_cons_succ]
          refine org_pure (v := ?_) (by kernel_rfl) ?_ ?_
          rotate_left
          · intro w' hv; clear hv; go_simp; try with_reducible rfl
          try simp only [Act.put, List.setIfInBounds_toArray, List.set_cons_zero, List.set_cons_succ]
          refine org_pure (v := ?_) (by kernel_rfl) ?_ ?_
          rotate_left
          · intro w' hv; clear hv; go_simp; try with_reducible rfl
          try simp only [Act.put, List.setIfInBounds_toArray, List.set_cons_zero, List.set_cons_succ]
          refine org_pure (v := ?_) (by kernel_rfl) ?_ ?_
          rotate_left
          · intro w' hv; clear hv; go_simp; try with_reducible rfl
          try simp only [Act.put, List.setIfInBounds_toArray, List.set_cons_zero, List.set_cons_succ]
          refine org_pure (v := ?_) (by kernel_rfl) ?_ ?_
          rotate_left
          · intro w' hv; have cx := (HT.out.keep hv HT.out.lt).cellv (i := 0) (v := .slice (some a) C.length c) rfl; clear hv; go_simp; try with_reducible rfl
          try simp only [Act.put, List.setIfInBounds_toArray, List.set_cons_zero, List.set_cons_succ]
          refine org_pure (v := ?_) (by kernel_rfl) ?_ ?_
          rotate_left
          · intro w' hv; clear hv; go_simp; try with_reducible rfl
          try simp only [Act.put, List.setIfInBounds_toArray, List.set_cons_zero, List.set_cons_succ]
          refine org_pure (v := ?_) (by kernel_rfl) ?_ ?_
          rotate_left
          · intro w' hv; clear hv; go_simp; try with_reducible rfl
          try simp only [Act.put, List.setIfInBounds_toArray, List.set_cons_zero, List.set_cons_succ]
          refine org_pure (v := ?_) (by kernel_rfl) ?_ ?_
          rotate_left
          · intro w' hv; obtain ⟨cx, cy, cz⟩ : w'.cell? ⟨BX, 0, none⟩ = some (.string x) ∧ w'.cell? ⟨BX, 1, none⟩ = some (.bool d) ∧ w'.cell? ⟨BX, 2, none⟩ = some (.slice qb bb.length cb) := ⟨(HX.out.keep hv HX.out.lt).cellv rfl, (HX.out.keep hv HX.out.lt).cellv rfl, (HX.out.keep hv HX.out.lt).cellv rfl⟩; clear hv; go_simp; try with_reducible rfl
          try simp only [Act.put, List.setIfInBounds_toArray, List.set_cons_zero, List.set_cons_succ]
          refine org_step (by kernel_rfl) (fun K hK => ?_)
          go_wp2_with fail
          refine (HBH.out _ (HSI.out _ HB.out)).mono ?_
          rintro e wy ⟨rfl, hb⟩
          have HE2 := Lib.hid hb
          replace HB := Lib.hid (HB.out.trans (hb.mono HB.out.size))
          replace HX := Lib.hid (HX.out.keep hb HX.out.lt)
          replace HT := Lib.hid (HT.out.keep hb HT.out.lt)
          clear hb
          refine hK _ _ ⟨HE2.out, ?_⟩
          clear hK HE2
          try simp only [Act.put, List.setIfInBounds_toArray, List.set_cons_zero, List.set_cons_succ]
          refine org_pure (v := ?_) (by kernel_rfl) ?_ ?_
          rotate_left
          · intro w' hv; clear hv; go_simp; try with_reducible rfl
          try simp only [Act.put, List.setIfInBounds_toArray, List.set_cons_zero, List.set_cons_succ]
          refine org_pure (v := ?_) (by kernel_rfl) ?_ ?_
          rotate_left
          · intro w' hv; clear hv; go_simp; try with_reducible rfl
          try simp only [Act.put, List.setIfInBounds_toArray, List.set_cons_zero, List.set_cons_succ]
          refine org_pure (v := ?_) (by kernel_rfl) ?_ ?_
          rotate_left
          · intro w' hv; clear hv; go_simp; try with_reducible rfl
          try simp only [Act.put, List.setIfInBounds_toArray, List.set_cons_zero, List.set_cons_succ]
          refine org_skip (by kernel_rfl) ?_
          try simp only [Act.put, List.setIfInBounds_toArray, List.set_cons_zero, List.set_cons_succ]
          refine org_skip (by kernel_rfl) ?_
          try simp only [Act.put, List.setIfInBounds_toArray, List.set_cons_zero, List.set_cons_succ]
          refine org_skip (by kernel_rfl) ?_
          try simp only [Act.put, List.setIfInBounds_toArray, List.set_cons_zero, List.set_cons_succ]
          refine org_skip (by kernel_rfl) ?_
          try simp only [Act.put, List.setIfInBounds_toArray, List.set_cons_zero, List.set_cons_succ]
          refine org_skip (by kernel_rfl) ?_
          try simp only [Act.put, List.setIfInBounds_toArray, List.set_cons_zero, List.set_cons_succ]
          refine org_skip (by kernel_rfl) ?_
          try simp only [Act.put, List.setIfInBounds_toArray, List.set_cons_zero, List.set_cons_succ]
          refine org_pass (by kernel_rfl) ?_
          try simp only [Act.put, List.setIfInBounds_toArray, List.set_cons_zero, List.set_cons_succ]
          refine org_skip (by kernel_rfl) ?_
          try simp only [Act.put, List.setIfInBounds_toArray, List.set_cons_zero, List.set_cons_succ]
          refine org_pure (v := ?_) (by kernel_rfl) ?_ ?_
          rotate_left
          · intro w' hv; clear hv; go_simp; try with_reducible rfl
          try simp only [Act.put, List.setIfInBounds_toArray, List.set_cons_zero, List.set_cons_succ]
          refine org_nil ?_
          go_wp2_with fail
          go_ret
          exact ⟨rfl, HB.out⟩
        | true =>
          by_cases hr : RM = 0
          · subst hr
            have hq3 : goodQ (C.take (i + 1)) (C.drop (i + 1)) = V := HQ2.out
            have HQ3 := Lib.hid hq3
            clear hq3 HQ2
            refine wp_region_org [(0, true), (1, false), (2, true), (3, true), (4, true), (5, true), (6, true), (7, true), (8, true), (9, false), (10, true), (11, true), (12, true), (13, true), (14, true), (15, true), (16, true), (17, true), (18, true), (19, false), (20, true), (21, true)] (by kernel_rfl) (by kernel_rfl) (by kernel_rfl) ?_
            replace HB := Lib.hid (HB.out.drew)
            replace HX := Lib.hid (HX.out.drew)
            replace HT := Lib.hid (HT.out.drew)
            generalize W1.drew = wd at *
            simp only [pickOrs, List.getElem?_cons_zero, List.getElem?_cons_succ]
            refine org_pure (v := ?_) (by kernel_rfl) ?_ ?_
            rotate_left
            · intro w' hv; obtain ⟨cx, cy, cz⟩ : w'.cell? ⟨BX, 0, none⟩ = some (.string x) ∧ w'.cell? ⟨BX, 1, none⟩ = some (.bool d) ∧ w'.cell? ⟨BX, 2, none⟩ = some (.slice qb bb.length cb) := ⟨(HX.out.keep hv HX.out.lt).cellv rfl, (HX.out.keep hv HX.out.lt).cellv rfl, (HX.out.keep hv HX.out.lt).cellv rfl⟩; clear hv; go_simp; try with_reducible rfl
            try simp only [Act.put, List.setIfInBounds_toArray, List.set_cons_zero, List.set_cons_succ]
            refine org_step (by kernel_rfl) (fun K hK => ?_)
            go_wp2_with fail
            refine (HGE.out _).mono ?_
            rintro e wx ⟨rfl, hb⟩
            have HE2 := Lib.hid hb
            replace HB := Lib.hid (HB.out.trans (hb.mono HB.out.size))
            replace HX := Lib.hid (HX.out.keep hb HX.out.lt)
            replace HT := Lib.hid (HT.out.keep hb HT.out.lt)
            clear hb
            refine hK _ _ ⟨HE2.out, ?_⟩
            clear hK HE2
            try simp only [Act.put, List.setIfInBounds_toArray, List.set_cons_zero, List.set_cons_succ]
            refine org_pure (v := ?_) (by kernel_rfl) ?_ ?_
            rotate_left
            · intro w' hv; clear hv; go_simp; try with_reducible rfl
            try simp only [Act.put, List.setIfInBounds_toArray, List.set_cons_zero, List.set_cons_succ]
            refine org_pure (v := ?_) (by kernel_rfl) ?_ ?_
            rotate_left
            · intro w' hv; clear hv; go_simp; try with_reducible rfl
            try simp only [Act.put, List.setIfInBounds_toArray, List.set_cons_zero, List.set_cons_succ]
            refine org_pure (v := ?_) (by kernel_rfl) ?_ ?_
            rotate_left
            · intro w' hv; clear hv; go_simp; try with_reducible rfl
            try simp only [Act.put, List.setIfInBounds_toArray, List.set_cons_zero, List.set_cons_succ]
            refine org_pure (v := ?_) (by kernel_rfl) ?_ ?_
            rotate_left
            · intro w' hv; have cx := (HT.out.keep hv HT.out.lt).cellv (i := 0) (v := .slice (some a) C.length c) rfl; clear hv; go_simp; try with_reducible rfl
            try simp only [Act.put, List.setIfInBounds_toArray, List.set_cons_zero, List.set_cons_succ]
            refine org_pure (v := ?_) (by kernel_rfl) ?_ ?_
            rotate_left
            · intro w' hv; clear hv; go_simp; try with_reducible rfl
            try simp only [Act.put, List.setIfInBounds_toArray, List.set_cons_zero, List.set_cons_succ]
            refine org_pure (v := ?_) (by kernel_rfl) ?_ ?_
            rotate_left
            · intro w' hv; clear hv; go_simp; try with_reducible rfl
            try simp only [Act.put, List.setIfInBounds_toArray, List.set_cons_zero, List.set_cons_succ]
            refine org_pure (v := ?_) (by kernel_rfl) ?_ ?_
            rotate_left
            · intro w' hv; obtain ⟨cx, cy, cz⟩ : w'.cell? ⟨BX, 0, none⟩ = some (.string x) ∧ w'.cell? ⟨BX, 1, none⟩ = some (.bool d) ∧ w'.cell? ⟨BX, 2, none⟩ = some (.slice qb bb.length cb) := ⟨(HX.out.keep hv HX.out.lt).cellv rfl, (HX.out.keep hv HX.out.lt).cellv rfl, (HX.out.keep hv HX.out.lt).cellv rfl⟩; clear hv; go_simp; try with_reducible rfl
            try simp only [Act.put, List.setIfInBounds_toArray, List.set_cons_zero, List.set_cons_succ]
            refine org_step (by kernel_rfl) (fun K hK => ?_)
            go_wp2_with fail
            refine (HBH.out _ (HSI.out _ HB.out)).mono ?_
            rintro e wy ⟨rfl, hb⟩
            have HE2 := Lib.hid hb
            replace HB := Lib.hid (HB.out.trans (hb.mono HB.out.size))
            replace HX := Lib.hid (HX.out.keep hb HX.out.lt)
            replace HT := Lib.hid (HT.out.keep hb HT.out.lt)
            clear hb
            refine hK _ _ ⟨HE2.out, ?_⟩
            clear hK HE2
            try simp only [Act.put, List.setIfInBounds_toArray, List.set_cons_zero, List.set_cons_succ]
            refine org_pure (v := ?_) (by kernel_rfl) ?_ ?_
            rotate_left
            · intro w' hv; clear hv; go_simp; try with_reducible rfl
            try simp only [Act.put, List.setIfInBounds_toArray, List.set_cons_zero, List.set_cons_succ]
            refine org_pure (v := ?_) (by kernel_rfl) ?_ ?_
            rotate_left
            · intro w' hv; clear hv; go_simp; try with_reducible rfl
            try simp only [Act.put, List.setIfInBounds_toArray, List.set_cons_zero, List.set_cons_succ]
            refine org_pure (v := ?_) (by kernel_rfl) ?_ ?_
            rotate_left
            · intro w' hv; clear hv; go_simp; try with_reducible rfl
            try simp only [Act.put, List.setIfInBounds_toArray, List.set_cons_zero, List.set_cons_succ]
            refine org_pure (v := ?_) (by kernel_rfl) ?_ ?_
            rotate_left
            · intro w' hv; clear hv; go_simp; try with_reducible rfl
            try simp only [Act.put, List.setIfInBounds_toArray, List.set_cons_zero, List.set_cons_succ]
            refine org_pure (v := ?_) (by kernel_rfl) ?_ ?_
            rotate_left
            · intro w' hv; have cx := (HT.out.keep hv HT.out.lt).cellv (i := 0) (v := .slice (some a) C.length c) rfl; clear hv; go_simp; try with_reducible rfl
            try simp only [Act.put, List.setIfInBounds_toArray, List.set_cons_zero, List.set_cons_succ]
            refine org_pure (v := ?_) (by kernel_rfl) ?_ ?_
            rotate_left
            · intro w' hv; clear hv; go_simp; try with_reducible rfl
            try simp only [Act.put, List.setIfInBounds_toArray, List.set_cons_zero, List.set_cons_succ]
            refine org_pure (v := ?_) (by kernel_rfl) ?_ ?_
            rotate_left
            · intro w' hv; clear hv; go_simp; try with_reducible rfl
            try simp only [Act.put, List.setIfInBounds_toArray, List.set_cons_zero, List.set_cons_succ]
            refine org_pure (v := ?_) (by kernel_rfl) ?_ ?_
            rotate_left
            · intro w' hv; clear hv; go_simp; try with_reducible rfl
            try simp only [Act.put, List.setIfInBounds_toArray, List.set_cons_zero, List.set_cons_succ]
            refine org_pure (v := ?_) (by kernel_rfl) ?_ ?_
            rotate_left
            · intro w' hv; obtain ⟨cx, cy, cz⟩ : w'.cell? ⟨BX, 0, none⟩ = some (.string x) ∧ w'.cell? ⟨BX, 1, none⟩ = some (.bool d) ∧ w'.cell? ⟨BX, 2, none⟩ = some (.slice qb bb.length cb) := ⟨(HX.out.keep hv HX.out.lt).cellv rfl, (HX.out.keep hv HX.out.lt).cellv rfl, (HX.out.keep hv HX.out.lt).cellv rfl⟩; clear hv; go_simp; try with_reducible rfl
            try simp only [Act.put, List.setIfInBounds_toArray, List.set_cons_zero, List.set_cons_succ]
            refine org_step (by kernel_rfl) (fun K hK => ?_)
            go_wp2_with fail
            refine (HUI.out hxs _ (HSI.out _ HB.out)).mono ?_
            rintro e wz ⟨rfl, hb⟩
            have HE2 := Lib.hid hb
            replace HB := Lib.hid (HB.out.trans (hb.mono HB.out.size))
            replace HX := Lib.hid (HX.out.keep hb HX.out.lt)
            replace HT := Lib.hid (HT.out.keep hb HT.out.lt)
            clear hb
            refine hK _ _ ⟨HE2.out, ?_⟩
            clear hK HE2
            try simp only [Act.put, List.setIfInBounds_toArray, List.set_cons_zero, List.set_cons_succ]
            refine org_pure (v := ?_) (by kernel_rfl) ?_ ?_
            rotate_left
            · intro w' hv; clear hv; go_simp; try with_reducible rfl
            try simp only [Act.put, List.setIfInBounds_toArray, List.set_cons_zero, List.set_cons_succ]
            refine org_pure (v := ?_) (by kernel_rfl) ?_ ?_
            rotate_left
            · intro w' hv; clear hv; go_simp; try with_reducible rfl
            try simp only [Act.put, List.setIfInBounds_toArray, List.set_cons_zero, List.set_cons_succ]
            refine org_nil ?_
            go_wp2_with fail
            go_roundw
            case rel => exact ⟨i + 1, by omega, by go_num, HQ3.out, HNX.out trivial, HT.out, HB.out⟩
            case measure => simp [intOf]; omega
          · have hv : V = false := by rw [← HQ2.out, decide_eq_false hr]; rfl
            subst hv
            have kr : (RM = 0) = False := eq_false hr
            have krb : (RM == 0) = false := by simpa using hr
            have krn : (RM != 0) = true := by simpa using hr
            clear HQ2 HNX
            refine wp_region_org [(0, true), (1, false), (2, true), (3, true), (4, true), (5, true), (6, true), (7, true), (8, true), (9, false), (10, true), (11, true), (12, true), (13, true), (14, true), (15, true), (16, true), (17, true), (18, true), (19, false), (20, true), (21, true)] (by kernel_rfl) (by kernel_rfl) (by kernel_rfl) ?_
            replace HB := Lib.hid (HB.out.drew)
            replace HX := Lib.hid (HX.out.drew)
            replace HT := Lib.hid (HT.out.drew)
            generalize W1.drew = wd at *
            simp only [pickOrs, List.getElem?_cons_zero, List.getElem?_cons_succ]
            refine org_pure (v := ?_) (by kernel_rfl) ?_ ?_
            rotate_left
            · intro w' hv; obtain ⟨cx, cy, cz⟩ : w'.cell? ⟨BX, 0, none⟩ = some (.string x) ∧ w'.cell? ⟨BX, 1, none⟩ = some (.bool d) ∧ w'.cell? ⟨BX, 2, none⟩ = some (.slice qb bb.length cb) := ⟨(HX.out.keep hv HX.out.lt).cellv rfl, (HX.out.keep hv HX.out.lt).cellv rfl, (HX.out.keep hv HX.out.lt).cellv rfl⟩; clear hv; go_simp; try with_reducible rfl
            try simp only [Act.put, List.setIfInBounds_toArray, List.set_cons_zero, List.set_cons_succ]
            refine org_step (by kernel_rfl) (fun K hK => ?_)
            go_wp2_with fail
            refine (HGE.out _).mono ?_
            rintro e wx ⟨rfl, hb⟩
            have HE2 := Lib.hid hb
            replace HB := Lib.hid (HB.out.trans (hb.mono HB.out.size))
            replace HX := Lib.hid (HX.out.keep hb HX.out.lt)
            replace HT := Lib.hid (HT.out.keep hb HT.out.lt)
            clear hb
            refine hK _ _ ⟨HE2.out, ?_⟩
            clear hK HE2
            try simp only [Act.put, List.setIfInBounds_toArray, List.set_cons_zero, List.set_cons_succ]
            refine org_pure (v := ?_) (by kernel_rfl) ?_ ?_
            rotate_left
            · intro w' hv; clear hv; go_simp; try with_reducible rfl
            try simp only [Act.put, List.setIfInBounds_toArray, List.set_cons_zero, List.set_cons_succ]
            refine org_pure (v := ?_) (by kernel_rfl) ?_ ?_
            rotate_left
            · intro w' hv; clear hv; go_simp; try with_reducible rfl
            try simp only [Act.put, List.setIfInBounds_toArray, List.set_cons_zero, List.set_cons_succ]
            refine org_pure (v := ?_) (by kernel_rfl) ?_ ?_
            rotate_left
            · intro w' hv; clear hv; go_simp; try with_reducible rfl
            try simp only [Act.put, List.setIfInBounds_toArray, List.set_cons_zero, List.set_cons_succ]
            refine org_pure (v := ?_) (by kernel_rfl) ?_ ?_
            rotate_left
            · intro w' hv; have cx := (HT.out.keep hv HT.out.lt).cellv (i := 0) (v := .slice (some a) C.length c) rfl; clear hv; go_simp; try with_reducible rfl
            try simp only [Act.put, List.setIfInBounds_toArray, List.set_cons_zero, List.set_cons_succ]
            refine org_pure (v := ?_) (by kernel_rfl) ?_ ?_
            rotate_left
            · intro w' hv; clear hv; go_simp; try with_reducible rfl
            try simp only [Act.put, List.setIfInBounds_toArray, List.set_cons_zero, List.set_cons_succ]
            refine org_pure (v := ?_) (by kernel_rfl) ?_ ?_
            rotate_left
            · intro w' hv; clear hv; go_simp; try with_reducible rfl
            try simp only [Act.put, List.setIfInBounds_toArray, List.set_cons_zero, List.set_cons_succ]
            refine org_pure (v := ?_) (by kernel_rfl) ?_ ?_
            rotate_left
            · intro w' hv; obtain ⟨cx, cy, cz⟩ : w'.cell? ⟨BX, 0, none⟩ = some (.string x) ∧ w'.cell? ⟨BX, 1, none⟩ = some (.bool d) ∧ w'.cell? ⟨BX, 2, none⟩ = some (.slice qb bb.length cb) := ⟨(HX.out.keep hv HX.out.lt).cellv rfl, (HX.out.keep hv HX.out.lt).cellv rfl, (HX.out.keep hv HX.out.lt).cellv rfl⟩; clear hv; go_simp; try with_reducible rfl
            try simp only [Act.put, List.setIfInBounds_toArray, List.set_cons_zero, List.set_cons_succ]
            refine org_step (by kernel_rfl) (fun K hK => ?_)
            go_wp2_with fail
            refine (HBH.out _ (HSI.out _ HB.out)).mono ?_
            rintro e wy ⟨rfl, hb⟩
            have HE2 := Lib.hid hb
            replace HB := Lib.hid (HB.out.trans (hb.mono HB.out.size))
            replace HX := Lib.hid (HX.out.keep hb HX.out.lt)
            replace HT := Lib.hid (HT.out.keep hb HT.out.lt)
            clear hb
            refine hK _ _ ⟨HE2.out, ?_⟩
            clear hK HE2
            try simp only [Act.put, List.setIfInBounds_toArray, List.set_cons_zero, List.set_cons_succ]
            refine org_pure (v := ?_) (by kernel_rfl) ?_ ?_
            rotate_left
            · intro w' hv; clear hv; go_simp; try with_reducible rfl
            try simp only [Act.put, List.setIfInBounds_toArray, List.set_cons_zero, List.set_cons_succ]
            refine org_pure (v := ?_) (by kernel_rfl) ?_ ?_
            rotate_left
            · intro w' hv; clear hv; go_simp; try with_reducible rfl
            try simp only [Act.put, List.setIfInBounds_toArray, List.set_cons_zero, List.set_cons_succ]
            refine org_pure (v := ?_) (by kernel_rfl) ?_ ?_
            rotate_left
            · intro w' hv; clear hv; go_simp; try with_reducible rfl
            try simp only [Act.put, List.setIfInBounds_toArray, List.set_cons_zero, List.set_cons_succ]
            refine org_pure (v := ?_) (by kernel_rfl) ?_ ?_
            rotate_left
            · intro w' hv; clear hv; go_simp; try with_reducible rfl
            try simp only [Act.put, List.setIfInBounds_toArray, List.set_cons_zero, List.set_cons_succ]
            refine org_pure (v := ?_) (by kernel_rfl) ?_ ?_
            rotate_left
            · intro w' hv; have cx := (HT.out.keep hv HT.out.lt).cellv (i := 0) (v := .slice (some a) C.length c) rfl; clear hv; go_simp; try with_reducible rfl
            try simp only [Act.put, List.setIfInBounds_toArray, List.set_cons_zero, List.set_cons_succ]
            refine org_pure (v := ?_) (by kernel_rfl) ?_ ?_
            rotate_left
            · intro w' hv; clear hv; go_simp; try with_reducible rfl
            try simp only [Act.put, List.setIfInBounds_toArray, List.set_cons_zero, List.set_cons_succ]
            refine org_pure (v := ?_) (by kernel_rfl) ?_ ?_
            rotate_left
            · intro w' hv; clear hv; go_simp; try with_reducible rfl
            try simp only [Act.put, List.setIfInBounds_toArray, List.set_cons_zero, List.set_cons_succ]
            refine org_pure (v := ?_) (by kernel_rfl) ?_ ?_
            rotate_left
            · intro w' hv; clear hv; go_simp; try with_reducible rfl
            try simp only [Act.put, List.setIfInBounds_toArray, List.set_cons_zero, List.set_cons_succ]
            refine org_pure (v := ?_) (by kernel_rfl) ?_ ?_
            rotate_left
            · intro w' hv; obtain ⟨cx, cy, cz⟩ : w'.cell? ⟨BX, 0, none⟩ = some (.string x) ∧ w'.cell? ⟨BX, 1, none⟩ = some (.bool d) ∧ w'.cell? ⟨BX, 2, none⟩ = some (.slice qb bb.length cb) := ⟨(HX.out.keep hv HX.out.lt).cellv rfl, (HX.out.keep hv HX.out.lt).cellv rfl, (HX.out.keep hv HX.out.lt).cellv rfl⟩; clear hv; go_simp; try with_reducible rfl
            try simp only [Act.put, List.setIfInBounds_toArray, List.set_cons_zero, List.set_cons_succ]
            refine org_step (by kernel_rfl) (fun K hK => ?_)
            go_wp2_with fail
            refine (HUI.out hxs _ (HSI.out _ HB.out)).mono ?_
            rintro e wz ⟨rfl, hb⟩
            have HE2 := Lib.hid hb
            replace HB := Lib.hid (HB.out.trans (hb.mono HB.out.size))
            replace HX := Lib.hid (HX.out.keep hb HX.out.lt)
            replace HT := Lib.hid (HT.out.keep hb HT.out.lt)
            clear hb
            refine hK _ _ ⟨HE2.out, ?_⟩
            clear hK HE2
            try simp only [Act.put, List.setIfInBounds_toArray, List.set_cons_zero, List.set_cons_succ]
            refine org_pure (v := ?_) (by kernel_rfl) ?_ ?_
            rotate_left
            · intro w' hv; clear hv; go_simp; try with_reducible rfl
            try simp only [Act.put, List.setIfInBounds_toArray, List.set_cons_zero, List.set_cons_succ]
            refine org_pure (v := ?_) (by kernel_rfl) ?_ ?_
            rotate_left
            · intro w' hv; clear hv; go_simp; try with_reducible rfl
            try simp only [Act.put, List.setIfInBounds_toArray, List.set_cons_zero, List.set_cons_succ]
            refine org_nil ?_
            go_wp2_with fail
            go_ret
            exact ⟨rfl, HB.out⟩
    · have hil : i = C.length := by omega
      subst hil
      have k0 : ¬ (C.length : Int) < (C.length : Int) := by omega
      have hv : V = true := by have h := HQ.out; rw [List.drop_length] at h; exact h.symm
      subst hv
      clear hlt HQ
      go_wp2_with fail
      go_ret
      exact ⟨rfl, HB.out⟩
end Go.Proofs.YtefamkckoikeoaaDoor
/- Rows of entries in memory that a call owns: cloned, copied within, cleared. Contract: slices.Clone at entries. Condition: at most 10^6 entries. -/
namespace Go.Proofs.YtefamkckoikeoaaDoor
open Go.RowKit
theorem ent_infoT : (Tryd.prog.info? 32).map (fun i => (i.zero, i.size, i.bytes)) = some (some (.agg #[.string ⟨#[]⟩, .bool false, .slice none 0 0]), 3, 48) := by kernel_rfl
/-- A row of entries of the call's own. -/
def OwnT (w : World) (base : Nat) (v : Value) (C : List Ent) : Prop := w.ownsRow base 32 3 v C.length (rowC C)
theorem OwnT.nil (w : World) (base : Nat) : OwnT w base (.slice none 0 0) [] := World.ownsRow_nil w base 32 3
theorem OwnT.tr {w : World} {base : Nat} {v : Value} {C : List Ent} (h : OwnT w base v C) : TrV w v C := by
  rcases h.2 with ⟨rfl, h0⟩ | ⟨g, cap, cur, rfl, hb, hg, h1, _⟩
  · have : C = [] := List.eq_nil_of_length_eq_zero h0
    subst this
    exact ⟨none, 0, rfl, Nat.le_refl _, fun _ => rfl, Sees.nil _ _ _⟩
  · refine ⟨_, cap, rfl, h1, fun e => by (cases e), fun _ => ⟨_, rfl, (Array.getElem?_eq_some_iff.1 hg).1, ?_⟩⟩
    exact World.ownsRow.cells h (g := g) rfl
theorem OwnT.keep {w w' : World} {base : Nat} {v : Value} {C : List Ent} (h : OwnT w base v C) (hb : Below w.heap.size w w') : OwnT w' base v C := own_below3 h hb
theorem OwnT.drew {w : World} {base : Nat} {v : Value} {C : List Ent} (h : OwnT w base v C) : OwnT w.drew base v C := World.ownsRow.drew h
/-- As a block whole. -/
theorem OwnT.has {w : World} {base : Nat} {v : Value} {C : List Ent} (h : OwnT w base v C) : (v = .slice none 0 0 ∧ C = []) ∨ ∃ g cap l, v = .slice (some ⟨g, 0, none⟩) C.length cap ∧ base ≤ g ∧ Has w g 32 (rowC C ++ l) ∧ C.length ≤ cap ∧ cap ≤ maxLen ∧ 3 * C.length + l.length = cap * 3 := by
  rcases h.2 with ⟨rfl, h0⟩ | ⟨g, cap, cur, rfl, hb, hg, h1, h2, h3, h4⟩
  · exact .inl ⟨rfl, List.eq_nil_of_length_eq_zero h0⟩
  · refine .inr ⟨g, cap, cur.toList.drop (C.length * 3), rfl, hb, ?_, h1, h2, ?_⟩
    · unfold Has
      rw [hg, ← h4, List.take_append_drop]
    · have h3' : cur.toList.length = cap * 3 := by rw [← h3]; exact Array.length_toList
      rw [List.length_drop, h3']
      have := Nat.mul_le_mul_right 3 h1
      omega
theorem OwnT.of {w : World} {base g cap : Nat} {C : List Ent} {l : List Value} (hb : base ≤ g) (hg : Has w g 32 (rowC C ++ l)) (h1 : C.length ≤ cap) (h2 : cap ≤ maxLen) (h3 : 3 * C.length + l.length = cap * 3) : OwnT w base (.slice (some ⟨g, 0, none⟩) C.length cap) C := by
  refine ⟨by rw [rowC_len, Nat.mul_comm], .inr ⟨g, cap, (rowC C ++ l).toArray, rfl, hb, hg, h1, h2, ?_, ?_⟩⟩
  · rw [List.size_toArray, List.length_append, rowC_len]; omega
  · simp only []
    rw [List.take_left' (by rw [rowC_len, Nat.mul_comm])]
theorem one_row {w : World} {C : List Ent} (h : Ents w C) : ∀ v ∈ rowC C, v.oneCell' = true := fun v hv => by
  obtain ⟨e, he, hv⟩ := List.mem_flatMap.1 hv
  obtain ⟨qb, cb, h1, _⟩ := h e he
  have h1' : e.2.2.1 = _ := h1
  simp only [entC, List.mem_cons, List.mem_nil_iff, or_false] at hv
  rcases hv with rfl | rfl | rfl
  · rfl
  · rfl
  · rw [h1']; rfl
set_option maxHeartbeats 1000000 in
set_option maxRecDepth 100000 in
theorem tclone_any (C : List Ent) (q : Option Addr) (c : Nat) (hm : C.length ≤ 1000000) (w : World) (hq : q = none → c = 0) (hs : Sees w w.heap.size q (rowC C)) (hE : Ents w C) :
    Calls Tryd.prog 46 #[.slice q C.length c] w fun e w' => (∃ v, e = .returned v ∧ OwnT w' w.heap.size v C) ∧ Below w.heap.size w w' := by
  have HS := Lib.hid hs
  have HO := Lib.hid (one_row hE)
  have hn := run_eql_slice_nil (P := Tryd.prog) w 23 32 q C.length c Tryd.underlying23
  clear hs hE
  rcases q with _ | a
  · have hx0 : C = [] := by
      rcases C with _ | ⟨y, l⟩
      · rfl
      · obtain ⟨a, h1, _⟩ := HS.out.get (by rw [rowC_len]; simp)
        cases h1
    subst hx0
    obtain rfl := hq rfl
    simp only [Option.isNone_none, List.length_nil] at hn
    clear hq
    go_enter Tryd.func46, Tryd.ntmps46
    go_wp2_with fail
    go_ret
    exact ⟨⟨_, rfl, OwnT.nil _ _⟩, Below.refl _ _⟩
  · clear hq
    simp only [Option.isNone_some] at hn
    obtain ⟨i0, hi, hz0, hz1, hz2⟩ := info_parts ent_infoT
    have ho : (w.alloc (.cells #[] 32)).ownsRow w.heap.size 32 3 (.slice (some ⟨w.heap.size, 0, none⟩) 0 0) 0 [] := World.ownsRow_made w #[] 0 (Nat.le_refl _) (by unfold maxLen; omega) (by simp)
    have HOW := Lib.hid ho
    have HB : Hid (Below w.heap.size w (w.alloc (.cells #[] 32))) := Lib.hid ((Below.refl _ _).alloc (Nat.le_refl _) _)
    clear ho
    by_cases hz : C = []
    · subst hz
      simp only [List.length_nil] at hn
      go_enter Tryd.func46, Tryd.ntmps46
      go_wp2_with (at_builtin; refine wpList_append_own _ rfl _ _ 23 rfl w.heap.size 32 i0 _ 3 48 Tryd.underlying23 hi hz0 hz1 hz2 rfl (by decide) _ 0 [] rfl HOW.out a 0 c [] rfl rfl (fun j u hj => by simp at hj) (by simp) (by unfold maxLen; omega) (by decide) HB.out.size ?_; intro v' w' h1 h2 _; have H1 := Lib.hid h1; have H2 := Lib.hid (HB.out.grown h2 HB.out.size (fun k hk => by have := HOW.out.lt k hk; omega)); clear h1 h2)
      go_ret
      exact ⟨⟨_, rfl, H1.out⟩, H2.out⟩
    · obtain ⟨a', e, _, hc⟩ := HS.out.get (by rw [rowC_len]; have := List.length_pos_iff.2 hz; omega)
      cases e
      have HC : Hid (∀ j u, (rowC C)[j]? = some u → (w.alloc (.cells #[] 32)).cell? (a.add j) = some u) := Lib.hid (fun j u hj => by
        obtain ⟨a', e, hb, hc⟩ := HS.out.get (by rw [rowC_len]; have := List.length_pos_iff.2 hz; omega)
        cases e
        exact (HB.out.cell (by rw [add_block]; exact hb)).trans (hc j u hj))
      clear hc hz
      go_enter Tryd.func46, Tryd.ntmps46
      go_wp2_with (at_builtin; refine wpList_append_own _ rfl _ _ 23 rfl w.heap.size 32 i0 _ 3 48 Tryd.underlying23 hi hz0 hz1 hz2 rfl (by decide) _ 0 [] rfl HOW.out a C.length c (rowC C) rfl (by rw [rowC_len, Nat.mul_comm]) HC.out HO.out (by unfold maxLen; omega) (by omega) HB.out.size ?_; intro v' w' h1 h2 _; rw [Nat.zero_add, List.nil_append] at h1; have H1 := Lib.hid h1; have H2 := Lib.hid (HB.out.grown h2 HB.out.size (fun k hk => by have := HOW.out.lt k hk; omega)); clear h1 h2)
      go_ret
      exact ⟨⟨_, rfl, H1.out⟩, H2.out⟩
/-- copy, at elements of k cells: all is read before anything is written. -/
theorem run_copy_cellsK {P : Program} (w : World) (dT sT ty elem : TypeId) (k b o dLen dCap : Nat) (a : Addr) (sLen sCap : Nat) (cs : List Value)
    (hu : P.underlying dT = some (.slice elem)) (hs : (P.info? elem).map (·.size) = some k) (hn : cs.length = Nat.min sLen dLen * k)
    (hsrc : ∀ j v, cs[j]? = some v → w.cell? (a.add j) = some v) (hc : ∀ j, j < cs.length → (w.cell? ⟨b, o + j, none⟩).isSome = true) (hf : ∀ j, j < cs.length → w.frozen? ⟨b, o + j, none⟩ = false) (h1 : ∀ v ∈ cs, v.oneCell' = true) :
    (Builtin.copy_ #[dT, sT] ty #[.slice (some ⟨b, o, none⟩) dLen dCap, .slice (some a) sLen sCap]).run P w = .ok (goInt (Nat.min sLen dLen)) (w.setCells b o cs) := by
  have hl := run_loadCells_list (P := P) w a cs hsrc
  have hst := run_storeCells_cells (P := P) b o cs 0 w (by simpa using hc) (by simpa using hf) h1
  cases hq : P.info? elem with
  | none => simp [hq] at hs
  | some i =>
    have hi : i.size = k := by simpa [hq] using hs
    simp [Builtin.copy_, run_underlying hu, Builtin.lenOf, Builtin.firstCells, sizeOf, typeInfo, hq, hi]
    simp only [Nat.min_def] at hn ⊢
    rw [← hn]
    simp [hl, hst]
end Go.Proofs.YtefamkckoikeoaaDoor
/- Contract: slices.Insert of one entry into a row of entries that the call owns. Condition: at most 1000 entries. -/
namespace Go.Proofs.YtefamkckoikeoaaDoor
open Go.RowKit
set_option maxHeartbeats 4000000 in
set_option maxRecDepth 100000 in
theorem tinsertEnd_any (C : List Ent) (e : Ent) (v : Value) (base g2 : Nat) (hm : C.length ≤ 1000) (w : World) (hO : OwnT w base v C) (hbase : base ≤ w.heap.size) (hg2 : Has w g2 32 (entC e)) (h1e : e.2.2.1.oneCell' = true) :
    Calls Tryd.prog 45 #[v, .int .i64 (C.length : Int), .slice (some ⟨g2, 0, none⟩) 1 1] w fun e' w' => (∃ v', e' = .returned v' ∧ OwnT w' base v' (C ++ [e])) ∧ Below base w w' := by
  obtain ⟨i0, hi, hz0, hz1, hz2⟩ := info_parts ent_infoT
  have HO := Lib.hid hO
  have HC : Hid (∀ j u, (entC e)[j]? = some u → w.cell? ((⟨g2, 0, none⟩ : Addr).add j) = some u) := Lib.hid (fun j u hj => by
    have e2 : (Addr.add ⟨g2, 0, none⟩ j) = ⟨g2, j, none⟩ := by unfold Addr.add; split <;> simp_all
    rw [e2]; exact hg2.cellv hj)
  have H1E : Hid (∀ u ∈ entC e, u.oneCell' = true) := Lib.hid (fun u hu => by
    simp only [entC, List.mem_cons, List.mem_nil_iff, or_false] at hu
    rcases hu with rfl | rfl | rfl
    · rfl
    · rfl
    · exact h1e)
  have HEL : Hid ((entC e).length = 1 * 3) := Lib.hid rfl
  have HR : ∀ v' w', w'.ownsRow base 32 3 v' (C.length + 1) (rowC C ++ entC e) → OwnT w' base v' (C ++ [e]) := fun v' w' h => by unfold OwnT; rw [rowC_add, List.length_append]; exact h
  have HRR := Lib.hid HR
  generalize entC e = ec at *
  rcases hO.has with ⟨rfl, rfl⟩ | ⟨g, cap, l, rfl, hb, hg, hcap, hcm, hl⟩
  · have H0 : Hid (w.ownsRow base 32 3 (.slice none 0 0) 0 []) := Lib.hid HO.out
    have HRR0 : Hid (∀ v' w', w'.ownsRow base 32 3 v' 1 ec → OwnT w' base v' [e]) := Lib.hid (fun v' w' h => HRR.out v' w' (by simpa [rowC] using h))
    have h0 : ([] : List Ent).length = 0 := rfl
    clear hO HO HR HRR hg2 h1e
    go_enter Tryd.func45, Tryd.ntmps45
    go_wp2_with (at_builtin; refine wpList_append_own _ rfl _ _ 23 rfl base 32 i0 _ 3 48 Tryd.underlying23 hi hz0 hz1 hz2 rfl (by decide) _ 0 [] rfl H0.out ⟨g2, 0, none⟩ 1 1 ec rfl HEL.out HC.out H1E.out (by unfold maxLen; omega) (by decide) hbase ?_; intro v' w' h1 h2 _; have H1 := Lib.hid (HRR0.out _ _ h1); have H2 := Lib.hid ((Below.refl base w).grown h2 hbase (fun k hk => (H0.out.lt k hk).1)); clear h1 h2)
    go_ret
    exact ⟨⟨_, rfl, H1.out⟩, H2.out⟩
  · have kc : (C.length : Int) ≤ (cap : Int) := by omega
    clear hO HR hg2 h1e hg
    have HOO : Hid (w.ownsRow base 32 3 (.slice (some ⟨g, 0, none⟩) C.length cap) C.length (rowC C)) := Lib.hid HO.out
    clear HO
    go_enter Tryd.func45, Tryd.ntmps45
    go_wp2_with (at_builtin; refine wpList_append_own _ rfl _ _ 23 rfl base 32 i0 _ 3 48 Tryd.underlying23 hi hz0 hz1 hz2 rfl (by decide) _ C.length (rowC C) rfl HOO.out ⟨g2, 0, none⟩ 1 1 ec rfl HEL.out HC.out H1E.out (by unfold maxLen; omega) (by omega) hbase ?_; intro v' w' h1 h2 _; have H1 := Lib.hid (HRR.out _ _ h1); have H2 := Lib.hid ((Below.refl base w).grown h2 hbase (fun k hk => (HOO.out.lt k hk).1)); clear h1 h2)
    all_goals (go_ret; exact ⟨⟨_, rfl, H1.out⟩, H2.out⟩)
theorem has_shape {w : World} {g : Nat} {t : TypeId} {l : List Value} (h : Has w g t l) : w.shape? g = some (t, l.length) := by
  unfold Has at h; simp [World.shape?, h]
set_option maxHeartbeats 8000000 in
set_option maxRecDepth 100000 in
theorem tinsertRoom_any (C : List Ent) (i g cap : Nat) (l ec : List Value) (g2 : Nat) (hi : i < C.length) (hm : C.length ≤ 1000) (w : World) (hg : Has w g 32 (rowC C ++ l)) (hcap : C.length + 1 ≤ cap) (hl : 3 * C.length + l.length = cap * 3) (h1C : ∀ v ∈ rowC C, v.oneCell' = true)
    (hg2 : Has w g2 32 ec) (hel : ec.length = 3) (h1e : ∀ v ∈ ec, v.oneCell' = true) (hne : g2 ≠ g) :
    Calls Tryd.prog 45 #[.slice (some ⟨g, 0, none⟩) C.length cap, .int .i64 (i : Int), .slice (some ⟨g2, 0, none⟩) 1 1] w fun e' w' => e' = .returned (.slice (some ⟨g, 0, none⟩) (C.length + 1) cap) ∧ w' = (w.drew.setCells g ((i + 1) * 3) (rowC (C.drop i))).setCells g (i * 3) ec := by
  have hlt : (rowC C ++ l).length = cap * 3 := by rw [List.length_append, rowC_len]; omega
  have hsz : (Tryd.prog.info? 32).map (·.size) = some 3 := by kernel_rfl
  have hdl : (rowC (C.drop i)).length = (C.length - i) * 3 := by rw [rowC_len, List.length_drop, Nat.mul_comm]
  have hov : ∀ lb cb, (callFunc 76 #[.slice (some ⟨g2, 0, none⟩) 1 1, .slice (some ⟨g, (i + 1) * 3, none⟩) lb cb]).run Tryd.prog w = .ok (.value (.bool false)) w := fun lb cb => by
    rw [run_callFunc_extern Tryd.func76 (by kernel_rfl) (by kernel_rfl) (by kernel_rfl) (e := Extern.SlicesOverlaps.overlaps #[23, 23] #[4]) (by kernel_rfl),
      Lib.run_overlaps_apart w 23 4 32 Tryd.underlying23 3 Tryd.sizeOf32 ⟨g2, 0, none⟩ ⟨g, (i + 1) * 3, none⟩ 1 1 lb cb hne 32 32 ec.length (rowC C ++ l).length (has_shape hg2) (has_shape hg) (by rw [hlt]; omega) (hg2.free _) (hg2.free _)]
    rfl
  have hw1 : IntKind.i64.wrap ((i : Int) + 1) = (i : Int) + 1 := by rw [IntWalk.i64_in _ (by omega)]
  have hw2 : IntKind.i64.wrap ((C.length : Int) + 1) = (C.length : Int) + 1 := by rw [IntWalk.i64_in _ (by omega)]
  have hz2 : ((i : Int) = (C.length : Int)) = False := eq_false (by omega)
  have hz3 : ((cap : Int) < (C.length : Int) + 1) = False := eq_false (by omega)
  have hz4 : (i : Int) ≤ (C.length : Int) := by omega
  have hz5 : (C.length : Int) + 1 ≤ (cap : Int) := by omega
  have hz6 : (i : Int) + 1 ≤ (C.length : Int) + 1 := by omega
  have hz7 : (i : Int) ≤ (C.length : Int) + 1 := by omega
  have hb2 : (cap = i + 1) = False := eq_false (by omega)
  have hb4 : (cap = i) = False := eq_false (by omega)
  have htn : ((i : Int) + 1).toNat = i + 1 := by omega
  have hb1 : (0 : Int) ≤ (i : Int) + 1 := by omega
  have mixed : Tryd.prog.follows .mixedOrders = true := by kernel_rfl
  have htn2 : ((C.length : Int) + 1).toNat = C.length + 1 := by omega
  have hcp1 : ∀ ty dc sc, (Builtin.copy_ #[23, 23] ty #[.slice (some ⟨g, (i + 1) * 3, none⟩) (C.length - i) dc, .slice (some ⟨g, i * 3, none⟩) (C.length + 1 - i) sc]).run Tryd.prog w.drew = .ok (goInt ((C.length - i : Nat) : Int)) (w.drew.setCells g ((i + 1) * 3) (rowC (C.drop i))) := fun ty dc sc => by
    have h := run_copy_cellsK (P := Tryd.prog) w.drew 23 23 ty 32 3 g ((i + 1) * 3) (C.length - i) dc ⟨g, i * 3, none⟩ (C.length + 1 - i) sc (rowC (C.drop i)) Tryd.underlying23 hsz
      (by rw [hdl]; simp only [Nat.min_def]; split <;> omega)
      (fun j v hj => by
        rw [Addr.add_lit]
        refine hg.drew.cellv ?_
        have h3 : rowC C = rowC (C.take i) ++ rowC (C.drop i) := by rw [← rowC_app, List.take_append_drop]
        have h4 : (rowC (C.take i)).length = i * 3 := by rw [rowC_len, List.length_take]; omega
        rw [List.getElem?_append_left (by have := (List.getElem?_eq_some_iff.1 hj).1; rw [rowC_len]; omega), h3, List.getElem?_append_right (by omega), h4, Nat.add_sub_cancel_left]
        exact hj)
      (fun j hj => by rw [hg.drew.cell, List.getElem?_eq_getElem (by rw [hlt]; omega)]; rfl)
      (fun j hj => hg.drew.free _) (fun v hv => h1C v (by
        obtain ⟨e, he, hv⟩ := List.mem_flatMap.1 hv
        exact List.mem_flatMap.2 ⟨e, List.mem_of_mem_drop he, hv⟩))
    rw [h]
    congr 2
    simp only [Nat.min_def]
    split <;> omega
  obtain ⟨W1, hW1⟩ : ∃ W1, W1 = w.drew.setCells g ((i + 1) * 3) (rowC (C.drop i)) := ⟨_, rfl⟩
  have hgW : Has W1 g 32 ((rowC C ++ l).take ((i + 1) * 3) ++ rowC (C.drop i) ++ (rowC C ++ l).drop ((i + 1) * 3 + (rowC (C.drop i)).length)) := by
    rw [hW1]; exact Has.mid _ _ _ _ hg.drew (by rw [hdl, hlt]; omega)
  have hgl : ((rowC C ++ l).take ((i + 1) * 3) ++ rowC (C.drop i) ++ (rowC C ++ l).drop ((i + 1) * 3 + (rowC (C.drop i)).length)).length = cap * 3 := by
    rw [List.length_append, List.length_append, List.length_take, List.length_drop, hdl, hlt]; omega
  have hg2W : Has W1 g2 32 ec := by rw [hW1]; exact Has.offMid hne _ _ _ hg2.drew
  generalize ((rowC C ++ l).take ((i + 1) * 3) ++ rowC (C.drop i) ++ (rowC C ++ l).drop ((i + 1) * 3 + (rowC (C.drop i)).length)) = LW at *
  have hcp2 : ∀ (W : World), (∀ x, W.cell? x = W1.cell? x) → (∀ x, W.frozen? x = W1.frozen? x) → ∀ ty dc, (Builtin.copy_ #[23, 23] ty #[.slice (some ⟨g, i * 3, none⟩) (C.length + 1 - i) dc, .slice (some ⟨g2, 0, none⟩) 1 1]).run Tryd.prog W = .ok (goInt 1) (W.setCells g (i * 3) ec) := fun W hWc hWf ty dc => by
    have h := run_copy_cellsK (P := Tryd.prog) W 23 23 ty 32 3 g (i * 3) (C.length + 1 - i) dc ⟨g2, 0, none⟩ 1 1 ec Tryd.underlying23 hsz
      (by rw [hel]; simp only [Nat.min_def]; split <;> omega)
      (fun j v hj => by
        rw [Addr.add_lit, Nat.zero_add, hWc]
        exact hg2W.cellv hj)
      (fun j hj => by rw [hWc, hgW.cell, List.getElem?_eq_getElem (by rw [hgl]; omega)]; rfl)
      (fun j hj => by rw [hWf]; exact hgW.free _) h1e
    rw [h]
    congr 2
    simp only [Nat.min_def]
    split <;> omega
  rw [← hW1] at hcp1
  clear hcap hl hgW hg2W hg hg2
  go_enter Tryd.func45, Tryd.ntmps45
  go_wp2_with (simp only [hov])
  go_region_law_o (refine step_copy_runI rfl _ _ 23 23 rfl _ _ (by simp [Act.eval, Act.put]) (by simp [Act.eval, Act.put]) (hcp1 _ _ _) ?_)
  go_wp2_with (at_builtin; refine wpList_copy_runI _ rfl _ _ 23 23 rfl _ _ rfl rfl (hcp2 _ (fun _ => rfl) (fun _ => rfl) _ _) ?_)
  go_ret
  first | exact ⟨rfl, rfl⟩ | exact ⟨rfl, by rw [hW1]⟩
theorem zeroC_len (n : Nat) : (Builtin.zeroCells (Value.agg #[.string ⟨#[]⟩, .bool false, .slice none 0 0]).cells n).size = n * 3 := by rw [size_zeroCells]; rfl
set_option maxHeartbeats 8000000 in
set_option maxRecDepth 100000 in
theorem tinsertGrow_any (C : List Ent) (i g : Nat) (ec : List Value) (g2 : Nat) (hi : i < C.length) (hm : C.length ≤ 1000) (w : World) (hg : Has w g 32 (rowC C)) (h1C : ∀ v ∈ rowC C, v.oneCell' = true)
    (hg2 : Has w g2 32 ec) (hel : ec.length = 3) (h1e : ∀ v ∈ ec, v.oneCell' = true) :
    Calls Tryd.prog 45 #[.slice (some ⟨g, 0, none⟩) C.length C.length, .int .i64 (i : Int), .slice (some ⟨g2, 0, none⟩) 1 1] w fun e' w' => ∃ (G : Nat) (ROW : Array Value), C.length + 1 ≤ G ∧ G ≤ maxLen ∧ ROW.size = G * 3 ∧ ROW.toList.take (i * 3) = rowC (C.take i) ∧ e' = .returned (.slice (some ⟨w.heap.size, 0, none⟩) (C.length + 1) G) ∧
      w' = (((w.alloc (.cells ROW 32)).drew.setCells w.heap.size (i * 3) ec).drew).setCells w.heap.size ((i + 1) * 3) (rowC (C.drop i)) := by
  obtain ⟨i0, hi0, hz0, hzs, hzb⟩ := info_parts ent_infoT
  have hsz : (Tryd.prog.info? 32).map (·.size) = some 3 := by kernel_rfl
  have hdl : (rowC (C.drop i)).length = (C.length - i) * 3 := by rw [rowC_len, List.length_drop, Nat.mul_comm]
  have htl : (rowC (C.take i)).length = i * 3 := by rw [rowC_len, List.length_take]; omega
  have hrs : rowC C = rowC (C.take i) ++ rowC (C.drop i) := by rw [← rowC_app, List.take_append_drop]
  have hbw := hg.lt
  have hvw := hg2.lt
  have hkk : (C.length : Int) + 1 - (i : Int) = ((C.length + 1 - i : Nat) : Int) := by omega
  have hik : i + (C.length + 1 - i) = C.length + 1 := by omega
  have hold : (Builtin.firstCells i0.size i (.slice (some ⟨g, 0, none⟩) i C.length)).run Tryd.prog w.drew = .ok (rowC (C.take i)).toArray w.drew := by
    rw [hzs]
    exact run_firstCells_some w.drew 3 i ⟨g, 0, none⟩ i C.length (rowC (C.take i)) htl (fun j v hj => by
      rw [Addr.add_lit, Nat.zero_add]
      refine hg.drew.cellv ?_
      rw [hrs, List.getElem?_append_left (List.getElem?_eq_some_iff.1 hj).1]
      exact hj)
  obtain ⟨z, hz⟩ : ∃ z : Value, z = .agg #[.string ⟨#[]⟩, .bool false, .slice none 0 0] := ⟨_, rfl⟩
  have hzl : ∀ n, (Builtin.zeroCells z.cells n).size = n * 3 := fun n => by rw [hz]; exact zeroC_len n
  rw [← hz] at hz0
  have hrz : ∀ ty, (Builtin.append_ #[23, 3] ty #[.slice (some ⟨g, 0, none⟩) i C.length, .int .i64 ((C.length : Int) + 1 - (i : Int))]).run Tryd.prog w =
      .ok (.slice (some ⟨w.heap.size, 0, none⟩) (C.length + 1) (grownCap w (C.length + 1) C.length 32)) (w.drew.alloc (.cells ((rowC (C.take i)).toArray ++ Builtin.zeroCells z.cells (C.length + 1 - i) ++ Builtin.zeroCells z.cells (grownCap w (C.length + 1) C.length 32 - (C.length + 1))) 32)) := fun ty => by
    have h := Lib.run_append_grow_zeros (P := Tryd.prog) w 23 3 ty 32 i0 _ .i64 .i64 Tryd.underlying23 Tryd.underlying3 hi0 hz0 (some ⟨g, 0, none⟩) i C.length (rowC (C.take i)) hold (C.length + 1 - i) (by omega) (by omega) (by omega) (by omega) (by rw [hzb]; omega) (by rw [hzb, hik]; exact growslice_fits (by omega) (by omega))
    rw [hik] at h
    rw [hkk]
    exact h
  obtain ⟨G, hG⟩ : ∃ G, G = grownCap w (C.length + 1) C.length 32 := ⟨_, rfl⟩
  obtain ⟨ROW, hROW⟩ : ∃ ROW : Array Value, ROW = (rowC (C.take i)).toArray ++ Builtin.zeroCells z.cells (C.length + 1 - i) ++ Builtin.zeroCells z.cells (G - (C.length + 1)) := ⟨_, rfl⟩
  rw [← hG] at hrz
  rw [← hROW] at hrz
  have hGn : C.length + 1 ≤ G := by rw [hG]; exact grownCap_ge w _ _ _
  have hGM : G ≤ maxLen := by rw [hG]; exact grownCap_le_maxLen w (C.length + 1) C.length 32 (by unfold maxLen; omega)
  have hG63 : G ≤ 9223372036854775807 := by have h := hGM; unfold maxLen at h; omega
  have hRs : ROW.size = G * 3 := by
    rw [hROW, Array.size_append, Array.size_append, hzl, hzl, List.size_toArray, htl]; omega
  have hRt : ROW.toList.take (i * 3) = rowC (C.take i) := by
    rw [hROW, Array.toList_append, Array.toList_append, List.append_assoc]
    exact List.take_left' htl
  have HRES : Hid (C.length + 1 ≤ G ∧ G ≤ maxLen ∧ ROW.size = G * 3 ∧ ROW.toList.take (i * 3) = rowC (C.take i)) := Lib.hid ⟨hGn, hGM, hRs, hRt⟩
  have hRl : (C.length + 1) * 3 ≤ ROW.size := by rw [hRs]; omega
  obtain ⟨W1, hW1⟩ : ∃ W1, W1 = w.drew.alloc (.cells ROW 32) := ⟨_, rfl⟩
  rw [← hW1] at hrz
  have hN : Has W1 w.heap.size 32 ROW.toList := by rw [hW1]; exact Has.made w.drew 32 ROW
  have hOb : Has W1 g 32 (rowC C) := by rw [hW1]; exact hg.drew.alloc _
  have hOv : Has W1 g2 32 ec := by rw [hW1]; exact hg2.drew.alloc _
  have hNl : ROW.toList.length = ROW.size := Array.length_toList
  have hcpA : ∀ (W : World), (∀ x, W.cell? x = W1.cell? x) → (∀ x, W.frozen? x = W1.frozen? x) → ∀ ty dc, (Builtin.copy_ #[23, 23] ty #[.slice (some ⟨w.heap.size, i * 3, none⟩) (C.length + 1 - i) dc, .slice (some ⟨g2, 0, none⟩) 1 1]).run Tryd.prog W = .ok (goInt 1) (W.setCells w.heap.size (i * 3) ec) := fun W hWc hWf ty dc => by
    have h := run_copy_cellsK (P := Tryd.prog) W 23 23 ty 32 3 w.heap.size (i * 3) (C.length + 1 - i) dc ⟨g2, 0, none⟩ 1 1 ec Tryd.underlying23 hsz (by rw [hel]; simp only [Nat.min_def]; split <;> omega)
      (fun j v hj => by rw [Addr.add_lit, Nat.zero_add, hWc]; exact hOv.cellv hj)
      (fun j hj => by rw [hWc, hN.cell, List.getElem?_eq_getElem (by omega)]; rfl) (fun j hj => by rw [hWf]; exact hN.free _) h1e
    rw [h]
    congr 2
    simp only [Nat.min_def]
    split <;> omega
  have hGi : (G = i) = False := eq_false (by omega)
  have hGim : (G = i + 1) = False := eq_false (by omega)
  have hci : (C.length = i) = False := eq_false (by omega)
  have hbN : g ≠ w.heap.size := by omega
  have hN2 : Has (W1.setCells w.heap.size (i * 3) ec) w.heap.size 32 (ROW.toList.take (i * 3) ++ ec ++ ROW.toList.drop (i * 3 + ec.length)) := Has.mid _ _ _ _ hN (by omega)
  have hN2l : (ROW.toList.take (i * 3) ++ ec ++ ROW.toList.drop (i * 3 + ec.length)).length = ROW.size := by
    rw [List.length_append, List.length_append, List.length_take, List.length_drop, hel, hNl]; omega
  have hOb2 : Has (W1.setCells w.heap.size (i * 3) ec) g 32 (rowC C) := Has.offMid hbN _ _ _ hOb
  have hcpB : ∀ (W : World), (∀ x, W.cell? x = (W1.setCells w.heap.size (i * 3) ec).cell? x) → (∀ x, W.frozen? x = (W1.setCells w.heap.size (i * 3) ec).frozen? x) → ∀ ty dc sc, (Builtin.copy_ #[23, 23] ty #[.slice (some ⟨w.heap.size, (i + 1) * 3, none⟩) (C.length - i) dc, .slice (some ⟨g, i * 3, none⟩) (C.length - i) sc]).run Tryd.prog W = .ok (goInt ((C.length - i : Nat) : Int)) (W.setCells w.heap.size ((i + 1) * 3) (rowC (C.drop i))) := fun W hWc hWf ty dc sc => by
    have h := run_copy_cellsK (P := Tryd.prog) W 23 23 ty 32 3 w.heap.size ((i + 1) * 3) (C.length - i) dc ⟨g, i * 3, none⟩ (C.length - i) sc (rowC (C.drop i)) Tryd.underlying23 hsz (by rw [hdl]; simp only [Nat.min_def]; split <;> omega)
      (fun j v hj => by
        rw [Addr.add_lit, hWc]
        refine hOb2.cellv ?_
        rw [hrs, List.getElem?_append_right (by omega), htl, Nat.add_sub_cancel_left]
        exact hj)
      (fun j hj => by rw [hWc, hN2.cell, List.getElem?_eq_getElem (by rw [hN2l]; omega)]; rfl)
      (fun j hj => by rw [hWf]; exact hN2.free _) (fun v hv => h1C v (by
        obtain ⟨e, he, hv⟩ := List.mem_flatMap.1 hv
        exact List.mem_flatMap.2 ⟨e, List.mem_of_mem_drop he, hv⟩))
    rw [h]
    congr 2
    simp only [Nat.min_def]
    split <;> omega
  subst hW1
  have hE1 : ∀ x, ((w.alloc (.cells ROW 32)).drew).cell? x = (w.drew.alloc (.cells ROW 32)).cell? x := fun x => rfl
  have hE2 : ∀ x, ((w.alloc (.cells ROW 32)).drew).frozen? x = (w.drew.alloc (.cells ROW 32)).frozen? x := fun x => rfl
  have hF1 : ∀ x, (((w.alloc (.cells ROW 32)).drew.setCells w.heap.size (i * 3) ec).drew).cell? x = ((w.drew.alloc (.cells ROW 32)).setCells w.heap.size (i * 3) ec).cell? x := fun x => rfl
  have hF2 : ∀ x, (((w.alloc (.cells ROW 32)).drew.setCells w.heap.size (i * 3) ec).drew).frozen? x = ((w.drew.alloc (.cells ROW 32)).setCells w.heap.size (i * 3) ec).frozen? x := fun x => rfl
  have hw1 : IntKind.i64.wrap ((i : Int) + 1) = (i : Int) + 1 := by rw [IntWalk.i64_in _ (by omega)]
  have hw2 : IntKind.i64.wrap ((C.length : Int) + 1) = (C.length : Int) + 1 := by rw [IntWalk.i64_in _ (by omega)]
  have hw3 : IntKind.i64.wrap ((C.length : Int) + 1 - (i : Int)) = (C.length : Int) + 1 - (i : Int) := by rw [IntWalk.i64_in _ (by omega)]
  have hz2 : ((i : Int) = (C.length : Int)) = False := eq_false (by omega)
  have hz3 : (C.length : Int) < (C.length : Int) + 1 := by omega
  have hb1 : (0 : Int) ≤ (i : Int) + 1 := by omega
  have hb3 : (i : Int) ≤ (C.length : Int) := by omega
  have hb5 : (i : Int) ≤ (C.length : Int) + 1 := by omega
  have hb6 : (i : Int) + 1 ≤ (C.length : Int) + 1 := by omega
  have htn : ((i : Int) + 1).toNat = i + 1 := by omega
  have mixed : Tryd.prog.follows .mixedOrders = true := by kernel_rfl
  clear hkk hik hold hROW hG hRl hN hOb hOv hN2 hN2l hOb2 hRs hRt hNl hrs hg hg2 hz0 hz hzl
  go_enter Tryd.func45, Tryd.ntmps45
  go_wp2_with (first
    | (at_builtin; refine Lib.wpList_append_run _ rfl _ _ _ _ rfl _ _ rfl rfl _ _ (hrz _) ?_)
    | (at_builtin; refine wpList_copy_runI _ rfl _ _ 23 23 rfl _ _ rfl rfl (hcpA _ hE1 hE2 _ _) ?_)
    | (at_builtin; refine wpList_copy_runI _ rfl _ _ 23 23 rfl _ _ rfl rfl (hcpB _ (fun _ => rfl) (fun _ => rfl) _ _ _) ?_))
  go_region_law_o (refine step_copy_runI rfl _ _ 23 23 rfl (.slice (some ⟨w.heap.size, (i + 1) * 3, none⟩) (C.length - i) (G - (i + 1))) (.slice (some ⟨g, i * 3, none⟩) (C.length - i) (C.length - i)) (by simp [Act.eval, Act.put]) (by simp [Act.eval, Act.put]) (hcpB _ hF1 hF2 3 (G - (i + 1)) (C.length - i)) ?_)
  go_wp2
  go_ret
  exact ⟨G, ROW, HRES.out.1, HRES.out.2.1, HRES.out.2.2.1, HRES.out.2.2.2, rfl, rfl⟩
end Go.Proofs.YtefamkckoikeoaaDoor
/- Contract: slices.Insert of one entry into a row of entries that the call owns, whole. Condition: at most 1000 entries. -/
namespace Go.Proofs.YtefamkckoikeoaaDoor
open Go.RowKit
theorem one_ent {e : Ent} (h : e.2.2.1.oneCell' = true) : ∀ u ∈ entC e, u.oneCell' = true := fun u hu => by
  simp only [entC, List.mem_cons, List.mem_nil_iff, or_false] at hu
  rcases hu with rfl | rfl | rfl
  · rfl
  · rfl
  · exact h
theorem below_drew {b : Nat} {a w : World} (h : Below b a w) : Below b a w.drew := ⟨h.os, h.tape, h.output, h.size, h.block⟩
theorem tinsert_any (C : List Ent) (e : Ent) (i : Nat) (v : Value) (base g2 : Nat) (hi : i ≤ C.length) (hm : C.length ≤ 1000) (w : World) (hO : OwnT w base v C) (hbase : base ≤ w.heap.size) (hg2 : Has w g2 32 (entC e)) (h1C : ∀ u ∈ rowC C, u.oneCell' = true) (h1e : e.2.2.1.oneCell' = true) (hne : ∀ k, Value.ownBlock v = some k → g2 ≠ k) :
    Calls Tryd.prog 45 #[v, .int .i64 (i : Int), .slice (some ⟨g2, 0, none⟩) 1 1] w fun e' w' => (∃ v', e' = .returned v' ∧ OwnT w' base v' (C.take i ++ e :: C.drop i)) ∧ Below base w w' := by
  by_cases hil : i = C.length
  · subst hil
    rw [List.take_length, List.drop_length]
    exact tinsertEnd_any C e v base g2 hm w hO hbase hg2 h1e
  · have hlt : i < C.length := by omega
    have hrow : rowC (C.take i ++ e :: C.drop i) = rowC (C.take i) ++ (entC e ++ rowC (C.drop i)) := by rw [rowC_app, rowC_cons]
    have hlen : (C.take i ++ e :: C.drop i).length = C.length + 1 := by rw [List.length_append, List.length_cons, List.length_take, List.length_drop]; omega
    have htl : (rowC (C.take i)).length = i * 3 := by rw [rowC_len, List.length_take]; omega
    have hdl : (rowC (C.drop i)).length = (C.length - i) * 3 := by rw [rowC_len, List.length_drop, Nat.mul_comm]
    have hel : (entC e).length = 3 := rfl
    have hrs : rowC C = rowC (C.take i) ++ rowC (C.drop i) := by rw [← rowC_app, List.take_append_drop]
    rcases hO.has with ⟨rfl, rfl⟩ | ⟨g, cap, l, rfl, hb, hg, hcap, hcm, hl⟩
    · exact absurd hlt (by simp)
    · by_cases hr : C.length + 1 ≤ cap
      · refine (tinsertRoom_any C i g cap l (entC e) g2 hlt hm w hg hr hl h1C hg2 rfl (one_ent h1e) (hne g rfl)).mono ?_
        rintro e' w' ⟨rfl, rfl⟩
        have hL : (rowC C ++ l).length = cap * 3 := by rw [List.length_append, rowC_len]; omega
        have h1 := Has.mid (rowC (C.drop i)) ((i + 1) * 3) _ _ hg.drew (by rw [hdl, hL]; omega)
        have h2 := Has.mid (entC e) (i * 3) _ _ h1 (by
          rw [hel, List.length_append, List.length_append, List.length_take, List.length_drop, hdl, hL]; omega)
        refine ⟨⟨_, rfl, ?_⟩, below_setCells hb _ _ _ (below_setCells hb _ _ _ (below_drew (Below.refl _ _)))⟩
        rw [← hlen]
        have e1 : (List.take ((i + 1) * 3) (rowC C ++ l) ++ rowC (C.drop i) ++ List.drop ((i + 1) * 3 + (rowC (C.drop i)).length) (rowC C ++ l)).take (i * 3) = rowC (C.take i) := by
          rw [List.append_assoc, List.take_append_of_le_length (by rw [List.length_take]; omega), List.take_take, Nat.min_eq_left (by omega), hrs, List.append_assoc]
          exact List.take_left' htl
        have e2 : (List.take ((i + 1) * 3) (rowC C ++ l) ++ rowC (C.drop i) ++ List.drop ((i + 1) * 3 + (rowC (C.drop i)).length) (rowC C ++ l)).drop (i * 3 + (entC e).length) = rowC (C.drop i) ++ List.drop ((i + 1) * 3 + (rowC (C.drop i)).length) (rowC C ++ l) := by
          rw [List.append_assoc]
          exact List.drop_left' (by rw [List.length_take, hel]; omega)
        rw [e1, e2] at h2
        refine OwnT.of (l := List.drop ((i + 1) * 3 + (rowC (C.drop i)).length) (rowC C ++ l)) hb ?_ (by omega) hcm ?_
        · rw [hrow]; simpa [List.append_assoc] using h2
        · rw [List.length_drop, hdl, hL, hlen]; omega
      · have hce : cap = C.length := by omega
        subst hce
        have hl0 : l = [] := List.eq_nil_of_length_eq_zero (by omega)
        subst hl0
        rw [List.append_nil] at hg
        refine (tinsertGrow_any C i g (entC e) g2 hlt hm w hg h1C hg2 rfl (one_ent h1e)).mono ?_
        rintro e' w' ⟨G, ROW, hG1, hG2, hR1, hR2, rfl, rfl⟩
        have hR : ROW.toList.length = G * 3 := by rw [← hR1]; exact Array.length_toList
        have hb0 : Below base w (w.alloc (.cells ROW 32)).drew := below_drew (((Below.refl _ _).alloc (Nat.le_refl _) _).mono hbase)
        have h1 := Has.mid (entC e) (i * 3) _ _ (Has.made w 32 ROW).drew (by rw [hR, hel]; omega)
        have hl1 : (List.take (i * 3) ROW.toList ++ entC e ++ List.drop (i * 3 + (entC e).length) ROW.toList).length = G * 3 := by
          rw [List.length_append, List.length_append, List.length_take, List.length_drop, hel, hR]; omega
        have h2 := Has.mid (rowC (C.drop i)) ((i + 1) * 3) _ _ h1.drew (by rw [hdl, hl1]; omega)
        refine ⟨⟨_, rfl, ?_⟩, below_setCells hbase _ _ _ (below_drew (below_setCells hbase _ _ _ hb0))⟩
        rw [← hlen]
        have e1 : (List.take (i * 3) ROW.toList ++ entC e ++ List.drop (i * 3 + (entC e).length) ROW.toList).take ((i + 1) * 3) = rowC (C.take i) ++ entC e := by
          rw [hR2]
          exact List.take_left' (by rw [List.length_append, htl, hel]; omega)
        rw [e1] at h2
        refine OwnT.of (l := List.drop ((i + 1) * 3 + (rowC (C.drop i)).length) (List.take (i * 3) ROW.toList ++ entC e ++ List.drop (i * 3 + (entC e).length) ROW.toList)) hbase ?_ (by omega) hG2 ?_
        · rw [hrow]; simpa [List.append_assoc] using h2
        · rw [List.length_drop, hdl, hl1, hlen]; omega
end Go.Proofs.YtefamkckoikeoaaDoor
/- Contract: slices.Delete of one entry out of a row of entries that the call owns. Condition: at most 1000 entries. -/
namespace Go.Proofs.YtefamkckoikeoaaDoor
open Go.RowKit
theorem run_clear_cells {P : Program} (w : World) (t e ty : TypeId) (z : Value) (ht : P.underlying t = some (.slice e)) (hv : ∀ w, (zeroValue e).run P w = .ok z w) (zs : List Value) (n b o c : Nat) (hn : 0 < n) (hz : (Builtin.zeroCells z.cells n).toList = zs) (h1 : ∀ v ∈ zs, v.oneCell' = true)
    (hc : ∀ j, j < zs.length → (w.cell? ⟨b, o + j, none⟩).isSome = true) (hf : ∀ j, j < zs.length → w.frozen? ⟨b, o + j, none⟩ = false) :
    (Builtin.clear_ #[t] ty #[.slice (some ⟨b, o, none⟩) n c]).run P w = .ok (.tuple #[]) (w.setCells b o zs) := by
  have hst := run_storeCells_cells (P := P) b o zs 0 w (by simpa using hc) (by simpa using hf) h1
  simp only [Nat.add_zero] at hst
  obtain ⟨m, rfl⟩ : ∃ m, n = m + 1 := ⟨n - 1, by omega⟩
  simp [Builtin.clear_, run_underlying ht, hv, hz, hst]
def zeroE : List Value := [.string ⟨#[]⟩, .bool false, .slice none 0 0]
theorem zeroE_eq : (Builtin.zeroCells (Value.agg #[.string ⟨#[]⟩, .bool false, .slice none 0 0]).cells 1).toList = zeroE := by kernel_rfl
set_option maxHeartbeats 8000000 in
set_option maxRecDepth 100000 in
theorem tdelete_any (C : List Ent) (i g cap : Nat) (l : List Value) (hi : i < C.length) (hm : C.length ≤ 1000) (w : World) (hg : Has w g 32 (rowC C ++ l)) (hcap : C.length ≤ cap) (hl : 3 * C.length + l.length = cap * 3) (h1C : ∀ v ∈ rowC C, v.oneCell' = true) :
    Calls Tryd.prog 78 #[.slice (some ⟨g, 0, none⟩) C.length cap, .int .i64 (i : Int), .int .i64 ((i : Int) + 1)] w fun e' w' => e' = .returned (.slice (some ⟨g, 0, none⟩) (C.length - 1) cap) ∧ w' = (w.drew.setCells g (i * 3) (rowC (C.drop (i + 1)))).setCells g ((C.length - 1) * 3) zeroE := by
  obtain ⟨i0, hi0, hz0, hzs, hzb⟩ := info_parts ent_infoT
  have hL : (rowC C ++ l).length = cap * 3 := by rw [List.length_append, rowC_len]; omega
  have hdl : (rowC (C.drop (i + 1))).length = (C.length - (i + 1)) * 3 := by rw [rowC_len, List.length_drop, Nat.mul_comm]
  have htl : (rowC (C.take (i + 1))).length = (i + 1) * 3 := by rw [rowC_len, List.length_take]; omega
  have hrs : rowC C = rowC (C.take (i + 1)) ++ rowC (C.drop (i + 1)) := by rw [← rowC_app, List.take_append_drop]
  obtain ⟨news, hnews⟩ : ∃ news, news = rowC (C.drop (i + 1)) := ⟨_, rfl⟩
  rw [← hnews] at hdl hrs ⊢
  obtain ⟨A, hA, hsrc⟩ : ∃ A : Addr, (if cap = i + 1 then some (⟨g, 0, none⟩ : Addr) else some ⟨g, (i + 1) * 3, none⟩) = some A ∧ Hid (∀ t u, news[t]? = some u → w.drew.cell? (A.add t) = some u) := by
    by_cases h : cap = i + 1
    · refine ⟨⟨g, 0, none⟩, by simp [h], fun t u hu => ?_⟩
      have h0 : news.length = 0 := by omega
      rw [List.length_eq_zero_iff.1 h0] at hu
      simp at hu
    · refine ⟨⟨g, (i + 1) * 3, none⟩, by simp [h], fun t u hu => ?_⟩
      rw [Addr.add_lit]
      refine hg.drew.cellv ?_
      have ht := (List.getElem?_eq_some_iff.1 hu).1
      rw [List.getElem?_append_left (by rw [rowC_len]; omega), hrs, List.getElem?_append_right (by omega), htl, Nat.add_sub_cancel_left]
      exact hu
  have s1 : Hid (news.length = (C.length - (i + 1)) * 3) := hdl
  have s2 : Hid (∀ u ∈ news, u.oneCell' = true) := fun u hu => h1C u (by rw [hrs]; exact List.mem_append_right _ hu)
  have s3 : Hid (∀ t, t < news.length → (w.drew.cell? ⟨g, 0 + i * 3 + t, none⟩).isSome = true ∧ w.drew.frozen? ⟨g, 0 + i * 3 + t, none⟩ = false) := fun t ht =>
    ⟨by rw [hg.drew.cell, List.getElem?_eq_getElem (by omega)]; rfl, hg.drew.free _⟩
  obtain ⟨W1, hW1⟩ : ∃ W1, W1 = w.drew.setCells g (0 + i * 3) news := ⟨_, rfl⟩
  have hgW : Has W1 g 32 ((rowC C ++ l).take (0 + i * 3) ++ news ++ (rowC C ++ l).drop (0 + i * 3 + news.length)) := by
    rw [hW1]; exact Has.mid _ _ _ _ hg.drew (by omega)
  have hgl : ((rowC C ++ l).take (0 + i * 3) ++ news ++ (rowC C ++ l).drop (0 + i * 3 + news.length)).length = cap * 3 := by
    rw [List.length_append, List.length_append, List.length_take, List.length_drop, hL]; omega
  have hcl : ∀ ty, (Builtin.clear_ #[23] ty #[.slice (some ⟨g, (C.length - 1) * 3, none⟩) 1 (cap - (C.length - 1))]).run Tryd.prog W1 = .ok (.tuple #[]) (W1.setCells g ((C.length - 1) * 3) zeroE) :=
    fun ty => run_clear_cells (P := Tryd.prog) W1 23 32 ty _ Tryd.underlying23 Tryd.zeroValue32 zeroE 1 g ((C.length - 1) * 3) _ (by omega) zeroE_eq (fun v hv => by
      simp only [zeroE, List.mem_cons, List.mem_nil_iff, or_false] at hv
      rcases hv with rfl | rfl | rfl <;> rfl)
      (fun j hj => by rw [hgW.cell, List.getElem?_eq_getElem (by rw [hgl]; have : zeroE.length = 3 := rfl; omega)]; rfl) (fun j hj => hgW.free _)
  have hW : Hid (W1 = w.drew.setCells g (0 + i * 3) news) := hW1
  have hWr : Hid (W1 = w.drew.setCells g (i * 3) news) := by have h := hW1; rw [Nat.zero_add] at h; exact h
  have hic : (i : Int) ≤ (cap : Int) := by omega
  have hjc : (i : Int) + 1 ≤ (cap : Int) := by omega
  have hjl : (i : Int) + 1 ≤ (C.length : Int) := by omega
  have hil : (i : Int) ≤ (C.length : Int) := by omega
  have hii : (i : Int) ≤ (i : Int) + 1 := by omega
  have hi1 : (0 : Int) ≤ (i : Int) + 1 := by omega
  have htn : ((i : Int) + 1).toNat = i + 1 := by omega
  have hne : ((i : Int) = (i : Int) + 1) = False := eq_false (by omega)
  have hn1 : i + (C.length - (i + 1)) = C.length - 1 := by omega
  have hn2 : C.length - (C.length - 1) = 1 := by omega
  have hcc : ((cap = C.length - 1)) = False := eq_false (by omega)
  have mixed : Tryd.prog.follows .mixedOrders = true := by kernel_rfl
  clear hW1 hgW hgl hg hnews hrs htl hdl h1C hL
  go_enter Tryd.func78, Tryd.ntmps78
  go_wp2_with fail
  go_region_law_o (refine step_append_room rfl (.tmp 22) (.tmp 25) 23 rfl 32 i0 3 Tryd.underlying23 hi0 hzs g 0 i cap (by simp [Act.eval, Act.put]) A (C.length - (i + 1)) (cap - (i + 1)) news (by simp [Act.eval, Act.put]) s1.out hsrc.out s2.out (by omega) s3.out ?_; rw [← hW.out])
  go_wp2
  go_ret
  exact ⟨rfl, by rw [hWr.out]⟩
theorem tdel_any (C : List Ent) (i : Nat) (v : Value) (base : Nat) (hi : i < C.length) (hm : C.length ≤ 1000) (w : World) (hO : OwnT w base v C) (h1C : ∀ u ∈ rowC C, u.oneCell' = true) :
    Calls Tryd.prog 78 #[v, .int .i64 (i : Int), .int .i64 ((i : Int) + 1)] w fun e' w' => (∃ v', e' = .returned v' ∧ OwnT w' base v' (C.take i ++ C.drop (i + 1))) ∧ Below base w w' := by
  rcases hO.has with ⟨rfl, rfl⟩ | ⟨g, cap, l, rfl, hb, hg, hcap, hcm, hl⟩
  · exact absurd hi (by simp)
  · refine (tdelete_any C i g cap l hi hm w hg hcap hl h1C).mono ?_
    rintro e' w' ⟨rfl, rfl⟩
    have hL : (rowC C ++ l).length = cap * 3 := by rw [List.length_append, rowC_len]; omega
    have hdl : (rowC (C.drop (i + 1))).length = (C.length - (i + 1)) * 3 := by rw [rowC_len, List.length_drop, Nat.mul_comm]
    have htl : (rowC (C.take i)).length = i * 3 := by rw [rowC_len, List.length_take]; omega
    have hzl : zeroE.length = 3 := rfl
    generalize zeroE = Z at *
    have hrs : rowC C = rowC (C.take i) ++ rowC (C.drop i) := by rw [← rowC_app, List.take_append_drop]
    have hlen : (C.take i ++ C.drop (i + 1)).length = C.length - 1 := by rw [List.length_append, List.length_take, List.length_drop]; omega
    have h1 := Has.mid (rowC (C.drop (i + 1))) (i * 3) _ _ hg.drew (by rw [hdl, hL]; omega)
    have hl1 : (List.take (i * 3) (rowC C ++ l) ++ rowC (C.drop (i + 1)) ++ List.drop (i * 3 + (rowC (C.drop (i + 1))).length) (rowC C ++ l)).length = cap * 3 := by
      rw [List.length_append, List.length_append, List.length_take, List.length_drop, hdl, hL]; omega
    have h2 := Has.mid Z ((C.length - 1) * 3) _ _ h1 (by rw [hzl, hl1]; omega)
    refine ⟨⟨_, rfl, ?_⟩, below_setCells hb _ _ _ (below_setCells hb _ _ _ (below_drew (Below.refl _ _)))⟩
    generalize (w.drew.setCells g (i * 3) (rowC (C.drop (i + 1)))).setCells g ((C.length - 1) * 3) Z = WF at *
    rw [← hlen]
    have e0 : List.take (i * 3) (rowC C ++ l) = rowC (C.take i) := by rw [hrs, List.append_assoc]; exact List.take_left' htl
    rw [e0] at h2 hl1
    have e1 : (rowC (C.take i) ++ rowC (C.drop (i + 1)) ++ List.drop (i * 3 + (rowC (C.drop (i + 1))).length) (rowC C ++ l)).take ((C.length - 1) * 3) = rowC (C.take i) ++ rowC (C.drop (i + 1)) :=
      List.take_left' (by rw [List.length_append, htl, hdl]; omega)
    rw [e1] at h2
    refine OwnT.of (l := Z ++ List.drop ((C.length - 1) * 3 + Z.length) (rowC (C.take i) ++ rowC (C.drop (i + 1)) ++ List.drop (i * 3 + (rowC (C.drop (i + 1))).length) (rowC C ++ l))) hb ?_ (by omega) hcm ?_
    · rw [rowC_app]; simpa [List.append_assoc] using h2
    · rw [hlen, List.length_append, List.length_drop, hl1, hzl]; omega
end Go.Proofs.YtefamkckoikeoaaDoor
/- Contract: package path's Under. Condition: a text shorter than 2^63 bytes. -/
namespace Go.Proofs.YtefamkckoikeoaaDoor
open Go.RowKit Go.Shelf
theorem has_slash (n : ByteArray) : decide (0 ≤ Lib.indexByte n.data.toList 47) = n.data.toList.contains 47 := by
  rcases idx_cases n.data.toList with ⟨h1, h2⟩ | ⟨i, h0, h1, h2, h3⟩
  · rw [h1]
    have : n.data.toList.contains 47 = false := by simpa using h2
    rw [this]; rfl
  · rw [h1, decide_eq_true (by omega)]
    have : n.data.toList.contains 47 = true := by rw [h2]; simp
    rw [this]
theorem under_eq (p d : Tx) : underL p d = (Lib.hasPrefix p d && Lib.hasPrefix (Lib.trimPrefix p d) [47] && okPath p) := by
  unfold underL
  congr 1
  rw [Bool.eq_iff_iff, Bool.and_eq_true]
  unfold Lib.trimPrefix Lib.hasPrefix
  constructor
  · intro h
    obtain ⟨r, rfl⟩ := List.isPrefixOf_iff_prefix.1 h
    have h1 : d.isPrefixOf (d ++ [47] ++ r) = true := List.isPrefixOf_iff_prefix.2 ⟨47 :: r, by simp⟩
    refine ⟨h1, ?_⟩
    rw [if_pos h1]
    exact List.isPrefixOf_iff_prefix.2 ⟨r, by simp⟩
  · rintro ⟨h1, h⟩
    rw [if_pos h1] at h
    obtain ⟨t, rfl⟩ := List.isPrefixOf_iff_prefix.1 h1
    rw [List.drop_left] at h
    obtain ⟨r, rfl⟩ := List.isPrefixOf_iff_prefix.1 h
    exact List.isPrefixOf_iff_prefix.2 ⟨r, by simp⟩
set_option maxHeartbeats 1600000 in
theorem under_any (p d : ByteArray) (hp : p.size < 9223372036854775808) (w : World) :
    Calls Tryd.prog 81 #[.string p, .string d] w fun e w' => e = .returned (.bool (underL p.data.toList d.data.toList)) ∧ Below w.heap.size w w' := by
  rw [under_eq]
  have H1 := Lib.hid (fun w1 => good_any p (by omega) w1)
  have H2 := Lib.hid (fun w1 => cutPrefix_any p d w1)
  have H3 := Lib.hid (fun w1 => hasPrefix_any ⟨(Lib.trimPrefix p.data.toList d.data.toList).toArray⟩ ⟨#[47]⟩ w1)
  simp only at H3
  cases h1 : Lib.hasPrefix p.data.toList d.data.toList with
  | false =>
    rw [h1] at H2
    go_enter Tryd.func81, Tryd.ntmps81
    go_wp2_with (first | ((with_reducible refine (H2.out _).mono ?_); rintro e w1 ⟨rfl, rfl⟩))
    go_ret
    exact ⟨rfl, Below.refl _ _⟩
  | true =>
    rw [h1] at H2
    cases h2 : Lib.hasPrefix (Lib.trimPrefix p.data.toList d.data.toList) [47] with
    | false =>
      rw [h2] at H3
      go_enter Tryd.func81, Tryd.ntmps81
      go_wp2_with (first | ((with_reducible refine (H2.out _).mono ?_); rintro e w1 ⟨rfl, rfl⟩) | ((with_reducible refine (H3.out _).mono ?_); rintro e w1 ⟨rfl, rfl⟩))
      go_ret
      exact ⟨rfl, Below.refl _ _⟩
    | true =>
      rw [h2] at H3
      cases h3 : okPath p.data.toList with
      | false =>
        rw [h3] at H1
        go_enter Tryd.func81, Tryd.ntmps81
        go_wp2_with (first | ((with_reducible refine (H2.out _).mono ?_); rintro e w1 ⟨rfl, rfl⟩) | ((with_reducible refine (H3.out _).mono ?_); rintro e w1 ⟨rfl, rfl⟩) | ((with_reducible refine (H1.out _).mono ?_); rintro e w1 ⟨rfl, hb1⟩))
        go_ret
        exact ⟨rfl, hb1⟩
      | true =>
        rw [h3] at H1
        go_enter Tryd.func81, Tryd.ntmps81
        go_wp2_with (first | ((with_reducible refine (H2.out _).mono ?_); rintro e w1 ⟨rfl, rfl⟩) | ((with_reducible refine (H3.out _).mono ?_); rintro e w1 ⟨rfl, rfl⟩) | ((with_reducible refine (H1.out _).mono ?_); rintro e w1 ⟨rfl, hb1⟩))
        go_ret
        exact ⟨rfl, hb1⟩
end Go.Proofs.YtefamkckoikeoaaDoor
/- Contract: package path's Inside. Condition: a text shorter than 2^63 bytes. -/
namespace Go.Proofs.YtefamkckoikeoaaDoor
open Go.RowKit Go.Shelf
set_option maxHeartbeats 800000 in
theorem inside_any (p : ByteArray) (hp : p.size < 9223372036854775808) (w : World) :
    Calls Tryd.prog 55 #[.string p] w fun e w' => e = .returned (.bool (insideL p.data.toList)) ∧ Below w.heap.size w w' := by
  have H1 := Lib.hid (fun w1 => under_any p ⟨#[46, 119, 111, 114, 107]⟩ hp w1)
  have hl : p.toList = p.data.toList := Lib.toList_data p
  unfold insideL
  cases h1 : (p.data.toList == [46, 119, 111, 114, 107]) with
  | true =>
    go_enter Tryd.func55, Tryd.ntmps55
    go_wp2_with fail
    go_ret
    exact ⟨rfl, Below.refl _ _⟩
  | false =>
    cases h2 : underL p.data.toList [46, 119, 111, 114, 107] with
    | true =>
      simp only [h2] at H1
      go_enter Tryd.func55, Tryd.ntmps55
      go_wp2_with (first | ((with_reducible refine (H1.out _).mono ?_); rintro e w1 ⟨rfl, hb1⟩))
      go_ret
      exact ⟨rfl, hb1⟩
    | false =>
      simp only [h2] at H1
      go_enter Tryd.func55, Tryd.ntmps55
      go_wp2_with (first | ((with_reducible refine (H1.out _).mono ?_); rintro e w1 ⟨rfl, hb1⟩))
      go_ret
      exact ⟨rfl, hb1⟩
end Go.Proofs.YtefamkckoikeoaaDoor
/- Plain: what is left without Work. No condition. -/
namespace Go.Proofs.YtefamkckoikeoaaDoor
open Go.RowKit
def outT (C : List Ent) : List Ent := C.filter fun e => !(insideL e.pa)
def cleanT (C : List Ent) : List Ent := if goodT C = true then outT C else C
end Go.Proofs.YtefamkckoikeoaaDoor
/- Contracts: the predicate of package tree's Clean, slices.IndexFunc with it. Condition: paths shorter than 2^63 bytes. -/
namespace Go.Proofs.YtefamkckoikeoaaDoor
open Go.RowKit
set_option maxHeartbeats 4000000 in
theorem tcleanF_any (x : ByteArray) (d : Bool) (bv : Value) (hx : x.size < 9223372036854775808) (w : World) :
    Calls Tryd.prog 54 #[.agg #[.string x, .bool d, bv]] w fun e w' => e = .returned (.bool (insideL x.data.toList)) ∧ Below w.heap.size w w' := by
  have HC := Lib.hid (fun w1 => inside_any x hx w1)
  go_enter Tryd.func54, Tryd.ntmps54
  go_wp2_with (first | ((with_reducible refine (HC.out _).mono ?_); rintro e w1 ⟨rfl, hb1⟩; have HB := Lib.hid (((Below.refl _ w).alloc (Nat.le_refl _) (.cells #[.string x, .bool d, bv] 32)).trans (hb1.mono (by simp))); clear hb1))
  go_ret
  exact ⟨rfl, HB.out⟩
theorem outT_add (C : List Ent) (i : Nat) (h : i < C.length) : outT (C.take (i + 1)) = outT (C.take i) ++ (if insideL C[i].pa = true then [] else [C[i]]) := by
  unfold outT
  rw [List.take_add_one, List.getElem?_eq_getElem h, List.filter_append]
  cases hk : insideL C[i].pa <;> simp [hk]
set_option maxHeartbeats 8000000 in
set_option maxRecDepth 100000 in
theorem tindexF_any (C : List Ent) (q : Option Addr) (c : Nat) (hm : C.length ≤ 100000) (hn : ∀ e ∈ C, e.1.size < 9223372036854775808) (w : World) (hs : Sees w w.heap.size q (rowC C)) :
    Calls Tryd.prog 80 #[.slice q C.length c, .func (.func 54) #[] #[]] w fun e w' => ((e = .returned (.int .i64 (-1)) ∧ outT C = C) ∨ ∃ k : Nat, ∃ h : k < C.length, e = .returned (.int .i64 (k : Int)) ∧ outT (C.take k) = C.take k ∧ insideL C[k].pa = true) ∧ Below w.heap.size w w' := by
  have HS := Lib.hid hs
  have HN := Lib.hid hn
  clear hs hn
  go_enter Tryd.func80, Tryd.ntmps80
  go_wp2_with fail
  go_loopw [5, 8] (fun _ vi wr => ∃ i : Nat, i ≤ C.length ∧ vi = .int .i64 i ∧ outT (C.take i) = C.take i ∧ Below w.heap.size w wr) (fun _ vi _ => C.length - (intOf vi).toNat)
  case atStart => exact ⟨0, by omega, rfl, rfl, Below.refl _ _⟩
  case round =>
    rename_i wr
    obtain ⟨i, hi, rfl, hout, hB⟩ := hrel
    have HB := Lib.hid hB
    have HO := Lib.hid hout
    clear hB hout
    by_cases hlt : i < C.length
    · obtain ⟨a, rfl, ha, hc⟩ := HS.out.ent hlt
      obtain ⟨c1, c2, c3⟩ := hc wr HB.out
      have kk : (i : Int) < (C.length : Int) := by omega
      have hsz := HN.out C[i] (List.getElem_mem hlt)
      have HNX := Lib.hid (outT_add C i hlt)
      have HTK : Hid (C.take (i + 1) = C.take i ++ [C[i]]) := Lib.hid (by rw [List.take_add_one, List.getElem?_eq_getElem hlt]; rfl)
      have HIN : Hid (∀ h : insideL C[i].pa = true, ∃ k : Nat, ∃ h : k < C.length, (Ending.returned (.int .i64 (i : Int)) : Ending) = .returned (.int .i64 (k : Int)) ∧ outT (C.take k) = C.take k ∧ insideL C[k].pa = true) := Lib.hid (fun h => ⟨i, hlt, rfl, HO.out, h⟩)
      have hpa : C[i].pa = C[i].1.data.toList := rfl
      rw [hpa] at HNX HIN
      have HC := Lib.hid (fun w1 => tcleanF_any C[i].1 C[i].2.1 C[i].2.2.1 hsz w1)
      obtain ⟨e, he⟩ : ∃ e, C[i] = e := ⟨_, rfl⟩
      rw [he] at c1 c2 c3 HNX HTK HIN HC
      obtain ⟨x, d, bv, bb⟩ := e
      simp only [] at c1 c2 c3 HNX HC HIN
      clear hc ha hpa hsz he
      generalize insideL x.data.toList = IN at *
      cases IN with
      | true =>
        go_wp2_with (first | ((with_reducible refine (HC.out _).mono ?_); rintro e w1 ⟨rfl, hb1⟩; replace HB := Lib.hid (HB.out.trans (hb1.mono HB.out.size)); clear hb1))
        go_ret
        exact ⟨.inr (HIN.out trivial), HB.out⟩
      | false =>
        go_wp2_with (first | ((with_reducible refine (HC.out _).mono ?_); rintro e w1 ⟨rfl, hb1⟩; replace HB := Lib.hid (HB.out.trans (hb1.mono HB.out.size)); clear hb1))
        go_roundw
        case rel => exact ⟨i + 1, by omega, by go_num, by rw [HNX.out, HTK.out, HO.out]; rfl, HB.out⟩
        case measure => simp [intOf]; omega
    · have hil : i = C.length := by omega
      subst hil
      have k0 : ¬ (C.length : Int) < (C.length : Int) := by omega
      rw [List.take_length] at HO
      clear hlt
      go_wp2_with fail
      go_ret
      exact ⟨.inl ⟨rfl, HO.out⟩, HB.out⟩
end Go.Proofs.YtefamkckoikeoaaDoor
/- Contract: slices.DeleteFunc with the predicate of package tree's Clean, over a row of entries that the call owns. Conditions: at most 1000 entries, paths shorter than 2^63 bytes. -/
namespace Go.Proofs.YtefamkckoikeoaaDoor
open Go.RowKit
theorem Has.swap {w : World} {g : Nat} {t : TypeId} {A X B Y : List Value} (h : Has w g t (A ++ (X ++ B))) (hl : X.length = Y.length) : Has (w.setCells g A.length Y) g t (A ++ (Y ++ B)) := by
  have h1 := Has.mid Y A.length _ _ h (by rw [List.length_append, List.length_append]; omega)
  rw [List.take_left' rfl, ← List.append_assoc, List.drop_left' (by rw [List.length_append, hl]), List.append_assoc] at h1
  exact h1
theorem zeroC_one (n : Nat) : ∀ v ∈ (Builtin.zeroCells (Value.agg #[.string ⟨#[]⟩, .bool false, .slice none 0 0]).cells n).toList, v.oneCell' = true := fun v hv => by
  have hv' := Array.mem_toList_iff.1 hv
  obtain ⟨i, hi, rfl⟩ := Array.getElem_of_mem hv'
  have hc : (Value.agg #[.string ⟨#[]⟩, .bool false, .slice none 0 0]).cells = #[.string ⟨#[]⟩, .bool false, .slice none 0 0] := by kernel_rfl
  unfold Builtin.zeroCells
  simp only [hc]
  have h3 : i % 3 = 0 ∨ i % 3 = 1 ∨ i % 3 = 2 := by omega
  rcases h3 with h | h | h <;> simp [h] <;> rfl
/-- The row between two rounds. -/
def MidR (w : World) (g : Nat) (C : List Ent) (l : List Value) (i j : Nat) : Prop := ∃ M, M.length = 3 * (j - i) ∧ i ≤ j ∧ i = (outT (C.take j)).length ∧ Has w g 32 (rowC (outT (C.take j)) ++ (M ++ (rowC (C.drop j) ++ l)))
theorem MidR.keep {w w' : World} {g : Nat} {C : List Ent} {l : List Value} {i j : Nat} (h : MidR w g C l i j) (hb : Below w.heap.size w w') : MidR w' g C l i j := by
  obtain ⟨M, h1, h2, h3, h4⟩ := h
  exact ⟨M, h1, h2, h3, h4.keep hb h4.lt⟩
theorem MidR.cells {w : World} {g : Nat} {C : List Ent} {l : List Value} {i j : Nat} (h : MidR w g C l i j) (hj : j < C.length) :
    w.cell? ⟨g, j * 3, none⟩ = some (.string C[j].1) ∧ w.cell? ⟨g, j * 3 + 1, none⟩ = some (.bool C[j].2.1) ∧ w.cell? ⟨g, j * 3 + 2, none⟩ = some C[j].2.2.1 := by
  obtain ⟨M, h1, h2, h3, h4⟩ := h
  have hr : (rowC (outT (C.take j))).length = 3 * i := by rw [rowC_len, ← h3]
  have key : ∀ t, t < 3 → ∀ u, (entC C[j])[t]? = some u → w.cell? ⟨g, j * 3 + t, none⟩ = some u := fun t ht u hu => by
    refine h4.cellv ?_
    rw [List.getElem?_append_right (by omega), List.getElem?_append_right (by omega), hr, h1, show j * 3 + t - 3 * i - 3 * (j - i) = t by omega, List.drop_eq_getElem_cons hj, rowC_cons, List.append_assoc, List.getElem?_append_left (by show t < 3; exact ht)]
    exact hu
  exact ⟨key 0 (by omega) _ rfl, key 1 (by omega) _ rfl, key 2 (by omega) _ rfl⟩
theorem MidR.skip {w : World} {g : Nat} {C : List Ent} {l : List Value} {i j : Nat} (h : MidR w g C l i j) (hj : j < C.length) (hin : insideL C[j].pa = true) : MidR w g C l i (j + 1) := by
  obtain ⟨M, h1, h2, h3, h4⟩ := h
  have ho : outT (C.take (j + 1)) = outT (C.take j) := by rw [outT_add C j hj, if_pos hin, List.append_nil]
  refine ⟨M ++ entC C[j], by rw [List.length_append, h1]; show _ + 3 = _; omega, by omega, by rw [ho]; exact h3, ?_⟩
  rw [List.drop_eq_getElem_cons hj, rowC_cons] at h4
  rw [ho]
  simpa [List.append_assoc] using h4
theorem MidR.there {w : World} {g : Nat} {C : List Ent} {l : List Value} {i j : Nat} (h : MidR w g C l i j) (hij : i < j) : w.there g (i * 3) 3 := by
  obtain ⟨M, h1, h2, h3, h4⟩ := h
  refine h4.there _ _ ?_
  have hr : (rowC (outT (C.take j))).length = 3 * i := by rw [rowC_len, ← h3]
  rw [List.length_append, List.length_append, hr, h1]; omega
theorem MidR.put {w : World} {g : Nat} {C : List Ent} {l : List Value} {i j : Nat} (h : MidR w g C l i j) (hj : j < C.length) (hij : i < j) (hin : insideL C[j].pa = false) : MidR (w.setCells g (i * 3) (entC C[j])) g C l (i + 1) (j + 1) := by
  obtain ⟨M, h1, h2, h3, h4⟩ := h
  have ho : outT (C.take (j + 1)) = outT (C.take j) ++ [C[j]] := by rw [outT_add C j hj, if_neg (by rw [hin]; simp)]
  have hr : (rowC (outT (C.take j))).length = i * 3 := by rw [rowC_len, ← h3, Nat.mul_comm]
  have he : (entC C[j]).length = 3 := rfl
  have h5 : Has w g 32 (rowC (outT (C.take j)) ++ (M.take 3 ++ (M.drop 3 ++ (rowC (C.drop j) ++ l)))) := by rw [← List.append_assoc (M.take 3), List.take_append_drop]; exact h4
  have h6 := h5.swap (Y := entC C[j]) (by rw [List.length_take, h1, he]; omega)
  rw [hr] at h6
  refine ⟨M.drop 3 ++ entC C[j], by rw [List.length_append, List.length_drop, h1, he]; omega, by omega, by rw [ho, List.length_append, ← h3]; rfl, ?_⟩
  rw [List.drop_eq_getElem_cons hj, rowC_cons] at h6
  rw [ho, rowC_add]
  simpa [List.append_assoc] using h6
set_option maxHeartbeats 8000000 in
set_option maxRecDepth 100000 in
theorem tdeleteF_any (C : List Ent) (v : Value) (base : Nat) (hm : C.length ≤ 1000) (hn : ∀ e ∈ C, e.1.size < 9223372036854775808) (w : World) (hbase : base ≤ w.heap.size) (hO : OwnT w base v C) (hE : Ents w C) :
    Calls Tryd.prog 53 #[v, .func (.func 54) #[] #[]] w fun e w' => (∃ v', e = .returned v' ∧ OwnT w' base v' (outT C)) ∧ Below base w w' := by
  have HO := Lib.hid hO
  have HBB := Lib.hid hbase
  rcases hO.has with ⟨rfl, rfl⟩ | ⟨g, cap, l, rfl, hb, hg, hcap, hcm, hl⟩
  · have HI := Lib.hid (fun w1 => tindexF_any [] none 0 (by simp) hn w1 (Sees.nil _ _ _))
    have hout : outT [] = [] := rfl
    clear hn hE hO
    go_enter Tryd.func53, Tryd.ntmps53
    go_wp2_with fail
    refine (HI.out _).mono ?_
    rintro e w1 ⟨he, hb1⟩
    have HB := Lib.hid (hb1.mono HBB.out)
    replace HO := Lib.hid (HO.out.keep hb1)
    have he2 : e = .returned (.int .i64 (-1)) := by
      rcases he with ⟨h, _⟩ | ⟨k, hk, _⟩
      · exact h
      · exact absurd hk (by simp)
    subst he2
    clear he hb1 HI
    go_wp2_with fail
    go_ret
    exact ⟨⟨_, rfl, HO.out⟩, HB.out⟩
  · have hsee : ∀ w', Below w.heap.size w w' → Sees w' w'.heap.size (some ⟨g, 0, none⟩) (rowC C) := fun w' h => by
      obtain ⟨q, c, e, _, _, hs⟩ := (hO.keep h).tr
      cases e
      exact hs
    have HI := Lib.hid (fun w1 h => tindexF_any C (some ⟨g, 0, none⟩) cap (by omega) hn w1 (hsee w1 h))
    have HG := Lib.hid hg
    have HN := Lib.hid hn
    have HE := Lib.hid hE
    have HL := Lib.hid hl
    have HCM := Lib.hid hcm
    clear hO hg hsee hn hE hl hcm hbase
    go_enter Tryd.func53, Tryd.ntmps53
    go_wp2_with fail
    refine (HI.out _ (Below.refl _ _)).mono ?_
    rintro e w1 ⟨he, hb1⟩
    have HB := Lib.hid (hb1.mono HBB.out)
    replace HO := Lib.hid (HO.out.keep hb1)
    replace HG := Lib.hid (HG.out.keep hb1 HG.out.lt)
    have HSZ := Lib.hid (Nat.le_trans HBB.out hb1.size)
    clear hb1 HI
    rcases he with ⟨rfl, h⟩ | ⟨k, hk, rfl, h1, h2⟩
    · have HH := Lib.hid h
      clear h
      go_wp2_with fail
      go_ret
      exact ⟨⟨_, rfl, by rw [HH.out]; exact HO.out⟩, HB.out⟩
    · have kneg : ((k : Int) = -1) = False := eq_false (by omega)
      have kw : IntKind.i64.wrap ((k : Int) + 1) = (k : Int) + 1 := by rw [IntWalk.i64_in _ (by omega)]
      have HM : Hid (MidR w1 g C l k (k + 1)) := Lib.hid (by
        have hkl : (outT (C.take k)).length = k := by rw [h1, List.length_take]; omega
        have h0 : MidR w1 g C l k k := ⟨[], by simp, Nat.le_refl _, hkl.symm, by rw [h1, List.nil_append, ← List.append_assoc, ← rowC_app, List.take_append_drop]; exact HG.out⟩
        exact h0.skip hk h2)
      clear h1 h2 HO HG
      go_wp2_with fail
      go_loopw [5, 6, 7] (fun vi vj _ wr => ∃ i j : Nat, i < j ∧ j ≤ C.length ∧ vi = .int .i64 i ∧ vj = .int .i64 j ∧ MidR wr g C l i j ∧ base ≤ wr.heap.size ∧ Below base w wr) (fun _ vj _ _ => C.length - (intOf vj).toNat)
      case atStart => exact ⟨k, k + 1, by omega, by omega, rfl, by go_num, HM.out, HSZ.out, HB.out⟩
      case round =>
        rename_i wr
        clear HM HB HSZ
        obtain ⟨i, j, hij, hj, rfl, rfl, hM, hS, hB⟩ := hrel
        have HM := Lib.hid hM
        have HB := Lib.hid hB
        have HSZ := Lib.hid hS
        clear hM hB hS
        by_cases hlt : j < C.length
        · obtain ⟨c1, c2, c3⟩ := HM.out.cells hlt
          have kk : (j : Int) < (C.length : Int) := by omega
          have hsz := HN.out C[j] (List.getElem_mem hlt)
          have HC := Lib.hid (fun w1 => tcleanF_any C[j].1 C[j].2.1 C[j].2.2.1 hsz w1)
          have HSK : Hid (insideL C[j].1.data.toList = true → ∀ w', MidR w' g C l i j → MidR w' g C l i (j + 1)) := Lib.hid (fun h w' h' => h'.skip hlt h)
          have HPU : Hid (insideL C[j].1.data.toList = false → ∀ w', MidR w' g C l i j → MidR (w'.setCells g (i * 3) [.string C[j].1, .bool C[j].2.1, C[j].2.2.1]) g C l (i + 1) (j + 1)) := Lib.hid (fun h w' h' => h'.put hlt hij h)
          obtain ⟨qb, cb, hv, _, _, _⟩ := HE.out C[j] (List.getElem_mem hlt)
          have hv2 : C[j].2.2.1 = .slice qb C[j].2.2.2.length cb := hv
          rw [hv2] at c3 HC HPU
          generalize C[j].2.2.2.length = nb at *
          clear hv hv2
          generalize C[j].1 = x at *
          generalize C[j].2.1 = d at *
          clear hsz
          generalize insideL x.data.toList = IN at *
          have HTH : Hid (∀ w', MidR w' g C l i j → w'.there g (i * 3) 3) := Lib.hid (fun w' h => h.there hij)
          have kwi : IntKind.i64.wrap ((i : Int) + 1) = (i : Int) + 1 := by rw [IntWalk.i64_in _ (by omega)]
          have kwj : IntKind.i64.wrap ((j : Int) + 1) = (j : Int) + 1 := by rw [IntWalk.i64_in _ (by omega)]
          have kki : (i : Int) < (C.length : Int) := by omega
          go_wp2_with fail
          refine (HC.out _).mono ?_
          rintro e w2 ⟨rfl, hb2⟩
          have hx := (boxed hb2)
          have q0 := hx.cellv (i := 0) (v := .string x) rfl
          have q1 := hx.cellv (i := 1) (v := .bool d) rfl
          have q2 := hx.cellv (i := 2) (v := .slice qb nb cb) rfl
          have hba : Below wr.heap.size wr w2 := ((Below.refl _ wr).alloc (Nat.le_refl _) _).trans (hb2.mono (by simp))
          replace HM := Lib.hid (HM.out.keep hba)
          replace HB := Lib.hid (HB.out.trans (hba.mono HSZ.out))
          replace HSZ := Lib.hid (Nat.le_trans HSZ.out hba.size)
          generalize wr.heap.size = BX at *
          clear hx hb2 hba c1 c2 c3
          cases IN with
          | true =>
            replace HM := Lib.hid (HSK.out rfl _ HM.out)
            clear HPU
            go_wp2_with fail
            go_roundw
            case rel => exact ⟨_, _, _, _, _, _, _, _, _, _, _, _, _, _, _, _, _, _, _, _, _, _, _, ⟨i, j + 1, by omega, by omega, rfl, by go_num, HM.out, HSZ.out, HB.out⟩, rfl⟩
            case measure => simp [intOf]; omega
          | false =>
            have HM2 := Lib.hid (HPU.out rfl _ HM.out)
            have HB2 := Lib.hid (below_setCells hb [.string x, .bool d, .slice qb nb cb] (i * 3) _ HB.out)
            have HS2 : Hid (base ≤ (w2.setCells g (i * 3) [.string x, .bool d, .slice qb nb cb]).heap.size) := Lib.hid (Nat.le_trans HSZ.out (below_setCells (Nat.zero_le g) [.string x, .bool d, .slice qb nb cb] (i * 3) _ (Below.refl 0 w2)).size)
            clear HSK HPU
            have ht := HTH.out _ HM.out
            obtain ⟨u0, hu0⟩ := Option.isSome_iff_exists.1 (ht 0 (by omega)).1
            obtain ⟨u1, hu1⟩ := Option.isSome_iff_exists.1 (ht 1 (by omega)).1
            obtain ⟨u2, hu2⟩ := Option.isSome_iff_exists.1 (ht 2 (by omega)).1
            have hf0 := (ht 0 (by omega)).2
            have hf1 := (ht 1 (by omega)).2
            have hf2 := (ht 2 (by omega)).2
            rw [Nat.add_zero] at hu0 hf0
            clear ht HM HB HSZ
            go_wp2_with fail
            go_roundw
            case rel => exact ⟨_, _, _, _, _, _, _, _, _, _, _, _, _, _, _, _, _, _, _, _, _, _, _, ⟨i + 1, j + 1, by omega, by omega, by go_num, by go_num, HM2.out, HS2.out, HB2.out⟩, rfl⟩
            case measure => simp [intOf]; omega
        · have hjl : j = C.length := by omega
          subst hjl
          have k0 : ¬ (C.length : Int) < (C.length : Int) := by omega
          have kic : (i : Int) ≤ (cap : Int) := by omega
          have kil : (i : Int) ≤ (C.length : Int) := by omega
          have kci : (cap = i) = False := eq_false (by omega)
          obtain ⟨M, hM1, hM2, hM3, hM4⟩ := HM.out
          rw [List.take_length] at hM3 hM4
          rw [List.drop_length, rowC_nil, List.nil_append] at hM4
          obtain ⟨Z, hZ⟩ : ∃ Z, (Builtin.zeroCells (Value.agg #[.string ⟨#[]⟩, .bool false, .slice none 0 0]).cells (C.length - i)).toList = Z := ⟨_, rfl⟩
          have hZl : Z.length = 3 * (C.length - i) := by rw [← hZ, Array.length_toList, zeroC_len, Nat.mul_comm]
          have hZ1 : ∀ v ∈ Z, v.oneCell' = true := fun v hv => by
            rw [← hZ] at hv
            exact zeroC_one _ v hv
          have hr : (rowC (outT C)).length = i * 3 := by rw [rowC_len, ← hM3, Nat.mul_comm]
          have hcl : ∀ ty, (Builtin.clear_ #[23] ty #[.slice (some ⟨g, i * 3, none⟩) (C.length - i) (cap - i)]).run Tryd.prog wr = .ok (.tuple #[]) (wr.setCells g (i * 3) Z) :=
            fun ty => run_clear_cells (P := Tryd.prog) wr 23 32 ty _ Tryd.underlying23 Tryd.zeroValue32 Z (C.length - i) g (i * 3) _ (by omega) hZ hZ1
              (fun t ht => by rw [hM4.cell, List.getElem?_eq_getElem (by rw [List.length_append, List.length_append, hr, hM1]; omega)]; rfl) (fun t ht => hM4.free _)
          have HB2 := Lib.hid (below_setCells hb Z (i * 3) _ HB.out)
          have h6 := hM4.swap (Y := Z) (by rw [hM1, hZl])
          rw [hr] at h6
          have HF : Hid (OwnT (wr.setCells g (i * 3) Z) base (.slice (some ⟨g, 0, none⟩) i cap) (outT C)) := Lib.hid (by
            have h7 := OwnT.of (cap := cap) hb h6 (by omega) HCM.out (by rw [← hM3, List.length_append, hZl]; have := HL.out; omega)
            rw [← hM3] at h7
            exact h7)
          clear hM1 hM2 hM3 hM4 hZ hZl hZ1 hr h6 HM HB HSZ hlt
          go_wp2_with fail
          go_ret
          exact ⟨⟨_, rfl, HF.out⟩, HB2.out⟩
end Go.Proofs.YtefamkckoikeoaaDoor
/- Contracts: package tree's Bytes, Clean. Conditions: at most 1000 entries, all bytes together at most 2^62, paths shorter than 2^63 bytes. -/
namespace Go.Proofs.YtefamkckoikeoaaDoor
open Go.RowKit
theorem own_slice' {w : World} {base n size : Nat} {e : TypeId} {v : Value} {xs : List Value} (h : w.ownsRow base e size v n xs) : ∃ x m c, v = .slice x m c := by
  rcases h.2 with ⟨rfl, _⟩ | ⟨g, cap, cur, rfl, _⟩
  · exact ⟨_, _, _, rfl⟩
  · exact ⟨_, _, _, rfl⟩
theorem OwnT.set {w : World} {base : Nat} {v : Value} {C : List Ent} (h : OwnT w base v C) {p : Addr} (hp : p.block < base) (u : Value) : OwnT (w.setCell p u) base v C := by
  rcases h.has with ⟨rfl, rfl⟩ | ⟨g, cap, l, rfl, hb, hg, h1, h2, h3⟩
  · exact OwnT.nil _ _
  · exact OwnT.of hb (hg.off (by omega) u) h1 h2 h3
def bytesP (C : List Ent) : Nat := if goodP C = true then bytesT C else 0
set_option maxHeartbeats 4000000 in
set_option maxRecDepth 100000 in
theorem tbytes_any (C : List Ent) (q : Option Addr) (c : Nat) (hm : C.length ≤ 100000) (hcap : C.length ≤ c) (hb : bytesT C ≤ 4611686018427387904) (hn : ∀ e ∈ C, e.1.size < 9223372036854775808) (w : World) (hs : Sees w w.heap.size q (rowC C)) (hE : Ents w C) :
    Calls Tryd.prog 19 #[.agg #[.slice q C.length c]] w fun e w' => e = .returned (.int .i64 (bytesP C : Int)) ∧ Below w.heap.size w w' := by
  have HG := Lib.hid (fun w1 (h : Below w.heap.size w w1) => tgood_any C q c hm hcap hb hn w1 ((hs.keep h).more h.size) (hE.keep h))
  have HZ := Lib.hid (fun w1 (h : Below w.heap.size w w1) => tsize_any C q c hm hb w1 ((hs.keep h).more h.size) (hE.keep h))
  have HB : Hid (Below w.heap.size w (w.alloc (.cells #[.slice q C.length c] 25))) := Lib.hid ((Below.refl _ _).alloc (Nat.le_refl _) _)
  have HX : Hid (Has (w.alloc (.cells #[.slice q C.length c] 25)) w.heap.size 25 [.slice q C.length c]) := Lib.hid (Has.made w _ _)
  unfold bytesP
  clear hs hE
  generalize goodP C = GC at *
  generalize bytesT C = N at *
  go_enter Tryd.func19, Tryd.ntmps19
  go_wp2_with fail
  refine (HG.out _ HB.out).mono ?_
  rintro e w1 ⟨rfl, hb⟩
  replace HB := Lib.hid (HB.out.trans (hb.mono HB.out.size))
  replace HX := Lib.hid (HX.out.keep hb HX.out.lt)
  clear hb
  cases GC with
  | false =>
    go_wp2_with fail
    go_ret
    exact ⟨rfl, HB.out⟩
  | true =>
    have cx := HX.out.cellv (i := 0) (v := .slice q C.length c) rfl
    go_wp2_with fail
    refine (HZ.out _ HB.out).mono ?_
    rintro e w2 ⟨rfl, hb⟩
    replace HB := Lib.hid (HB.out.trans (hb.mono HB.out.size))
    clear hb
    go_wp2_with fail
    go_ret
    exact ⟨rfl, HB.out⟩
def cleanP (C : List Ent) : List Ent := if goodP C = true then outT C else C
set_option maxHeartbeats 4000000 in
set_option maxRecDepth 100000 in
theorem tclean_any (C : List Ent) (q : Option Addr) (c : Nat) (hm : C.length ≤ 1000) (hcap : C.length ≤ c) (hq : q = none → c = 0) (hb : bytesT C ≤ 4611686018427387904) (hn : ∀ e ∈ C, e.1.size < 9223372036854775808) (w : World) (hs : Sees w w.heap.size q (rowC C)) (hE : Ents w C) :
    Calls Tryd.prog 16 #[.agg #[.slice q C.length c]] w fun e w' => (∃ v, e = .returned (.agg #[v]) ∧ TrV w' v (cleanP C)) ∧ Below w.heap.size w w' := by
  have HG := Lib.hid (fun w1 (h : Below w.heap.size w w1) => tgood_any C q c (by omega) hcap hb hn w1 ((hs.keep h).more h.size) (hE.keep h))
  have HCL := Lib.hid (fun w1 (h : Below w.heap.size w w1) => tclone_any C q c (by omega) w1 hq ((hs.keep h).more h.size) (hE.keep h))
  have HDF := Lib.hid (fun v w1 base (h : Below w.heap.size w w1) (hO : OwnT w1 base v C) (h2 : base ≤ w1.heap.size) => tdeleteF_any C v base hm hn w1 h2 hO (hE.keep h))
  have HTR : Hid (∀ w', Below w.heap.size w w' → TrV w' (.slice q C.length c) C) := Lib.hid (fun w' h => ⟨q, c, rfl, hcap, hq, (hs.keep h).more h.size⟩)
  have HB : Hid (Below w.heap.size w ((w.alloc (.cells #[.slice q C.length c] 25)).alloc (.cells #[.slice none 0 0] 25))) := Lib.hid (((Below.refl _ _).alloc (Nat.le_refl _) _).alloc (by simp) _)
  have HX : Hid (Has ((w.alloc (.cells #[.slice q C.length c] 25)).alloc (.cells #[.slice none 0 0] 25)) w.heap.size 25 [.slice q C.length c]) := Lib.hid ((Has.made w _ _).alloc _)
  have HY : Hid (Has ((w.alloc (.cells #[.slice q C.length c] 25)).alloc (.cells #[.slice none 0 0] 25)) (w.heap.size + 1) 25 [.slice none 0 0]) := Lib.hid (Has.made1 w _ _ _ _ rfl)
  unfold cleanP
  clear hs hE hq
  generalize goodP C = GC at *
  go_enter Tryd.func16, Tryd.ntmps16
  go_wp2_with fail
  refine (HG.out _ HB.out).mono ?_
  rintro e w1 ⟨rfl, hb⟩
  replace HB := Lib.hid (HB.out.trans (hb.mono HB.out.size))
  replace HX := Lib.hid (HX.out.keep hb HX.out.lt)
  replace HY := Lib.hid (HY.out.keep hb HY.out.lt)
  clear hb
  cases GC with
  | false =>
    have cx := HX.out.cellv (i := 0) (v := .slice q C.length c) rfl
    have cy := HY.out.cellv (i := 0) (v := .slice none 0 0) rfl
    have fy := HY.out.free 0
    go_wp2_with fail
    have cz : (w1.setCell ⟨w.heap.size + 1, 0, none⟩ (.slice q C.length c)).cell? ⟨w.heap.size + 1, 0, none⟩ = some (.slice q C.length c) := World.cell?_setCell_same' _ _ _ (by rw [cy]; rfl)
    refine bodyPost_ret (by simp [results, Tryd.results16, go_sem, cz]; try rfl) rfl ?_
    exact ⟨⟨_, rfl, HTR.out _ (HB.out.setCell (p := ⟨w.heap.size + 1, 0, none⟩) (by show w.heap.size ≤ w.heap.size + 1; omega) _)⟩, HB.out.setCell (p := ⟨w.heap.size + 1, 0, none⟩) (by show w.heap.size ≤ w.heap.size + 1; omega) _⟩
  | true =>
    have cx := HX.out.cellv (i := 0) (v := .slice q C.length c) rfl
    go_wp2_with fail
    have HYL0 := Lib.hid HY.out.lt
    refine (HCL.out _ HB.out).mono ?_
    rintro e w2 ⟨⟨v2, rfl, hO2⟩, hb⟩
    have HO2 := Lib.hid hO2
    have HZ2 := Lib.hid (HB.out.size)
    replace HB := Lib.hid (HB.out.trans (hb.mono HB.out.size))
    replace HY := Lib.hid (HY.out.keep hb HY.out.lt)
    have HS2 := Lib.hid hb.size
    have HYL := Lib.hid HYL0.out
    clear hb hO2 cx HYL0
    go_wp2_with fail
    refine (HDF.out _ _ _ HB.out HO2.out HS2.out).mono ?_
    rintro e w3 ⟨⟨v3, rfl, hO3⟩, hb⟩
    replace HY := Lib.hid (HY.out.keep hb HYL.out)
    replace HB := Lib.hid (HB.out.trans (hb.mono HZ2.out))
    obtain ⟨x5, m5, k5, rfl⟩ := own_slice' hO3
    have HO3 := Lib.hid hO3
    clear hb hO3 HO2
    have cy := HY.out.cellv (i := 0) (v := .slice none 0 0) rfl
    have fy := HY.out.free 0
    go_wp2_with fail
    have cz : (w3.setCell ⟨w.heap.size + 1, 0, none⟩ (.slice x5 m5 k5)).cell? ⟨w.heap.size + 1, 0, none⟩ = some (.slice x5 m5 k5) := World.cell?_setCell_same' _ _ _ (by rw [cy]; rfl)
    refine bodyPost_ret (by simp [results, Tryd.results16, go_sem, cz]; try rfl) rfl ?_
    refine ⟨⟨_, rfl, ?_⟩, HB.out.setCell (p := ⟨w.heap.size + 1, 0, none⟩) (by show w.heap.size ≤ w.heap.size + 1; omega) _⟩
    exact (HO3.out.set (p := ⟨w.heap.size + 1, 0, none⟩) HYL.out _).tr
end Go.Proofs.YtefamkckoikeoaaDoor
/- Plain: what stands straight in a directory. No condition. -/
namespace Go.Proofs.YtefamkckoikeoaaDoor
open Go.RowKit Go.Sort
def inT (C : List Ent) (p : Tx) : List Tx := (C.filter fun e => upV e.pa == p).map Ent.pa
def kidsT (C : List Ent) (p : Tx) : List Tx := if goodT C = true then inT C p else []
end Go.Proofs.YtefamkckoikeoaaDoor
/- Contract: package tree's Kids. Conditions: at most 50000 entries, all bytes together at most 2^62, paths shorter than 2^63 bytes. -/
namespace Go.Proofs.YtefamkckoikeoaaDoor
open Go.RowKit Go.Sort
theorem goodQ_all : ∀ (C pre : List Ent), goodQ pre C = true → ∀ e ∈ C, okEnt e = true
  | [], _, _, _, h => by cases h
  | x :: C, pre, hg, e, he => by
    rw [goodQ, Bool.and_eq_true, Bool.and_eq_true, Bool.and_eq_true] at hg
    rcases List.mem_cons.1 he with rfl | he
    · exact hg.1
    · exact goodQ_all C _ hg.2.2.2 e he
theorem goodP_ok {C : List Ent} (h : goodP C = true) : ∀ e ∈ C, okPath e.pa = true := fun e he => by
  unfold goodP at h
  rw [Bool.and_eq_true] at h
  have := goodQ_all C [] h.2 e he
  unfold okEnt at this
  rw [Bool.and_eq_true, Bool.and_eq_true] at this
  exact this.2.1
def kidsP (C : List Ent) (p : Tx) : List Tx := if goodP C = true then inT C p else []
set_option maxHeartbeats 4000000 in
set_option maxRecDepth 100000 in
theorem tkids_any (C : List Ent) (q : Option Addr) (c : Nat) (p : ByteArray) (hm : C.length ≤ 50000) (hcap : C.length ≤ c) (hb : bytesT C ≤ 4611686018427387904) (hn : ∀ e ∈ C, e.1.size < 9223372036854775808) (w : World) (hs : Sees w w.heap.size q (rowC C)) (hE : Ents w C) :
    Calls Tryd.prog 18 #[.agg #[.slice q C.length c], .string p] w fun e w' => (∃ v, e = .returned v ∧ Ts w' v (kidsP C p.data.toList)) ∧ Below w.heap.size w w' := by
  have HS := Lib.hid hs
  have HE := Lib.hid hE
  have HGO : Hid (goodP C = true → ∀ e ∈ C, e.1.size < 2305843009213693952) := Lib.hid (fun h e he => by have := ok_size (p := e.1) (goodP_ok h e he); omega)
  have HG := Lib.hid (fun w1 (h : Below w.heap.size w w1) => tgood_any C q c (by omega) hcap hb hn w1 ((hs.keep h).more h.size) (hE.keep h))
  have HNIL := Lib.hid (World.ownsRow_nil w w.heap.size 9 1)
  have HB : Hid (Below w.heap.size w (w.alloc (.cells #[.slice q C.length c] 25))) := Lib.hid ((Below.refl _ _).alloc (Nat.le_refl _) _)
  have HX : Hid (Has (w.alloc (.cells #[.slice q C.length c] 25)) w.heap.size 25 [.slice q C.length c]) := Lib.hid (Has.made w _ _)
  clear hs hE hn
  unfold kidsP
  generalize goodP C = G at *
  go_enter Tryd.func18, Tryd.ntmps18
  go_wp2_with fail
  refine (HG.out _ HB.out).mono ?_
  rintro e w1 ⟨rfl, hb1⟩
  replace HB := Lib.hid (HB.out.trans (hb1.mono HB.out.size))
  replace HX := Lib.hid (HX.out.keep hb1 HX.out.lt)
  clear hb1
  cases G with
  | false =>
    have HTR : Hid (Ts w1 (.slice none 0 0) []) := Lib.hid (Ts.own (L := []) (by exact World.ownsRow_nil w1 w1.heap.size 9 1))
    go_wp2_with fail
    go_ret
    first | exact ⟨⟨_, rfl, HTR.out⟩, HB.out⟩ | exact ⟨HTR.out, HB.out⟩
  | true =>
    have HN := Lib.hid (HGO.out rfl)
    have cx := HX.out.cellv (i := 0) (v := .slice q C.length c) rfl
    clear HGO
    go_wp2_with fail
    clear cx HX
    go_loopw [5, 7, 8, 9, 16] (fun v _ _ _ vi wr => ∃ i : Nat, i ≤ C.length ∧ vi = .int .i64 i ∧ wr.ownsRow w.heap.size 9 1 v ((inT (C.take i) p.data.toList).map encStr).length ((inT (C.take i) p.data.toList).map encStr) ∧ Below w.heap.size w wr) (fun _ _ _ _ vi _ => C.length - (intOf vi).toNat)
    case atStart => exact ⟨0, by omega, rfl, World.ownsRow_nil _ _ _ _, HB.out⟩
    case round =>
      rename_i wr
      clear HB
      obtain ⟨i, hi, rfl, hrow, hB⟩ := hrel
      have HROW := Lib.hid hrow
      have HB := Lib.hid hB
      clear hrow hB
      by_cases hlt : i < C.length
      · have kk : (i : Int) < (C.length : Int) := by omega
        obtain ⟨a, rfl, ha, hc⟩ := HS.out.ent hlt
        obtain ⟨c1, c2, c3⟩ := hc wr HB.out
        obtain ⟨qb, cb, hv, _, _, _⟩ := HE.out C[i] (List.getElem_mem hlt)
        have hv2 : C[i].2.2.1 = .slice qb C[i].2.2.2.length cb := hv
        rw [hv2] at c3
        have hsz := HN.out C[i] (List.getElem_mem hlt)
        have hgl : ((inT (C.take i) p.data.toList).map encStr).length ≤ 1000000 := by
          unfold inT
          rw [List.length_map, List.length_map]
          have h1 := List.length_filter_le (fun e : Ent => upV e.pa == p.data.toList) (C.take i)
          have h2 : (C.take i).length ≤ i := List.length_take_le _ _
          omega
        have HLEN := Lib.hid hgl
        have htk : inT (C.take (i + 1)) p.data.toList = inT (C.take i) p.data.toList ++ (if (upV C[i].pa == p.data.toList) = true then [C[i].pa] else []) := by
          unfold inT
          rw [List.take_add_one, List.getElem?_eq_getElem hlt, List.filter_append, List.map_append]
          cases hk : (upV C[i].pa == p.data.toList) <;> simp [hk]
        have HTK := Lib.hid htk
        have hpa : C[i].pa = C[i].1.data.toList := rfl
        rw [hpa] at HTK
        clear hc ha htk hpa hgl hv hv2
        generalize C[i].1 = x at *
        generalize C[i].2.1 = d at *
        generalize C[i].2.2.2.length = nb at *
        have HU := Lib.hid (fun w2 => up_any x hsz w2)
        obtain ⟨U, hU⟩ : ∃ U : ByteArray, (⟨(upV x.data.toList).toArray⟩ : ByteArray) = U := ⟨_, rfl⟩
        have hUt : upV x.data.toList = U.data.toList := by rw [← hU]
        rw [hU] at HU
        rw [hUt] at HTK
        have hlu : U.toList = U.data.toList := Lib.toList_data U
        have hlp : p.toList = p.data.toList := Lib.toList_data p
        generalize okPath x.data.toList = G2 at *
        clear hU hUt hsz
        go_wp2_with fail
        refine (HU.out _).mono ?_
        rintro e w2 ⟨rfl, hb2⟩
        have q0 := (boxed hb2).cellv (i := 0) (v := .string x) rfl
        have hba : Below wr.heap.size wr w2 := ((Below.refl _ wr).alloc (Nat.le_refl _) _).trans (hb2.mono (by simp))
        replace HROW := Lib.hid (own_below7 HROW.out hba)
        replace HB := Lib.hid (HB.out.trans (hba.mono HB.out.size))
        generalize wr.heap.size = BX at *
        clear hb2 c1 c2 c3 hba
        cases hup : (U.data.toList == p.data.toList) with
        | true =>
          have HNX : Hid (inT (C.take (i + 1)) p.data.toList = inT (C.take i) p.data.toList ++ [x.data.toList]) := Lib.hid (by rw [HTK.out, if_pos hup])
          go_wp2_with (refine wp_addT rfl (.tmp 29) (.tmp 32) rfl (base := w.heap.size) (HROW.out.alloc (.cells #[.string x] 9)) (by have := HB.out.size; simp; omega) rfl w2.heap.size (.string x) rfl (by simp) rfl HLEN.out ?_; intro v3 w3 ho3 hb3; have HROW2 := Lib.hid ho3; have HB5 := Lib.hid hb3; clear ho3 hb3 HROW)
          go_roundw
          case rel =>
            have hrow := HROW2.out
            rw [show (inT (C.take i) p.data.toList).map encStr ++ [.string x] = (inT (C.take i) p.data.toList ++ [x.data.toList]).map encStr by rw [List.map_append]; rfl, ← HNX.out] at hrow
            exact ⟨i + 1, by omega, by go_num, hrow, (HB.out.alloc HB.out.size _).trans HB5.out⟩
          case measure => simp [intOf]; omega
        | false =>
          have HNX : Hid (inT (C.take (i + 1)) p.data.toList = inT (C.take i) p.data.toList) := Lib.hid (by rw [HTK.out, if_neg (by rw [hup]; simp), List.append_nil])
          go_wp2_with fail
          go_roundw
          case rel => exact ⟨i + 1, by omega, by go_num, by rw [HNX.out]; exact HROW.out, HB.out⟩
          case measure => simp [intOf]; omega
      · have hil : i = C.length := by omega
        subst hil
        have k0 : ¬ (C.length : Int) < (C.length : Int) := by omega
        have HTR := Lib.hid (Ts.own HROW.out)
        rw [List.take_length] at HTR
        clear hlt HROW
        go_wp2_with fail
        go_ret
        first | exact ⟨⟨_, rfl, HTR.out⟩, HB.out⟩ | exact ⟨HTR.out, HB.out⟩
end Go.Proofs.YtefamkckoikeoaaDoor
/- Contracts: package tree's asked. Conditions: at most 1000 entries, all bytes together at most 2^62, paths shorter than 2^63 bytes. -/
namespace Go.Proofs.YtefamkckoikeoaaDoor
open Go.RowKit
def askT (C : List Ent) (L : List ByteArray) : Int := if goodP C = false then 1 else if (L.all fun p => okPath p.data.toList) = true then 0 else 4
set_option maxHeartbeats 4000000 in
set_option maxRecDepth 100000 in
theorem tasked_any (C : List Ent) (q : Option Addr) (c : Nat) (L : List ByteArray) (q2 : Option Addr) (c2 : Nat) (hm : C.length ≤ 1000) (hcap : C.length ≤ c) (hb : bytesT C ≤ 4611686018427387904) (hn : ∀ e ∈ C, e.1.size < 9223372036854775808) (hL : L.length ≤ 10) (hLn : ∀ p ∈ L, p.size < 9223372036854775808)
    (w : World) (hs : Sees w w.heap.size q (rowC C)) (hE : Ents w C) (ht : Sees w w.heap.size q2 (L.map Value.string)) :
    Calls Tryd.prog 41 #[.agg #[.slice q C.length c], .slice q2 L.length c2] w fun e w' => e = .returned (.int .i64 (askT C L)) ∧ Below w.heap.size w w' := by
  have HG := Lib.hid (fun w1 (h : Below w.heap.size w w1) => tgood_any C q c (by omega) hcap hb hn w1 ((hs.keep h).more h.size) (hE.keep h))
  have HT := Lib.hid ht
  have HN := Lib.hid hLn
  have HB : Hid (Below w.heap.size w (w.alloc (.cells #[.slice q C.length c] 25))) := Lib.hid ((Below.refl _ _).alloc (Nat.le_refl _) _)
  obtain ⟨V, hV⟩ : ∃ V, askT C L = V := ⟨_, rfl⟩
  rw [hV]
  unfold askT at hV
  have HV := Lib.hid hV
  clear hs hE ht hLn hn hV
  generalize goodP C = GC at *
  go_enter Tryd.func41, Tryd.ntmps41
  go_wp2_with fail
  refine (HG.out _ HB.out).mono ?_
  rintro e w1 ⟨rfl, hb⟩
  replace HB := Lib.hid (HB.out.trans (hb.mono HB.out.size))
  clear hb
  cases GC with
  | false =>
    have hv : V = 1 := HV.out.symm
    subst hv
    go_wp2_with fail
    go_ret
    exact ⟨rfl, HB.out⟩
  | true =>
    have HV2 : Hid ((if ((L.drop 0).all fun p => okPath p.data.toList) = true then (0 : Int) else 4) = V) := Lib.hid HV.out
    clear HV
    go_wp2_with fail
    go_loopw [6, 12] (fun _ vi wr => ∃ i : Nat, i ≤ L.length ∧ vi = .int .i64 i ∧ ((if ((L.drop i).all fun p => okPath p.data.toList) = true then (0 : Int) else 4) = V) ∧ Below w.heap.size w wr) (fun _ vi _ => L.length - (intOf vi).toNat)
    case atStart => exact ⟨0, by omega, rfl, HV2.out, HB.out⟩
    case round =>
      rename_i wr
      clear HB HV2
      obtain ⟨i, hi, rfl, hv, hB⟩ := hrel
      have HB := Lib.hid hB
      clear hB
      by_cases hlt : i < L.length
      · have kk : (i : Int) < (L.length : Int) := by omega
        obtain ⟨a, rfl, ha, hc⟩ := HT.out.get (by rw [List.length_map]; omega)
        have c1 : wr.cell? (a.add i) = some (.string L[i]) := (HB.out.cell (by rw [add_block]; exact ha)).trans (hc i _ (by rw [List.getElem?_map, List.getElem?_eq_getElem hlt]; rfl))
        have hsz := HN.out L[i] (List.getElem_mem hlt)
        rw [List.drop_eq_getElem_cons hlt, List.all_cons] at hv
        have HC := Lib.hid (fun w1 => good_any L[i] hsz w1)
        clear hc ha hsz
        generalize L[i] = x at *
        generalize okPath x.data.toList = OK at *
        cases OK with
        | true =>
          have HV2 : Hid ((if ((L.drop (i + 1)).all fun p => okPath p.data.toList) = true then (0 : Int) else 4) = V) := Lib.hid (by rw [Bool.true_and] at hv; exact hv)
          clear hv
          go_wp2_with (first | ((with_reducible refine (HC.out _).mono ?_); rintro e w2 ⟨rfl, hb2⟩; replace HB := Lib.hid (HB.out.trans (hb2.mono HB.out.size)); clear hb2))
          go_roundw
          case rel => exact ⟨i + 1, by omega, by go_num, HV2.out, HB.out⟩
          case measure => simp [intOf]; omega
        | false =>
          have hv' : V = 4 := hv.symm
          subst hv'
          clear hv
          go_wp2_with (first | ((with_reducible refine (HC.out _).mono ?_); rintro e w2 ⟨rfl, hb2⟩; replace HB := Lib.hid (HB.out.trans (hb2.mono HB.out.size)); clear hb2))
          go_ret
          exact ⟨rfl, HB.out⟩
      · have hil : i = L.length := by omega
        subst hil
        have k0 : ¬ (L.length : Int) < (L.length : Int) := by omega
        have hv' : V = 0 := by rw [← hv, List.drop_length]; rfl
        subst hv'
        clear hlt hv
        go_wp2_with fail
        go_ret
        exact ⟨rfl, HB.out⟩
end Go.Proofs.YtefamkckoikeoaaDoor
/- Contract: package tree's find. Conditions: at most 1000 entries, all bytes together at most 2^62, paths shorter than 2^63 bytes. -/
namespace Go.Proofs.YtefamkckoikeoaaDoor
open Go.RowKit
theorem goodQ_asc : ∀ (C pre : List Ent), goodQ pre C = true → AscE pre → AscE (pre ++ C)
  | [], pre, _, h => by rw [List.append_nil]; exact h
  | x :: C, pre, hg, h => by
    rw [goodQ, Bool.and_eq_true, Bool.and_eq_true, Bool.and_eq_true] at hg
    have := goodQ_asc C (pre ++ [x]) hg.2.2.2 (h.snoc hg.2.1)
    rwa [List.append_assoc] at this
theorem goodP_asc {C : List Ent} (h : goodP C = true) : AscE C := by
  unfold goodP at h
  rw [Bool.and_eq_true] at h
  exact goodQ_asc C [] h.2 List.Pairwise.nil
theorem askT_good {C : List Ent} {L : List ByteArray} (h : askT C L = 0) : goodP C = true ∧ ∀ p ∈ L, okPath p.data.toList = true := by
  unfold askT at h
  cases hg : goodP C with
  | false => rw [hg] at h; simp at h
  | true =>
    rw [hg] at h
    cases ha : L.all fun p => okPath p.data.toList with
    | false => rw [ha] at h; simp at h
    | true => exact ⟨rfl, fun p hp => List.all_eq_true.1 ha p hp⟩
def findP (C : List Ent) (p : ByteArray) : Nat × Int := if askT C [p] ≠ 0 then (0, askT C [p]) else if hasT C p.data.toList = true then (posT C p.data.toList, 0) else (0, 5)
theorem has_sees {w : World} {g : Nat} {t : TypeId} {l : List Value} (h : Has w g t l) : Sees w w.heap.size (some ⟨g, 0, none⟩) l := fun _ =>
  ⟨_, rfl, h.lt, fun j u hu => by
    have e2 : (Addr.add ⟨g, 0, none⟩ j) = ⟨g, j, none⟩ := by unfold Addr.add; split <;> simp_all
    rw [e2]
    exact h.cellv hu⟩
set_option maxHeartbeats 4000000 in
set_option maxRecDepth 100000 in
theorem tfind_any (C : List Ent) (q : Option Addr) (c : Nat) (p : ByteArray) (hm : C.length ≤ 1000) (hcap : C.length ≤ c) (hb : bytesT C ≤ 4611686018427387904) (hn : ∀ e ∈ C, e.1.size < 9223372036854775808) (hp : p.size < 9223372036854775808)
    (w : World) (hs : Sees w w.heap.size q (rowC C)) (hE : Ents w C) :
    Calls Tryd.prog 48 #[.agg #[.slice q C.length c], .string p] w fun e w' => e = .returned (.tuple #[.int .i64 ((findP C p).1 : Int), .int .i64 (findP C p).2]) ∧ Below w.heap.size w w' := by
  have HAK : Hid (∀ w1 (_ : Below w.heap.size w w1) q2 (_ : Sees w1 w1.heap.size q2 ([p].map Value.string)), Calls Tryd.prog 41 #[.agg #[.slice q C.length c], .slice q2 1 1] w1 fun e w' => e = .returned (.int .i64 (askT C [p])) ∧ Below w1.heap.size w1 w') :=
    Lib.hid (fun w1 h q2 h2 => tasked_any C q c [p] q2 1 hm hcap hb hn (by simp) (by simpa using hp) w1 ((hs.keep h).more h.size) (hE.keep h) h2)
  have HWH : Hid (goodP C = true → ∀ w1 (_ : Below w.heap.size w w1), Calls Tryd.prog 42 #[.slice q C.length c, .string p] w1 fun e w' => e = .returned (.tuple #[.int .i64 (posT C p.data.toList : Int), .bool (hasT C p.data.toList)]) ∧ Below w1.heap.size w1 w') :=
    Lib.hid (fun hg w1 h => twhere_any C q c p (by omega) hn hp ((goodP_asc hg).up _) w1 ((hs.keep h).more h.size))
  have HB : Hid (Below w.heap.size w (w.alloc (.cells #[.slice q C.length c] 25))) := Lib.hid ((Below.refl _ _).alloc (Nat.le_refl _) _)
  have HX : Hid (Has (w.alloc (.cells #[.slice q C.length c] 25)) w.heap.size 25 [.slice q C.length c]) := Lib.hid (Has.made w _ _)
  have HS1 : Hid (Sees ((w.alloc (.cells #[.slice q C.length c] 25)).alloc (.cells #[.string p] 9)) ((w.alloc (.cells #[.slice q C.length c] 25)).alloc (.cells #[.string p] 9)).heap.size (some ⟨w.heap.size + 1, 0, none⟩) ([p].map Value.string)) := Lib.hid (has_sees (Has.made1 w _ 9 #[.string p] _ rfl))
  obtain ⟨V, hV⟩ : ∃ V, findP C p = V := ⟨_, rfl⟩
  rw [hV]
  unfold findP at hV
  have HV := Lib.hid hV
  have HGD : Hid (askT C [p] = 0 → goodP C = true) := Lib.hid (fun h => (askT_good h).1)
  clear hs hE hn hV
  generalize askT C [p] = A at *
  generalize hasT C p.data.toList = H at *
  generalize posT C p.data.toList = PS at *
  go_enter Tryd.func48, Tryd.ntmps48
  go_wp2_with fail
  refine (HAK.out _ (HB.out.alloc HB.out.size _) _ HS1.out).mono ?_
  rintro e w1 ⟨rfl, hb⟩
  replace HX := Lib.hid ((HX.out.alloc _).keep hb (HX.out.alloc _).lt)
  replace HB := Lib.hid ((HB.out.alloc HB.out.size _).trans (hb.mono (HB.out.alloc HB.out.size _).size))
  clear hb
  by_cases hA : A = 0
  · subst hA
    have hg := HGD.out rfl
    replace HWH := Lib.hid (HWH.out hg)
    have cx := HX.out.cellv (i := 0) (v := .slice q C.length c) rfl
    clear hg HGD
    go_wp2_with fail
    refine (HWH.out _ HB.out).mono ?_
    rintro e w2 ⟨rfl, hb⟩
    replace HB := Lib.hid (HB.out.trans (hb.mono HB.out.size))
    clear hb cx
    cases H with
    | true =>
      have hv : V = (PS, 0) := by rw [← HV.out]; rfl
      subst hv
      go_wp2_with fail
      go_ret2
      exact ⟨rfl, HB.out⟩
    | false =>
      have hv : V = (0, 5) := by rw [← HV.out]; rfl
      subst hv
      go_wp2_with fail
      go_ret2
      exact ⟨rfl, HB.out⟩
  · have hv : V = (0, A) := by rw [← HV.out, if_pos hA]
    subst hv
    have kA : (A = 0) = False := eq_false hA
    have kAb : (A == 0) = false := by simpa using hA
    have kAn : (A != 0) = true := by simpa using hA
    go_wp2_with fail
    go_ret2
    exact ⟨rfl, HB.out⟩
end Go.Proofs.YtefamkckoikeoaaDoor
/- Contract: package tree's within. Conditions: at most 10^5 entries, all bytes together at most 2^62. -/
namespace Go.Proofs.YtefamkckoikeoaaDoor
open Go.RowKit
set_option maxHeartbeats 4000000 in
set_option maxRecDepth 100000 in
theorem twithin_any (D : List Ent) (q : Option Addr) (c : Nat) (qt : Option Addr) (nt ct : Nat) (hm : D.length ≤ 100000) (hb : bytesT D ≤ 4611686018427387904) (w : World) (hs : Sees w w.heap.size q (rowC D)) (hE : Ents w D) :
    Calls Tryd.prog 44 #[.agg #[.slice qt nt ct], .slice q D.length c] w fun e w' => e = .returned (.tuple #[.agg #[if fitsT D = true then .slice q D.length c else .slice qt nt ct], .int .i64 (if fitsT D = true then 0 else 9)]) ∧ Below w.heap.size w w' := by
  have HF := Lib.hid (fun w1 (h : Below w.heap.size w w1) => tfits_any D q c hm hb w1 ((hs.keep h).more h.size) (hE.keep h))
  have HB : Hid (Below w.heap.size w ((w.alloc (.cells #[.slice qt nt ct] 25)).alloc (.cells #[.slice none 0 0] 25))) := Lib.hid (((Below.refl _ _).alloc (Nat.le_refl _) _).alloc (by simp) _)
  have HX : Hid (Has ((w.alloc (.cells #[.slice qt nt ct] 25)).alloc (.cells #[.slice none 0 0] 25)) w.heap.size 25 [.slice qt nt ct]) := Lib.hid ((Has.made w _ _).alloc _)
  have HY : Hid (Has ((w.alloc (.cells #[.slice qt nt ct] 25)).alloc (.cells #[.slice none 0 0] 25)) (w.heap.size + 1) 25 [.slice none 0 0]) := Lib.hid (Has.made1 w _ _ _ _ rfl)
  clear hs hE
  generalize fitsT D = F at *
  go_enter Tryd.func44, Tryd.ntmps44
  go_wp2_with fail
  refine (HF.out _ HB.out).mono ?_
  rintro e w1 ⟨rfl, hb⟩
  replace HB := Lib.hid (HB.out.trans (hb.mono HB.out.size))
  replace HX := Lib.hid (HX.out.keep hb HX.out.lt)
  replace HY := Lib.hid (HY.out.keep hb HY.out.lt)
  clear hb
  have cx := HX.out.cellv (i := 0) (v := .slice qt nt ct) rfl
  have cy := HY.out.cellv (i := 0) (v := .slice none 0 0) rfl
  have fy := HY.out.free 0
  have hle : w.heap.size ≤ w.heap.size + 1 := by omega
  cases F with
  | false =>
    go_wp2_with fail
    have cz : (w1.setCell ⟨w.heap.size + 1, 0, none⟩ (.slice qt nt ct)).cell? ⟨w.heap.size + 1, 0, none⟩ = some (.slice qt nt ct) := World.cell?_setCell_same' _ _ _ (by rw [cy]; rfl)
    refine bodyPost_ret (by simp [results, Tryd.results44, go_sem, cz]; try rfl) rfl ?_
    exact ⟨rfl, HB.out.setCell (p := ⟨w.heap.size + 1, 0, none⟩) hle _⟩
  | true =>
    go_wp2_with fail
    have cz : (w1.setCell ⟨w.heap.size + 1, 0, none⟩ (.slice q D.length c)).cell? ⟨w.heap.size + 1, 0, none⟩ = some (.slice q D.length c) := World.cell?_setCell_same' _ _ _ (by rw [cy]; rfl)
    refine bodyPost_ret (by simp [results, Tryd.results44, go_sem, cz]; try rfl) rfl ?_
    exact ⟨rfl, HB.out.setCell (p := ⟨w.heap.size + 1, 0, none⟩) hle _⟩
end Go.Proofs.YtefamkckoikeoaaDoor
/- Contract: bytes.Clone: a row of its own. Condition: a nil slice has no capacity. -/
namespace Go.Proofs.YtefamkckoikeoaaDoor
open Go.RowKit
set_option maxHeartbeats 400000 in
theorem tbclone_any (x : List (BitVec 8)) (q : Option Addr) (c : Nat) (w : World) (hx : Sees w w.heap.size q (x.map u8v)) (hq : q = none → c = 0) (hl : x.length ≤ 140737488355328) :
    Calls Tryd.prog 49 #[.slice q x.length c] w fun e w' => (∃ v, e = .returned v ∧ w'.ownsRow w.heap.size 5 1 v x.length (x.map u8v)) ∧ Below w.heap.size w w' := by
  have HX := Lib.hid hx
  have HQ := Lib.hid hq
  have HL := Lib.hid hl
  have hn := run_eql_slice_nil (P := Tryd.prog) w 30 5 q x.length c Tryd.underlying30
  clear hx hq hl
  rcases q with _ | a
  · have hx0 : x = [] := by
      rcases x with _ | ⟨y, l⟩
      · rfl
      · obtain ⟨a, h1, _⟩ := HX.out.get (by simp)
        cases h1
    subst hx0
    simp only [Option.isNone_none, List.length_nil] at hn
    go_enter Tryd.func49, Tryd.ntmps49
    go_wp2_with fail
    go_ret
    exact ⟨⟨_, rfl, World.ownsRow_nil _ _ _ _⟩, Below.refl _ _⟩
  · simp only [Option.isNone_some] at hn
    have ho : (w.alloc (.cells #[] 5)).ownsRow w.heap.size 5 1 (.slice (some ⟨w.heap.size, 0, none⟩) 0 0) 0 [] := World.ownsRow_made w #[] 0 (Nat.le_refl _) (by unfold maxLen; omega) (by simp)
    have HO := Lib.hid ho
    have HS : Hid (Sees (w.alloc (.cells #[] 5)) w.heap.size (some a) (x.map u8v)) := Lib.hid (HX.out.keep ((Below.refl _ _).alloc (Nat.le_refl _) _))
    have HB : Hid (Below w.heap.size w (w.alloc (.cells #[] 5))) := Lib.hid ((Below.refl _ _).alloc (Nat.le_refl _) _)
    clear ho
    go_enter Tryd.func49, Tryd.ntmps49
    go_wp2_with (at_builtin; refine wpList_append_sees rfl _ _ rfl w.heap.size _ 0 [] rfl HO.out (some a) x c w.heap.size rfl HQ.out HS.out (by have := HL.out; omega) HB.out.size ?_; intro v' w' h1 h2; have H1 := Lib.hid h1; have H2 := Lib.hid (HB.out.trans h2); clear h1 h2)
    go_ret
    have h1 := H1.out
    rw [List.nil_append] at h1
    exact ⟨⟨_, rfl, by simpa using h1⟩, H2.out⟩
theorem own_off {w : World} {base n size : Nat} {e : TypeId} {v : Value} {xs : List Value} (h : w.ownsRow base e size v n xs) {g : Nat} (hg : g < base) (o : Nat) (vs : List Value) : (w.setCells g o vs).ownsRow base e size v n xs := by
  rcases h.2 with ⟨rfl, h0⟩ | ⟨g', cap, cur, rfl, hb, hg', h1, h2, h3, h4⟩
  · exact ⟨h.1, .inl ⟨rfl, h0⟩⟩
  · have hh : Has w g' e cur.toList := by unfold Has; simpa using hg'
    have h5 := Has.offMid (g := g') (g' := g) (by omega) vs o w hh
    unfold Has at h5
    exact ⟨h.1, .inr ⟨g', cap, cur, rfl, hb, by simpa using h5, h1, h2, h3, h4⟩⟩
theorem own_below1 {w w' : World} {base n : Nat} {e : TypeId} {v : Value} {xs : List Value} (h : w.ownsRow base e 1 v n xs) (hb : Below w.heap.size w w') : w'.ownsRow base e 1 v n xs := by
  rcases h.2 with ⟨rfl, h0⟩ | ⟨g', cap, cur, rfl, hb', hg', h1, h2, h3, h4⟩
  · exact ⟨h.1, .inl ⟨rfl, h0⟩⟩
  · exact ⟨h.1, .inr ⟨g', cap, cur, rfl, hb', (hb.block g' (Array.getElem?_eq_some_iff.1 hg').1).trans hg', h1, h2, h3, h4⟩⟩
end Go.Proofs.YtefamkckoikeoaaDoor
/- Contract: package tree's put: into entries in order, at a path. Conditions: at most 900 entries, all bytes together at most 2^61, paths shorter than 2^61 bytes. -/
namespace Go.Proofs.YtefamkckoikeoaaDoor
open Go.RowKit
theorem has_seesE {w : World} {g : Nat} {t : TypeId} {D : List Ent} {l : List Value} (h : Has w g t (rowC D ++ l)) : Sees w w.heap.size (some ⟨g, 0, none⟩) (rowC D) := by
  have h1 := (has_sees h).head (rowC D).length
  rwa [List.take_left' rfl] at h1
theorem OwnT.less {w : World} {base b : Nat} {v : Value} {C : List Ent} (h : OwnT w base v C) (hb : b ≤ base) : OwnT w b v C := by
  rcases h.has with ⟨rfl, rfl⟩ | ⟨g, cap, l, rfl, h0, hg, h1, h2, h3⟩
  · exact OwnT.nil _ _
  · exact OwnT.of (by omega) hg h1 h2 h3
/-- Bytes in a row of the call's own. -/
def OwnB (w : World) (base : Nat) (y : Ent) : Prop := w.ownsRow base 5 1 y.val y.by.length (y.by.map u8v)
theorem OwnB.less {w : World} {base b : Nat} {y : Ent} (h : OwnB w base y) (hb : b ≤ base) : OwnB w b y := by
  rcases h.2 with ⟨h1, h0⟩ | ⟨g', cap, cur, h1, hb', r⟩
  · exact ⟨h.1, .inl ⟨h1, h0⟩⟩
  · exact ⟨h.1, .inr ⟨g', cap, cur, h1, by omega, r⟩⟩
theorem OwnB.bs {w : World} {base : Nat} {y : Ent} (h : OwnB w base y) : Bs w y.val y.by := Bs.own h
theorem OwnB.keep {w w' : World} {base : Nat} {y : Ent} (h : OwnB w base y) (hb : Below w.heap.size w w') : OwnB w' base y := own_below1 h hb
theorem OwnB.set {w : World} {base : Nat} {y : Ent} (h : OwnB w base y) {g o : Nat} (hg : g < base) (u : Value) : OwnB (w.setCell ⟨g, o, none⟩ u) base y := own_off h hg o [u]
/-- What a call answers: the tree as it was, or a list of its own; the bytes those that came in, or of its own. -/
def ResT (w : World) (base : Nat) (old : Value) (C : List Ent) (v : Value) (D : List Ent) : Prop :=
  ((v = old ∧ D = C) ∨ OwnT w base v D) ∧ ∀ y ∈ D, y ∈ C ∨ OwnB w base y
theorem ResT.slice {w : World} {base : Nat} {q : Option Addr} {n c : Nat} {v : Value} {C D : List Ent} (h : ResT w base (.slice q n c) C v D) : ∃ x m k, v = .slice x m k := by
  rcases h.1 with ⟨rfl, _⟩ | h
  · exact ⟨_, _, _, rfl⟩
  · exact own_slice' h
theorem ResT.old (w : World) (base : Nat) (old : Value) (C : List Ent) : ResT w base old C old C := ⟨.inl ⟨rfl, rfl⟩, fun _ h => .inl h⟩
theorem ResT.keep {w w' : World} {base : Nat} {old v : Value} {C D : List Ent} (h : ResT w base old C v D) (hb : Below w.heap.size w w') : ResT w' base old C v D :=
  ⟨h.1.imp id fun h => h.keep hb, fun y hy => (h.2 y hy).imp id fun h => h.keep hb⟩
theorem ResT.set {w : World} {base : Nat} {old v : Value} {C D : List Ent} (h : ResT w base old C v D) {g o : Nat} (hg : g < base) (u : Value) : ResT (w.setCell ⟨g, o, none⟩ u) base old C v D :=
  ⟨h.1.imp id fun h => h.set hg u, fun y hy => (h.2 y hy).imp id fun h => h.set hg u⟩
theorem ResT.less {w : World} {base b : Nat} {old v : Value} {C D : List Ent} (h : ResT w base old C v D) (hb : b ≤ base) : ResT w b old C v D :=
  ⟨h.1.imp id fun h => h.less hb, fun y hy => (h.2 y hy).imp id fun h => h.less hb⟩
theorem ResT.tr {w : World} {base : Nat} {old v : Value} {C D : List Ent} (h : ResT w base old C v D) (ht : TrV w old C) (he : Ents w C) : TrV w v D ∧ Ents w D :=
  ⟨by rcases h.1 with ⟨rfl, rfl⟩ | h1; exact ht; exact h1.tr, fun y hy => by rcases h.2 y hy with h1 | h1; exact he y h1; exact h1.bs⟩
def fileE (p : ByteArray) (v : Value) (b : List (BitVec 8)) : Ent := (p, false, v, b)
def putL (C : List Ent) (e : Ent) : List Ent := C.take (posT C e.pa) ++ e :: C.drop (if hasT C e.pa = true then posT C e.pa + 1 else posT C e.pa)
def putP (C : List Ent) (p : ByteArray) (b : List (BitVec 8)) (v : Value) : List Ent × Int :=
  if roomT C p.data.toList ≠ 0 then (C, roomT C p.data.toList) else if hasT C p.data.toList = true ∧ dirT C (posT C p.data.toList) = true then (C, 7) else
  if 2048 < b.length then (C, 9) else if fitsT (putL C (fileE p v b)) = true then (putL C (fileE p v b), 0) else (C, 9)
theorem put_row {w : World} {g : Nat} {A B : List Ent} {x y : Ent} {l : List Value} (h : Has w g 32 (rowC (A ++ x :: B) ++ l)) : Has (w.setCells g (A.length * 3) (entC y)) g 32 (rowC (A ++ y :: B) ++ l) := by
  rw [rowC_app, rowC_cons, List.append_assoc, List.append_assoc] at h
  have h1 := h.swap (Y := entC y) rfl
  rw [rowC_len, Nat.mul_comm] at h1
  rw [rowC_app, rowC_cons, List.append_assoc, List.append_assoc]
  exact h1
theorem bytesT_app' (A B : List Ent) : bytesT (A ++ B) = bytesT A + bytesT B := by unfold bytesT; rw [List.map_append, List.sum_append]
theorem bytesT_cons (e : Ent) (B : List Ent) : bytesT (e :: B) = e.by.length + bytesT B := by unfold bytesT; rw [List.map_cons, List.sum_cons]
theorem bytesT_drop (C : List Ent) (i : Nat) : bytesT (C.drop i) ≤ bytesT C := by
  have h := congrArg bytesT (List.take_append_drop i C)
  rw [bytesT_app'] at h
  omega
theorem putL_bytes (C : List Ent) (e : Ent) : bytesT (putL C e) ≤ bytesT C + e.by.length := by
  have key : ∀ i j, i ≤ j → bytesT (C.take i ++ e :: C.drop j) ≤ bytesT C + e.by.length := fun i j hij => by
    rw [bytesT_app', bytesT_cons]
    have h := congrArg bytesT (List.take_append_drop i C)
    rw [bytesT_app'] at h
    have h2 := bytesT_drop (C.drop i) (j - i)
    rw [List.drop_drop, show i + (j - i) = j by omega] at h2
    omega
  unfold putL
  split
  · exact key _ _ (by omega)
  · exact key _ _ (Nat.le_refl _)
theorem hasT_lt {C : List Ent} {p : Tx} (h : hasT C p = true) : posT C p < C.length := by
  unfold hasT at h
  rcases Nat.lt_or_ge (posT C p) C.length with h1 | h1
  · exact h1
  · rw [List.getElem?_eq_none h1] at h; cases h
theorem putL_len (C : List Ent) (e : Ent) : (putL C e).length = C.length + (if hasT C e.pa = true then 0 else 1) := by
  have hl := posT_le C e.pa
  unfold putL
  cases h : hasT C e.pa with
  | true =>
    have := hasT_lt h
    simp only [if_true]
    rw [List.length_append, List.length_cons, List.length_take, List.length_drop]; omega
  | false =>
    simp only [Bool.false_eq_true, if_false]
    rw [List.length_append, List.length_cons, List.length_take, List.length_drop]; omega
theorem putL_mem {C : List Ent} {e y : Ent} (h : y ∈ putL C e) : y = e ∨ y ∈ C := by
  unfold putL at h
  rcases List.mem_append.1 h with h | h
  · exact .inr (List.mem_of_mem_take h)
  · rcases List.mem_cons.1 h with h | h
    · exact .inl h
    · exact .inr (List.mem_of_mem_drop h)
set_option maxHeartbeats 16000000 in
set_option maxRecDepth 100000 in
theorem tput0_any (C : List Ent) (q : Option Addr) (c : Nat) (p : ByteArray) (b : List (BitVec 8)) (qb : Option Addr) (cb : Nat) (hm : C.length ≤ 900) (hcap : C.length ≤ c) (hq : q = none → c = 0) (hb : bytesT C ≤ 2305843009213693952) (hn : ∀ e ∈ C, e.1.size < 9223372036854775808) (hA : AscE C) (hp : p.size < 2305843009213693952) (hqb : qb = none → cb = 0) (hbl : b.length ≤ 9223372036854775807)
    (w : World) (hs : Sees w w.heap.size q (rowC C)) (hE : Ents w C) (hsb : Sees w w.heap.size qb (b.map u8v)) :
    Calls Tryd.prog 47 #[.agg #[.slice q C.length c], .string p, .slice qb b.length cb] w fun e w' => (∃ v v5, e = .returned (.tuple #[.agg #[v], .int .i64 (putP C p b v5).2]) ∧ ResT w' w.heap.size (.slice q C.length c) C v (putP C p b v5).1) ∧ Below w.heap.size w w' := by
  have HUP := Lib.hid (fun w1 (h : Below w.heap.size w w1) => tupIn_any C q c p (by omega) hn hA hp w1 ((hs.keep h).more h.size))
  have HWH := Lib.hid (fun w1 (h : Below w.heap.size w w1) => twhere_any C q c p (by omega) hn (by omega) (hA.up _) w1 ((hs.keep h).more h.size))
  have HCL := Lib.hid (fun w1 (h : Below w.heap.size w w1) => tclone_any C q c (by omega) w1 hq ((hs.keep h).more h.size) (hE.keep h))
  have HBC : Hid (b.length ≤ 2048 → ∀ w1 (h : Below w.heap.size w w1), Calls Tryd.prog 49 #[.slice qb b.length cb] w1 fun e w' => (∃ v, e = .returned v ∧ w'.ownsRow w1.heap.size 5 1 v b.length (b.map u8v)) ∧ Below w1.heap.size w1 w') := Lib.hid (fun h0 w1 h => tbclone_any b qb cb w1 ((hsb.keep h).more h.size) hqb (by omega))
  have HINS := Lib.hid (fun e v base g2 i h1 w1 hO hb0 hg2 h1C h1e hne => tinsert_any C e i v base g2 h1 (by omega) w1 hO hb0 hg2 h1C h1e hne)
  have HWI := Lib.hid (fun (D : List Ent) q1 c1 w1 (h1 : D.length ≤ 1000) (h2 : bytesT D ≤ 4611686018427387904) h3 h4 => twithin_any D q1 c1 q C.length c (by omega) h2 w1 h3 h4)
  have HTR : Hid (∀ w', Below w.heap.size w w' → TrV w' (.slice q C.length c) C ∧ Ents w' C) := Lib.hid (fun w' h => ⟨⟨q, c, rfl, hcap, hq, (hs.keep h).more h.size⟩, hE.keep h⟩)
  have HONE := Lib.hid (one_row hE)
  have HB : Hid (Below w.heap.size w ((w.alloc (.cells #[.slice q C.length c] 25)).alloc (.cells #[.slice none 0 0] 25))) := Lib.hid (((Below.refl _ _).alloc (Nat.le_refl _) _).alloc (by simp) _)
  have HX : Hid (Has ((w.alloc (.cells #[.slice q C.length c] 25)).alloc (.cells #[.slice none 0 0] 25)) w.heap.size 25 [.slice q C.length c]) := Lib.hid ((Has.made w _ _).alloc _)
  have HY : Hid (Has ((w.alloc (.cells #[.slice q C.length c] 25)).alloc (.cells #[.slice none 0 0] 25)) (w.heap.size + 1) 25 [.slice none 0 0]) := Lib.hid (Has.made1 w _ _ _ _ rfl)
  have HV : Hid (∀ v, putP C p b v = if roomT C p.data.toList ≠ 0 then (C, roomT C p.data.toList) else if hasT C p.data.toList = true ∧ dirT C (posT C p.data.toList) = true then (C, 7) else
    if 2048 < b.length then (C, 9) else if fitsT (putL C (fileE p v b)) = true then (putL C (fileE p v b), 0) else (C, 9)) := Lib.hid (fun _ => rfl)
  have HPB := Lib.hid (fun v => putL_bytes C (fileE p v b))
  have HPL : Hid (∀ v, (putL C (fileE p v b)).length = C.length + (if hasT C p.data.toList = true then 0 else 1)) := Lib.hid (fun v => putL_len C (fileE p v b))
  have HPM := Lib.hid (fun v y => putL_mem (C := C) (e := fileE p v b) (y := y))
  have HPE : Hid (∀ v, putL C (fileE p v b) = C.take (posT C p.data.toList) ++ fileE p v b :: C.drop (if hasT C p.data.toList = true then posT C p.data.toList + 1 else posT C p.data.toList)) := Lib.hid (fun _ => rfl)
  have HPO : Hid (posT C p.data.toList ≤ C.length) := Lib.hid (posT_le C _)
  have HHL : Hid (hasT C p.data.toList = true → posT C p.data.toList < C.length) := Lib.hid (fun h => hasT_lt h)
  have HDI : Hid (∀ h : posT C p.data.toList < C.length, dirT C (posT C p.data.toList) = C[posT C p.data.toList].2.1) := Lib.hid (fun h => by unfold dirT; rw [List.getElem?_eq_getElem h]; rfl)
  have HSR := Lib.hid hs
  generalize putP C p b = PV at *
  generalize putL C = PL at *
  generalize roomT C p.data.toList = RM at *
  generalize hasT C p.data.toList = HS at *
  generalize posT C p.data.toList = PS at *
  clear hs hE hn hA hsb hq
  go_enter Tryd.func47, Tryd.ntmps47
  have cx := HX.out.cellv (i := 0) (v := .slice q C.length c) rfl
  go_wp2_with fail
  refine (HUP.out _ HB.out).mono ?_
  rintro e w1 ⟨rfl, hb1⟩
  replace HB := Lib.hid (HB.out.trans (hb1.mono HB.out.size))
  replace HX := Lib.hid (HX.out.keep hb1 HX.out.lt)
  replace HY := Lib.hid (HY.out.keep hb1 HY.out.lt)
  clear hb1 cx
  have hle : w.heap.size ≤ w.heap.size + 1 := by omega
  by_cases hr : RM = 0
  · subst hr
    have cx := HX.out.cellv (i := 0) (v := .slice q C.length c) rfl
    go_wp2_with fail
    refine (HWH.out _ HB.out).mono ?_
    rintro e w2 ⟨rfl, hb1⟩
    replace HB := Lib.hid (HB.out.trans (hb1.mono HB.out.size))
    replace HX := Lib.hid (HX.out.keep hb1 HX.out.lt)
    replace HY := Lib.hid (HY.out.keep hb1 HY.out.lt)
    clear hb1 cx
    cases HS with
    | true =>
      have hps := HHL.out rfl
      obtain ⟨a, rfl, ha, hc⟩ := HSR.out.ent hps
      obtain ⟨c1, c2, c3⟩ := hc w2 HB.out
      have kk : (PS : Int) < (C.length : Int) := by omega
      have hdi := HDI.out hps
      have HDJ := Lib.hid hdi
      have HXO : Hid (C.take PS ++ C[PS] :: C.drop (PS + 1) = C) := Lib.hid (by rw [← List.drop_eq_getElem_cons hps, List.take_append_drop])
      generalize C[PS].2.1 = D at *
      clear hc ha hdi c1 c3
      cases D with
      | true =>
        have cx := HX.out.cellv (i := 0) (v := .slice (some a) C.length c) rfl
        have cy := HY.out.cellv (i := 0) (v := .slice none 0 0) rfl
        have fy := HY.out.free 0
        have hv : PV undef = (C, 7) := by rw [HV.out]; simp [HDJ.out]
        go_wp2_with fail
        have cz : (w2.setCell ⟨w.heap.size + 1, 0, none⟩ (.slice (some a) C.length c)).cell? ⟨w.heap.size + 1, 0, none⟩ = some (.slice (some a) C.length c) := World.cell?_setCell_same' _ _ _ (by rw [cy]; rfl)
        refine bodyPost_ret (by simp [results, Tryd.results47, go_sem, cz]; try rfl) rfl ?_
        have hbz := HB.out.setCell (p := ⟨w.heap.size + 1, 0, none⟩) hle (.slice (some a) C.length c)
        exact ⟨⟨.slice (some a) C.length c, undef, by rw [hv], by rw [hv]; exact ResT.old _ _ _ _⟩, hbz⟩
      | false =>
        have HD := HDJ
        have cx := HX.out.cellv (i := 0) (v := .slice (some a) C.length c) rfl
        by_cases hbl : 2048 < b.length
        · have kb : (2048 : Int) < (b.length : Int) := by omega
          clear cx
          have cx := HX.out.cellv (i := 0) (v := .slice (some a) C.length c) rfl
          have cy := HY.out.cellv (i := 0) (v := .slice none 0 0) rfl
          have fy := HY.out.free 0
          have hv : PV undef = (C, 9) := by rw [HV.out]; simp [HD.out, hbl]
          go_wp2_with fail
          have cz : (w2.setCell ⟨w.heap.size + 1, 0, none⟩ (.slice (some a) C.length c)).cell? ⟨w.heap.size + 1, 0, none⟩ = some (.slice (some a) C.length c) := World.cell?_setCell_same' _ _ _ (by rw [cy]; rfl)
          refine bodyPost_ret (by simp [results, Tryd.results47, go_sem, cz]; try rfl) rfl ?_
          have hbz := HB.out.setCell (p := ⟨w.heap.size + 1, 0, none⟩) hle (.slice (some a) C.length c)
          exact ⟨⟨.slice (some a) C.length c, undef, by rw [hv], by rw [hv]; exact ResT.old _ _ _ _⟩, hbz⟩
        · have hbl2 : b.length ≤ 2048 := by omega
          have kb : ((b.length : Int) ≤ 2048) := by omega
          have kb2 : ((2048 : Int) < (b.length : Int)) = False := eq_false (by omega)
          go_wp2_with fail
          have HYL2 := Lib.hid HY.out.lt
          have HZ2 := Lib.hid HB.out.size
          refine (HCL.out _ HB.out).mono ?_
          rintro e w4 ⟨⟨v4, rfl, hO4⟩, hb1⟩
          replace HB := Lib.hid (HB.out.trans (hb1.mono HB.out.size))
          replace HX := Lib.hid (HX.out.keep hb1 HX.out.lt)
          replace HY := Lib.hid (HY.out.keep hb1 HY.out.lt)
          generalize w2.heap.size = BX at *
          clear hb1 cx c2
          rcases hO4.has with ⟨rfl, hC0⟩ | ⟨g, cap, l, rfl, hgb, hG, hcap4, hcm, hl4⟩
          · rw [hC0] at hps; simp at hps
          · have hGl : (rowC C ++ l).length = cap * 3 := by rw [List.length_append, rowC_len]; omega
            have HTH : Hid (PS * 3 + 3 ≤ (rowC (C.take PS ++ C[PS] :: C.drop (PS + 1)) ++ l).length) := Lib.hid (by rw [HXO.out, hGl]; omega)
            have HG : Hid (Has w4 g 32 (rowC (C.take PS ++ C[PS] :: C.drop (PS + 1)) ++ l)) := Lib.hid (by rw [HXO.out]; exact hG)
            have HTL : Hid ((C.take PS).length = PS) := Lib.hid (by rw [List.length_take]; omega)
            have HYB : Hid (w.heap.size + 1 < w4.heap.size) := Lib.hid (by have h1 := HYL2.out; have h2 := hG.lt; omega)
            generalize C[PS] = xo at *
            clear hO4 hG hGl
            go_wp2_with fail
            refine (HBC.out hbl2 _ HB.out).mono ?_
            rintro e w5 ⟨⟨v5, rfl, hO5⟩, hb1⟩
            have HG5 := Lib.hid (HG.out.keep hb1 HG.out.lt)
            have HGS := Lib.hid HG.out.lt
            have HO5 := Lib.hid hO5
            replace HB := Lib.hid (HB.out.trans (hb1.mono HB.out.size))
            replace HX := Lib.hid (HX.out.keep hb1 HX.out.lt)
            replace HY := Lib.hid (HY.out.keep hb1 HY.out.lt)
            obtain ⟨x5, m5, k5, rfl⟩ := own_slice' hO5
            have ht := HG5.out.there (PS * 3) 3 (by have h := HTH.out; omega)
            obtain ⟨u0, hu0⟩ := Option.isSome_iff_exists.1 (ht 0 (by omega)).1
            obtain ⟨u1, hu1⟩ := Option.isSome_iff_exists.1 (ht 1 (by omega)).1
            obtain ⟨u2, hu2⟩ := Option.isSome_iff_exists.1 (ht 2 (by omega)).1
            have hf0 := (ht 0 (by omega)).2
            have hf1 := (ht 1 (by omega)).2
            have hf2 := (ht 2 (by omega)).2
            rw [Nat.add_zero] at hu0 hf0
            have HROW : Hid (Has (w5.setCells g (PS * 3) [.string p, .bool false, .slice x5 m5 k5]) g 32 (rowC (PL (fileE p (.slice x5 m5 k5) b)) ++ l)) := Lib.hid (by
              have h := put_row (y := fileE p (.slice x5 m5 k5) b) HG5.out
              rw [HTL.out] at h
              rw [HPE.out]
              exact h)
            have HO6 := Lib.hid (own_off HO5.out HGS.out (PS * 3) [.string p, .bool false, .slice x5 m5 k5])
            have HB6 := Lib.hid (below_setCells (Nat.le_trans HZ2.out hgb) [.string p, .bool false, .slice x5 m5 k5] (PS * 3) _ HB.out)
            have HX6 := Lib.hid (Has.offMid (show w.heap.size ≠ g by have := HYL2.out; omega) [.string p, .bool false, .slice x5 m5 k5] (PS * 3) _ HX.out)
            have HY6 := Lib.hid (Has.offMid (show w.heap.size + 1 ≠ g by have := HYL2.out; omega) [.string p, .bool false, .slice x5 m5 k5] (PS * 3) _ HY.out)
            have cx : (((w5.setCell ⟨g, PS * 3, none⟩ (.string p)).setCell ⟨g, PS * 3 + 1, none⟩ (.bool false)).setCell ⟨g, PS * 3 + 2, none⟩ (.slice x5 m5 k5)).cell? ⟨w.heap.size, 0, none⟩ = some (.slice (some a) C.length c) := HX6.out.cellv (i := 0) (v := .slice (some a) C.length c) rfl
            clear ht hO5 hb1 HG HG5 HO5 HB HX HY
            go_wp2_with fail
            have e5 : ((w5.setCell ⟨g, PS * 3, none⟩ (.string p)).setCell ⟨g, PS * 3 + 1, none⟩ (.bool false)).setCell ⟨g, PS * 3 + 2, none⟩ (.slice x5 m5 k5) = w5.setCells g (PS * 3) [.string p, .bool false, .slice x5 m5 k5] := rfl
            rw [e5]
            clear e5 hu0 hu1 hu2 hf0 hf1 hf2 cx
            generalize w5.setCells g (PS * 3) [.string p, .bool false, .slice x5 m5 k5] = W6 at *
            have hbw : Below w.heap.size w W6 := HB6.out
            have HVV := Lib.hid (HV.out (.slice x5 m5 k5))
            have HPMX := Lib.hid (HPM.out (.slice x5 m5 k5))
            have HLN : Hid ((PL (fileE p (.slice x5 m5 k5) b)).length = C.length) := Lib.hid (by rw [HPL.out]; first | rfl | (simp; done))
            have HEN : Hid (∀ w', Below w.heap.size w w' → w'.ownsRow w4.heap.size 5 1 (.slice x5 m5 k5) b.length (b.map u8v) → Ents w' (PL (fileE p (.slice x5 m5 k5) b))) := Lib.hid (fun w' h1 h2 y hy => by
              rcases HPM.out _ _ hy with rfl | hy
              · exact Bs.own h2
              · exact (HTR.out _ h1).2 y hy)
            have HWIX := Lib.hid (HWI.out (PL (fileE p (.slice x5 m5 k5) b)) (some ⟨g, 0, none⟩) cap W6 (by rw [HLN.out]; omega) (by have h := HPB.out (.slice x5 m5 k5); have h2 : (fileE p (.slice x5 m5 k5) b).by.length = b.length := rfl; omega) (has_seesE HROW.out) (HEN.out _ HB6.out HO6.out))
            rw [HLN.out] at HWIX
            have HOW : Hid (OwnT W6 BX (.slice (some ⟨g, 0, none⟩) C.length cap) (PL (fileE p (.slice x5 m5 k5) b))) := Lib.hid (by
              have h := OwnT.of (base := BX) (cap := cap) (C := PL (fileE p (.slice x5 m5 k5) b)) hgb HROW.out (by rw [HLN.out]; omega) hcm (by rw [HLN.out]; omega)
              rw [HLN.out] at h
              exact h)
            generalize PL (fileE p (.slice x5 m5 k5) b) = DD at *
            generalize fitsT DD = FT at *
            clear HPE HPB HPL HPM HV HROW hbw
            refine HWIX.out.mono ?_
            rintro e w7 ⟨rfl, hb1⟩
            have HO7 := Lib.hid (own_below1 HO6.out hb1)
            have HOW7 := Lib.hid (HOW.out.keep hb1)
            have HB7 := Lib.hid (HB6.out.trans (hb1.mono HB6.out.size))
            have HY7 := Lib.hid (HY6.out.keep hb1 HY6.out.lt)
            clear hb1 HWIX HO6 HOW HB6 HX6 HY6
            have cy := HY7.out.cellv (i := 0) (v := .slice none 0 0) rfl
            have fy := HY7.out.free 0
            cases FT with
            | true =>
              have hv : PV (.slice x5 m5 k5) = (DD, 0) := by rw [HVV.out]; simp [HD.out, hbl]
              simp only [if_true]
              go_wp2_with fail
              have cz : (w7.setCell ⟨w.heap.size + 1, 0, none⟩ (.slice (some ⟨g, 0, none⟩) C.length cap)).cell? ⟨w.heap.size + 1, 0, none⟩ = some (.slice (some ⟨g, 0, none⟩) C.length cap) := World.cell?_setCell_same' _ _ _ (by rw [cy]; rfl)
              refine bodyPost_ret (by simp [results, Tryd.results47, go_sem, cz]; try rfl) rfl ?_
              have hbz := HB7.out.setCell (p := ⟨w.heap.size + 1, 0, none⟩) hle (.slice (some ⟨g, 0, none⟩) C.length cap)
              exact ⟨⟨_, .slice x5 m5 k5, by rw [hv], by rw [hv]; exact ⟨.inr ((HOW7.out.set (p := ⟨w.heap.size + 1, 0, none⟩) HYL2.out _).less HZ2.out), fun y hy => by
                rcases HPMX.out y hy with rfl | hy
                · exact .inr (OwnB.less (own_off HO7.out HYB.out 0 [.slice (some ⟨g, 0, none⟩) C.length cap]) (by have := HYB.out; omega))
                · exact .inl hy⟩⟩, hbz⟩
            | false =>
              have hv : PV (.slice x5 m5 k5) = (C, 9) := by rw [HVV.out]; simp [HD.out, hbl]
              simp only [Bool.false_eq_true, if_false]
              go_wp2_with fail
              have cz : (w7.setCell ⟨w.heap.size + 1, 0, none⟩ (.slice (some a) C.length c)).cell? ⟨w.heap.size + 1, 0, none⟩ = some (.slice (some a) C.length c) := World.cell?_setCell_same' _ _ _ (by rw [cy]; rfl)
              refine bodyPost_ret (by simp [results, Tryd.results47, go_sem, cz]; try rfl) rfl ?_
              have hbz := HB7.out.setCell (p := ⟨w.heap.size + 1, 0, none⟩) hle (.slice (some a) C.length c)
              exact ⟨⟨.slice (some a) C.length c, .slice x5 m5 k5, by rw [hv], by rw [hv]; exact ResT.old _ _ _ _⟩, hbz⟩
    | false =>
      by_cases hbl : 2048 < b.length
      · have kb : (2048 : Int) < (b.length : Int) := by omega
        have cx := HX.out.cellv (i := 0) (v := .slice q C.length c) rfl
        have cy := HY.out.cellv (i := 0) (v := .slice none 0 0) rfl
        have fy := HY.out.free 0
        have hv : PV undef = (C, 9) := by rw [HV.out]; simp [hbl]
        go_wp2_with fail
        have cz : (w2.setCell ⟨w.heap.size + 1, 0, none⟩ (.slice q C.length c)).cell? ⟨w.heap.size + 1, 0, none⟩ = some (.slice q C.length c) := World.cell?_setCell_same' _ _ _ (by rw [cy]; rfl)
        refine bodyPost_ret (by simp [results, Tryd.results47, go_sem, cz]; try rfl) rfl ?_
        have hbz := HB.out.setCell (p := ⟨w.heap.size + 1, 0, none⟩) hle (.slice q C.length c)
        exact ⟨⟨.slice q C.length c, undef, by rw [hv], by rw [hv]; exact ResT.old _ _ _ _⟩, hbz⟩
      · have hbl2 : b.length ≤ 2048 := by omega
        have kb : ((b.length : Int) ≤ 2048) := by omega
        have kb2 : ((2048 : Int) < (b.length : Int)) = False := eq_false (by omega)
        have cx := HX.out.cellv (i := 0) (v := .slice q C.length c) rfl
        go_wp2_with fail
        have HYL2 := Lib.hid HY.out.lt
        have HZ2 := Lib.hid HB.out.size
        refine (HCL.out _ HB.out).mono ?_
        rintro e w4 ⟨⟨v4, rfl, hO4⟩, hb1⟩
        have HS4 := Lib.hid hb1.size
        replace HB := Lib.hid (HB.out.trans (hb1.mono HB.out.size))
        replace HX := Lib.hid (HX.out.keep hb1 HX.out.lt)
        replace HY := Lib.hid (HY.out.keep hb1 HY.out.lt)
        generalize w2.heap.size = BX at *
        have HO4 := Lib.hid hO4
        have HA4 : Hid (OwnT (w4.alloc (.cells #[.string ⟨#[]⟩, .bool false, .slice none 0 0] 32)) BX v4 C) := Lib.hid (hO4.alloc _)
        have HG2 : Hid (Has (w4.alloc (.cells #[.string ⟨#[]⟩, .bool false, .slice none 0 0] 32)) w4.heap.size 32 (entC ((⟨#[]⟩, false, .slice none 0 0, []) : Ent))) := Lib.hid (Has.made' w4 _ _ _ rfl)
        have HNE : Hid (∀ k, Value.ownBlock v4 = some k → w4.heap.size ≠ k) := Lib.hid (fun k hk => by have := (hO4.lt k hk).2; omega)
        have HBA : Hid (Below w.heap.size w (w4.alloc (.cells #[.string ⟨#[]⟩, .bool false, .slice none 0 0] 32))) := Lib.hid (HB.out.alloc HB.out.size _)
        have HXA := Lib.hid (HX.out.alloc (.cells #[.string ⟨#[]⟩, .bool false, .slice none 0 0] 32))
        have HYA := Lib.hid (HY.out.alloc (.cells #[.string ⟨#[]⟩, .bool false, .slice none 0 0] 32))
        have HSA : Hid (BX ≤ (w4.alloc (.cells #[.string ⟨#[]⟩, .bool false, .slice none 0 0] 32)).heap.size) := Lib.hid (by have := HS4.out; simp; omega)
        obtain ⟨x4, m4, k4, rfl⟩ := own_slice' hO4
        clear hb1 cx hO4
        go_wp2_with fail
        refine (HINS.out (⟨#[]⟩, false, .slice none 0 0, []) _ BX _ PS HPO.out _ HA4.out HSA.out HG2.out HONE.out rfl HNE.out).mono ?_
        rintro e w6 ⟨⟨v6, rfl, hO6⟩, hb1⟩
        replace HB := Lib.hid (HBA.out.trans (hb1.mono HZ2.out))
        replace HX := Lib.hid (HXA.out.keep hb1 (by have := HYL2.out; omega))
        replace HY := Lib.hid (HYA.out.keep hb1 HYL2.out)
        clear hb1 HBA HXA HYA HSA HNE HG2 HA4 HO4 HS4
        rcases hO6.has with ⟨rfl, hC0⟩ | ⟨g, cap, l, rfl, hgb, hG, hcap4, hcm, hl4⟩
        · simp at hC0
        · have hnl : (C.take PS ++ ((⟨#[]⟩, false, .slice none 0 0, []) : Ent) :: C.drop PS).length = C.length + 1 := by
            rw [List.length_append, List.length_cons, List.length_take, List.length_drop]; have := HPO.out; omega
          have HTL : Hid ((C.take PS).length = PS) := Lib.hid (by rw [List.length_take]; have := HPO.out; omega)
          have HG := Lib.hid hG
          have HTH : Hid (PS * 3 + 3 ≤ (rowC (C.take PS ++ ((⟨#[]⟩, false, .slice none 0 0, []) : Ent) :: C.drop PS) ++ l).length) := Lib.hid (by rw [List.length_append, rowC_len, hnl]; have := HPO.out; omega)
          rw [hnl] at hcap4 hl4
          rw [hnl]
          clear hO6 hG hnl
          generalize ((⟨#[]⟩, false, .slice none 0 0, []) : Ent) = xo at *
          have HYB : Hid (w.heap.size + 1 < w6.heap.size) := Lib.hid (by have h1 := HYL2.out; have h2 := HG.out.lt; omega)
          have kk : (PS : Int) < (C.length : Int) + 1 := by have := HPO.out; omega
          go_wp2_with fail
          refine (HBC.out hbl2 _ HB.out).mono ?_
          rintro e w5 ⟨⟨v5, rfl, hO5⟩, hb1⟩
          have HG5 := Lib.hid (HG.out.keep hb1 HG.out.lt)
          have HGS := Lib.hid HG.out.lt
          have HO5 := Lib.hid hO5
          replace HB := Lib.hid (HB.out.trans (hb1.mono HB.out.size))
          replace HX := Lib.hid (HX.out.keep hb1 HX.out.lt)
          replace HY := Lib.hid (HY.out.keep hb1 HY.out.lt)
          obtain ⟨x5, m5, k5, rfl⟩ := own_slice' hO5
          have ht := HG5.out.there (PS * 3) 3 (by have h := HTH.out; omega)
          obtain ⟨u0, hu0⟩ := Option.isSome_iff_exists.1 (ht 0 (by omega)).1
          obtain ⟨u1, hu1⟩ := Option.isSome_iff_exists.1 (ht 1 (by omega)).1
          obtain ⟨u2, hu2⟩ := Option.isSome_iff_exists.1 (ht 2 (by omega)).1
          have hf0 := (ht 0 (by omega)).2
          have hf1 := (ht 1 (by omega)).2
          have hf2 := (ht 2 (by omega)).2
          rw [Nat.add_zero] at hu0 hf0
          have HROW : Hid (Has (w5.setCells g (PS * 3) [.string p, .bool false, .slice x5 m5 k5]) g 32 (rowC (PL (fileE p (.slice x5 m5 k5) b)) ++ l)) := Lib.hid (by
            have h := put_row (y := fileE p (.slice x5 m5 k5) b) HG5.out
            rw [HTL.out] at h
            rw [HPE.out]
            exact h)
          have HO6 := Lib.hid (own_off HO5.out HGS.out (PS * 3) [.string p, .bool false, .slice x5 m5 k5])
          have HB6 := Lib.hid (below_setCells (Nat.le_trans HZ2.out hgb) [.string p, .bool false, .slice x5 m5 k5] (PS * 3) _ HB.out)
          have HX6 := Lib.hid (Has.offMid (show w.heap.size ≠ g by have := HYL2.out; omega) [.string p, .bool false, .slice x5 m5 k5] (PS * 3) _ HX.out)
          have HY6 := Lib.hid (Has.offMid (show w.heap.size + 1 ≠ g by have := HYL2.out; omega) [.string p, .bool false, .slice x5 m5 k5] (PS * 3) _ HY.out)
          have cx : (((w5.setCell ⟨g, PS * 3, none⟩ (.string p)).setCell ⟨g, PS * 3 + 1, none⟩ (.bool false)).setCell ⟨g, PS * 3 + 2, none⟩ (.slice x5 m5 k5)).cell? ⟨w.heap.size, 0, none⟩ = some (.slice q C.length c) := HX6.out.cellv (i := 0) (v := .slice q C.length c) rfl
          clear ht hO5 hb1 HG HG5 HO5 HB HX HY
          go_wp2_with fail
          have e5 : ((w5.setCell ⟨g, PS * 3, none⟩ (.string p)).setCell ⟨g, PS * 3 + 1, none⟩ (.bool false)).setCell ⟨g, PS * 3 + 2, none⟩ (.slice x5 m5 k5) = w5.setCells g (PS * 3) [.string p, .bool false, .slice x5 m5 k5] := rfl
          rw [e5]
          clear e5 hu0 hu1 hu2 hf0 hf1 hf2 cx
          generalize w5.setCells g (PS * 3) [.string p, .bool false, .slice x5 m5 k5] = W6 at *
          have hbw : Below w.heap.size w W6 := HB6.out
          have HVV := Lib.hid (HV.out (.slice x5 m5 k5))
          have HPMX := Lib.hid (HPM.out (.slice x5 m5 k5))
          have HLN : Hid ((PL (fileE p (.slice x5 m5 k5) b)).length = (C.length + 1)) := Lib.hid (by rw [HPL.out]; first | rfl | (simp; done))
          have HEN : Hid (∀ w', Below w.heap.size w w' → w'.ownsRow w6.heap.size 5 1 (.slice x5 m5 k5) b.length (b.map u8v) → Ents w' (PL (fileE p (.slice x5 m5 k5) b))) := Lib.hid (fun w' h1 h2 y hy => by
            rcases HPM.out _ _ hy with rfl | hy
            · exact Bs.own h2
            · exact (HTR.out _ h1).2 y hy)
          have HWIX := Lib.hid (HWI.out (PL (fileE p (.slice x5 m5 k5) b)) (some ⟨g, 0, none⟩) cap W6 (by rw [HLN.out]; omega) (by have h := HPB.out (.slice x5 m5 k5); have h2 : (fileE p (.slice x5 m5 k5) b).by.length = b.length := rfl; omega) (has_seesE HROW.out) (HEN.out _ HB6.out HO6.out))
          rw [HLN.out] at HWIX
          have HOW : Hid (OwnT W6 BX (.slice (some ⟨g, 0, none⟩) (C.length + 1) cap) (PL (fileE p (.slice x5 m5 k5) b))) := Lib.hid (by
            have h := OwnT.of (base := BX) (cap := cap) (C := PL (fileE p (.slice x5 m5 k5) b)) hgb HROW.out (by rw [HLN.out]; omega) hcm (by rw [HLN.out]; omega)
            rw [HLN.out] at h
            exact h)
          generalize PL (fileE p (.slice x5 m5 k5) b) = DD at *
          generalize fitsT DD = FT at *
          clear HPE HPB HPL HPM HV HROW hbw
          refine HWIX.out.mono ?_
          rintro e w7 ⟨rfl, hb1⟩
          have HO7 := Lib.hid (own_below1 HO6.out hb1)
          have HOW7 := Lib.hid (HOW.out.keep hb1)
          have HB7 := Lib.hid (HB6.out.trans (hb1.mono HB6.out.size))
          have HY7 := Lib.hid (HY6.out.keep hb1 HY6.out.lt)
          clear hb1 HWIX HO6 HOW HB6 HX6 HY6
          have cy := HY7.out.cellv (i := 0) (v := .slice none 0 0) rfl
          have fy := HY7.out.free 0
          cases FT with
          | true =>
            have hv : PV (.slice x5 m5 k5) = (DD, 0) := by rw [HVV.out]; simp [hbl]
            simp only [if_true]
            go_wp2_with fail
            have cz : (w7.setCell ⟨w.heap.size + 1, 0, none⟩ (.slice (some ⟨g, 0, none⟩) (C.length + 1) cap)).cell? ⟨w.heap.size + 1, 0, none⟩ = some (.slice (some ⟨g, 0, none⟩) (C.length + 1) cap) := World.cell?_setCell_same' _ _ _ (by rw [cy]; rfl)
            refine bodyPost_ret (by simp [results, Tryd.results47, go_sem, cz]; try rfl) rfl ?_
            have hbz := HB7.out.setCell (p := ⟨w.heap.size + 1, 0, none⟩) hle (.slice (some ⟨g, 0, none⟩) (C.length + 1) cap)
            exact ⟨⟨_, .slice x5 m5 k5, by rw [hv], by rw [hv]; exact ⟨.inr ((HOW7.out.set (p := ⟨w.heap.size + 1, 0, none⟩) HYL2.out _).less HZ2.out), fun y hy => by
              rcases HPMX.out y hy with rfl | hy
              · exact .inr (OwnB.less (own_off HO7.out HYB.out 0 [.slice (some ⟨g, 0, none⟩) (C.length + 1) cap]) (by have := HYB.out; omega))
              · exact .inl hy⟩⟩, hbz⟩
          | false =>
            have hv : PV (.slice x5 m5 k5) = (C, 9) := by rw [HVV.out]; simp [hbl]
            simp only [Bool.false_eq_true, if_false]
            go_wp2_with fail
            have cz : (w7.setCell ⟨w.heap.size + 1, 0, none⟩ (.slice q C.length c)).cell? ⟨w.heap.size + 1, 0, none⟩ = some (.slice q C.length c) := World.cell?_setCell_same' _ _ _ (by rw [cy]; rfl)
            refine bodyPost_ret (by simp [results, Tryd.results47, go_sem, cz]; try rfl) rfl ?_
            have hbz := HB7.out.setCell (p := ⟨w.heap.size + 1, 0, none⟩) hle (.slice q C.length c)
            exact ⟨⟨.slice q C.length c, .slice x5 m5 k5, by rw [hv], by rw [hv]; exact ResT.old _ _ _ _⟩, hbz⟩
  · have kA : (RM = 0) = False := eq_false hr
    have kAb : (RM == 0) = false := by simpa using hr
    have kAn : (RM != 0) = true := by simpa using hr
    have cx := HX.out.cellv (i := 0) (v := .slice q C.length c) rfl
    have cy := HY.out.cellv (i := 0) (v := .slice none 0 0) rfl
    have fy := HY.out.free 0
    have hv : PV undef = (C, RM) := by rw [HV.out, if_pos hr]
    go_wp2_with fail
    have cz : (w1.setCell ⟨w.heap.size + 1, 0, none⟩ (.slice q C.length c)).cell? ⟨w.heap.size + 1, 0, none⟩ = some (.slice q C.length c) := World.cell?_setCell_same' _ _ _ (by rw [cy]; rfl)
    refine bodyPost_ret (by simp [results, Tryd.results47, go_sem, cz]; try rfl) rfl ?_
    have hbz := HB.out.setCell (p := ⟨w.heap.size + 1, 0, none⟩) hle (.slice q C.length c)
    exact ⟨⟨.slice q C.length c, undef, by rw [hv], by rw [hv]; exact ResT.old _ _ _ _⟩, hbz⟩
end Go.Proofs.YtefamkckoikeoaaDoor
/- A drawn region in which two operations that are no reads interleave (a call, memory made), with pure ones ahead, and one named order behind. No condition. -/
namespace Go.Proofs.YtefamkckoikeoaaDoor
open Go.RowKit
section
variable {P : Program} {md : Region.Mode} {ops : Array Oper} {Q : Exit → Act → World → Prop}
theorem wanted_plain2 {o : Oper} (h : o.guard = none) (y : Nat → Option Bool) : Region.wanted o y = true := by unfold Region.wanted; rw [h]
theorem wpOp_plain2 {i : Nat} {o : Oper} {K : Act → World → Prop} {a : Act} {w : World} (ho : ops[i]? = some o) (hg : o.guard = none) (h : o.wp P a w K Q) : wpOp P ops Q i K a w := by
  unfold wpOp
  rw [ho]
  show if _ then _ else _
  rw [if_pos (wanted_plain2 hg _)]
  exact .inl h
/-- An operation leaves these worlds, with this value. -/
def Leaves2 (P : Program) (Q : Exit → Act → World → Prop) (S : World → Prop) (o : Oper) (a : Act) (w : World) (R : Value → World → Prop) : Prop :=
  ∀ K : Act → World → Prop, (∀ v w1, S w1 → R v w1 → K (a.put o.dst v) w1) → o.wp P a w K Q
theorem wpAnyH_pair {S : World → Prop} {fuel : Nat} {listed : Array Bool} {a : Act} {w : World} (i k : Nat) (oi ok : Oper)
    (hi : ops[i]? = some oi) (hk : ops[k]? = some ok) (gi : oi.guard = none) (gk : ok.guard = none) (nik : i ≠ k)
    (b0 : Region.ready md ops listed = [i, k]) (b1 : Region.ready md ops (listed.setIfInBounds i true) = [k]) (b2 : Region.ready md ops (listed.setIfInBounds k true) = [i])
    (Si Sk : Value → World → Prop) (Sik : Value → Value → World → Prop) (cik : ∀ v u, (a.put ok.dst u).put oi.dst v = (a.put oi.dst v).put ok.dst u)
    (h1 : Leaves2 P Q S oi a w Si) (h2 : Leaves2 P Q S ok a w Sk)
    (h3 : ∀ v w1, Si v w1 → Leaves2 P Q S ok (a.put oi.dst v) w1 (Sik v))
    (h4 : ∀ u w1, Sk u w1 → Leaves2 P Q S oi (a.put ok.dst u) w1 (fun v => Sik v u))
    (h : ∀ v u w', S w' → Sik v u w' → wpAnyH P md ops Q S fuel ((listed.setIfInBounds i true).setIfInBounds k true) ((a.put oi.dst v).put ok.dst u) w') :
    wpAnyH P md ops Q S (fuel + 2) listed a w := by
  have sik : (listed.setIfInBounds i true).setIfInBounds k true = (listed.setIfInBounds k true).setIfInBounds i true := Array.setIfInBounds_comm _ _ nik
  refine wpAnyH_all b0 (by simp) fun x hx => ?_
  rcases (show x = i ∨ x = k by simpa using hx) with rfl | rfl
  · refine wpOp_plain2 hi gi (h1 _ fun v w1 e1 s1 => ⟨e1, ?_⟩)
    refine wpAnyH_all b1 (by simp) fun y hy => ?_
    obtain rfl : y = k := by simpa using hy
    exact wpOp_plain2 hk gk (h3 v w1 s1 _ fun u w2 e2 s2 => ⟨e2, h v u w2 e2 s2⟩)
  · refine wpOp_plain2 hk gk (h2 _ fun u w1 e1 s1 => ⟨e1, ?_⟩)
    refine wpAnyH_all b2 (by simp) fun y hy => ?_
    obtain rfl : y = i := by simpa using hy
    refine wpOp_plain2 hi gi (h4 u w1 s1 _ fun v w2 e2 s2 => ⟨e2, ?_⟩)
    rw [cik, ← sik]
    exact h v u w2 e2 s2
/-- A run of pure operations at a region's head. -/
def purB2 (md : Region.Mode) (ops : Array Oper) : List Nat → Array Bool → Bool
  | [], _ => true
  | i :: r, listed => Region.free md ops listed i && ((Region.ready md ops listed).contains i && purB2 md ops r (listed.setIfInBounds i true))
def setAll2 : List Nat → Array Bool → Array Bool
  | [], l => l
  | i :: r, l => setAll2 r (l.setIfInBounds i true)
def wpPur2 (P : Program) (ops : Array Oper) (S : World → Prop) (K : Act → Prop) : List Oper → Act → Prop
  | [], a => K a
  | o :: r, a => ∃ v, YieldsIf P ops S o v a ∧ wpPur2 P ops S K r (a.put o.dst v)
def pickPur2 (l : List Oper) : List Nat → List Oper
  | [] => []
  | i :: r => match l[i]? with
    | some o => o :: pickPur2 l r
    | none => pickPur2 l r
theorem wpAnyH_pur2 {S : World → Prop} (hs : Region.noSelect ops = true) (hQ : ∀ c a d v w, Q (.panic c) (a.put d v) w → Q (.panic c) a w) (fuel : Nat) :
    ∀ (l : List Nat) (listed : Array Bool) (a : Act) (w : World), S w → purB2 md ops l listed = true → (l.all fun x => decide (x < ops.size)) = true →
      wpPur2 P ops S (fun a' => wpAnyH P md ops Q S fuel (setAll2 l listed) a' w) (pickPur2 ops.toList l) a → wpAnyH P md ops Q S (fuel + l.length) listed a w
  | [], _, _, _, _, _, _, h => h
  | i :: r, listed, a, w, hS, hB, hl, h => by
    simp only [List.all_cons, Bool.and_eq_true, decide_eq_true_eq] at hl
    have ho : ops.toList[i]? = some ops[i] := by simp [hl.1]
    have ho' : ops[i]? = some ops[i] := by simp [hl.1]
    rw [pickPur2, ho] at h
    obtain ⟨v, hy, hr⟩ := h
    simp only [purB2, Bool.and_eq_true] at hB
    exact wpAnyH_take ho' hs hB.1 hB.2.1 (fun c a w => hQ c a _ v w) hy hS (wpAnyH_pur2 hs hQ fuel r _ _ _ hS hB.2.2 hl.2 hr)
theorem pur_step2 {S : World → Prop} {o : Oper} {r : List Oper} {a : Act} {K : Act → Prop} {v : Value} (hw : Region.wanted o (yielded ops a.tmps) = true)
    (hy : ∀ w', S w' → (execOp a.eval o).run P w' = .ok (.value v) w') (h : wpPur2 P ops S K r (a.put o.dst v)) : wpPur2 P ops S K (o :: r) a := ⟨v, .inl ⟨hw, hy⟩, h⟩
theorem pur_nil2 {S : World → Prop} {a : Act} {K : Act → Prop} (h : K a) : wpPur2 P ops S K [] a := h
theorem wpPur2_mono {S : World → Prop} {K K' : Act → Prop} (hK : ∀ a, K a → K' a) : ∀ (l : List Oper) (a : Act), wpPur2 P ops S K l a → wpPur2 P ops S K' l a
  | [], _, h => hK _ h
  | _ :: r, _, h => by obtain ⟨v, h1, h2⟩ := h; exact ⟨v, h1, wpPur2_mono hK r _ h2⟩
end
def PairGoal (P : Program) (Q : Exit → Act → World → Prop) (oi ok : Oper) (S : World → Prop) (C : Act → World → Prop) (w : World) (a : Act) : Prop :=
  ∃ (Si Sk : Value → World → Prop) (Sik : Value → Value → World → Prop),
    Leaves2 P Q S oi a w Si ∧ Leaves2 P Q S ok a w Sk ∧
    (∀ v w1, Si v w1 → Leaves2 P Q S ok (a.put oi.dst v) w1 (Sik v)) ∧
    (∀ u w1, Sk u w1 → Leaves2 P Q S oi (a.put ok.dst u) w1 (fun v => Sik v u)) ∧
    ∀ v u w', S w' → Sik v u w' → C ((a.put oi.dst v).put ok.dst u) w'
def pairB (q : Array Oper) (l : List Nat) (i k : Nat) (l2 : List (Nat × Bool)) : Bool :=
  let l0 := setAll2 l (Array.replicate q.size false)
  (decide (q.size = l2.length + 2 + l.length) && (purB2 .any q l (Array.replicate q.size false) && l.all fun x => decide (x < q.size))) &&
  ((decide (Region.ready .any q l0 = [i, k]) && (decide (Region.ready .any q (l0.setIfInBounds i true) = [k]) && decide (Region.ready .any q (l0.setIfInBounds k true) = [i]))) &&
  (orsB .any q l2 ((l0.setIfInBounds i true).setIfInBounds k true) && l2.all fun x => decide (x.1 < q.size)))
theorem wp_region_pair {P : Program} {Q : Exit → Act → World → Prop} {id : Nat} {a : Act} {w : World} {lo : List Oper} (l : List Nat) (i k : Nat) (l2 : List (Nat × Bool)) (oi ok : Oper)
    (hi : lo[i]? = some oi) (hk : lo[k]? = some ok) (gi : oi.guard = none) (gk : ok.guard = none) (nik : i ≠ k)
    (di : ∀ d, ok.dst = some d → oi.dst ≠ some d)
    (hm : P.follows .mixedOrders = true) (hs : Region.noSelect lo.toArray = true) (q : Array Oper) (hB : pairB q l i k l2 = true) (hq : lo.toArray = q) (S : World → Prop) (hS : S w.drew)
    (h : wpPur2 P lo.toArray S (PairGoal P (NoPanic Q) oi ok S (fun a' w' => wpOrsL P lo.toArray S (NoPanic Q) (pickOrs lo l2) a' w') w.drew) (pickPur2 lo l) a) : (Code.region id lo.toArray true).wp P Q a w := by
  subst hq
  unfold pairB at hB
  simp only [Bool.and_eq_true, decide_eq_true_eq] at hB
  obtain ⟨⟨b0, b1, b2⟩, ⟨b3, b4, b5⟩, b6, b7⟩ := hB
  refine wp_region_noPanic (wp_region_held_drew (S := S) hm hS fun _ => ?_)
  have hi' : lo.toArray[i]? = some oi := by simpa using hi
  have hk' : lo.toArray[k]? = some ok := by simpa using hk
  refine (congrArg (fun n => wpAnyH P .any lo.toArray (NoPanic Q) S n (Array.replicate lo.toArray.size false) a w.drew) b0).mpr ?_
  refine wpAnyH_pur2 hs (fun _ _ _ _ _ h => h) _ l _ _ _ hS b1 b2 ?_
  refine wpPur2_mono (fun a' h' => ?_) _ _ h
  obtain ⟨Si, Sk, Sik, h1, h2, h3, h4, h5⟩ := h'
  exact wpAnyH_pair i k oi ok hi' hk' gi gk nik b3 b4 b5 Si Sk Sik (fun v u => Act.put_comm _ u v di) h1 h2 h3 h4 fun v u w' e f =>
    wpAnyH_of_ors hs (fun _ _ _ _ _ h => h) l2 _ _ _ _ (Nat.le_refl _) b6 e (wpOrs_of_L _ _ _ _ b7 (h5 v u w' e f))
end Go.Proofs.YtefamkckoikeoaaDoor
/- Contract: package tree's Make. Conditions: at most 900 entries, all bytes together at most 2^61, paths shorter than 2^61 bytes. -/
namespace Go.Proofs.YtefamkckoikeoaaDoor
open Go.RowKit
def dirE (p : ByteArray) : Ent := (p, true, .slice none 0 0, [])
def makeP (C : List Ent) (p : ByteArray) : List Ent × Int :=
  if askT C [p] ≠ 0 then (C, askT C [p]) else if hasT C p.data.toList = true then (C, 6) else if roomT C p.data.toList ≠ 0 then (C, roomT C p.data.toList) else
  if fitsT (putL C (dirE p)) = true then (putL C (dirE p), 0) else (C, 9)
noncomputable def chkMk : Array Oper := regOf Tryd.f10.body 10
set_option maxRecDepth 100000 in
theorem chkMk_ok : pairB chkMk [0, 1, 2, 4, 5, 6] 3 7 [(8, false), (9, false), (10, true), (11, true), (12, false), (13, true)] = true := by kernel_rfl
set_option maxHeartbeats 16000000 in
set_option maxRecDepth 100000 in
theorem tmake_any (C : List Ent) (q : Option Addr) (c : Nat) (p : ByteArray) (hm : C.length ≤ 900) (hcap : C.length ≤ c) (hq : q = none → c = 0) (hb : bytesT C ≤ 2305843009213693952) (hn : ∀ e ∈ C, e.1.size < 9223372036854775808) (hp : p.size < 2305843009213693952)
    (w : World) (hs : Sees w w.heap.size q (rowC C)) (hE : Ents w C) :
    Calls Tryd.prog 10 #[.agg #[.slice q C.length c], .string p] w fun e w' => (∃ v, e = .returned (.tuple #[.agg #[v], .int .i64 (makeP C p).2]) ∧ ResT w' w.heap.size (.slice q C.length c) C v (makeP C p).1) ∧ Below w.heap.size w w' := by
  have HAK : Hid (∀ w1 (_ : Below w.heap.size w w1) q2 (_ : Sees w1 w1.heap.size q2 ([p].map Value.string)), Calls Tryd.prog 41 #[.agg #[.slice q C.length c], .slice q2 1 1] w1 fun e w' => e = .returned (.int .i64 (askT C [p])) ∧ Below w1.heap.size w1 w') :=
    Lib.hid (fun w1 h q2 h2 => tasked_any C q c [p] q2 1 (by omega) hcap (by omega) hn (by simp) (by simp; omega) w1 ((hs.keep h).more h.size) (hE.keep h) h2)
  have HUP := Lib.hid (fun (hA : AscE C) w1 (h : Below w.heap.size w w1) => tupIn_any C q c p (by omega) hn hA hp w1 ((hs.keep h).more h.size))
  have HWH := Lib.hid (fun (hA : AscE C) w1 (h : Below w.heap.size w w1) => twhere_any C q c p (by omega) hn (by omega) (hA.up _) w1 ((hs.keep h).more h.size))
  have HCL := Lib.hid (fun w1 (h : Below w.heap.size w w1) => tclone_any C q c (by omega) w1 hq ((hs.keep h).more h.size) (hE.keep h))
  have HINS := Lib.hid (fun e v base g2 i h1 w1 hO hb0 hg2 h1C h1e hne => tinsert_any C e i v base g2 h1 (by omega) w1 hO hb0 hg2 h1C h1e hne)
  have HWI := Lib.hid (fun (D : List Ent) q1 c1 w1 (h1 : D.length ≤ 1000) (h2 : bytesT D ≤ 4611686018427387904) h3 h4 => twithin_any D q1 c1 q C.length c (by omega) h2 w1 h3 h4)
  have HTR : Hid (∀ w', Below w.heap.size w w' → TrV w' (.slice q C.length c) C ∧ Ents w' C) := Lib.hid (fun w' h => ⟨⟨q, c, rfl, hcap, hq, (hs.keep h).more h.size⟩, hE.keep h⟩)
  have HONE := Lib.hid (one_row hE)
  have HB : Hid (Below w.heap.size w ((w.alloc (.cells #[.slice q C.length c] 25)).alloc (.cells #[.slice none 0 0] 25))) := Lib.hid (((Below.refl _ _).alloc (Nat.le_refl _) _).alloc (by simp) _)
  have HX : Hid (Has ((w.alloc (.cells #[.slice q C.length c] 25)).alloc (.cells #[.slice none 0 0] 25)) w.heap.size 25 [.slice q C.length c]) := Lib.hid ((Has.made w _ _).alloc _)
  have HY : Hid (Has ((w.alloc (.cells #[.slice q C.length c] 25)).alloc (.cells #[.slice none 0 0] 25)) (w.heap.size + 1) 25 [.slice none 0 0]) := Lib.hid (Has.made1 w _ _ _ _ rfl)
  have HS1 : Hid (Sees (((w.alloc (.cells #[.slice q C.length c] 25)).alloc (.cells #[.slice none 0 0] 25)).alloc (.cells #[.string p] 9)) (((w.alloc (.cells #[.slice q C.length c] 25)).alloc (.cells #[.slice none 0 0] 25)).alloc (.cells #[.string p] 9)).heap.size (some ⟨w.heap.size + 1 + 1, 0, none⟩) ([p].map Value.string)) := Lib.hid (has_sees (by have h := Has.made1 (w.alloc (.cells #[.slice q C.length c] 25)) (.cells #[.slice none 0 0] 25) 9 #[.string p] _ rfl; simpa using h))
  have HPB := Lib.hid (putL_bytes C (dirE p))
  have HPL : Hid ((putL C (dirE p)).length = C.length + (if hasT C p.data.toList = true then 0 else 1)) := Lib.hid (putL_len C (dirE p))
  have HPM := Lib.hid (fun y => putL_mem (C := C) (e := dirE p) (y := y))
  have HPE : Hid (putL C (dirE p) = C.take (posT C p.data.toList) ++ dirE p :: C.drop (if hasT C p.data.toList = true then posT C p.data.toList + 1 else posT C p.data.toList)) := Lib.hid rfl
  have HPO : Hid (posT C p.data.toList ≤ C.length) := Lib.hid (posT_le C _)
  have HGD : Hid (askT C [p] = 0 → AscE C) := Lib.hid (fun h => goodP_asc (askT_good h).1)
  obtain ⟨V, hV⟩ : ∃ V, makeP C p = V := ⟨_, rfl⟩
  rw [hV]
  unfold makeP at hV
  have HV := Lib.hid hV
  generalize putL C (dirE p) = DD at *
  generalize askT C [p] = AK at *
  generalize roomT C p.data.toList = RM at *
  generalize hasT C p.data.toList = HS at *
  generalize posT C p.data.toList = PS at *
  clear hs hE hn hq hV
  go_enter Tryd.func10, Tryd.ntmps10
  go_wp2_with fail
  refine (HAK.out _ (HB.out.alloc HB.out.size _) _ HS1.out).mono ?_
  rintro e w1 ⟨rfl, hb1⟩
  replace HX := Lib.hid ((HX.out.alloc _).keep hb1 (HX.out.alloc _).lt)
  replace HY := Lib.hid ((HY.out.alloc _).keep hb1 (HY.out.alloc _).lt)
  replace HB := Lib.hid ((HB.out.alloc HB.out.size _).trans (hb1.mono (HB.out.alloc HB.out.size _).size))
  have hle : w.heap.size ≤ w.heap.size + 1 := by omega
  clear hb1 HS1 HAK
  by_cases hA : AK = 0
  · subst hA
    have HAS := Lib.hid (HGD.out rfl)
    replace HUP := Lib.hid (HUP.out HAS.out)
    replace HWH := Lib.hid (HWH.out HAS.out)
    have cx := HX.out.cellv (i := 0) (v := .slice q C.length c) rfl
    clear HGD
    go_wp2_with fail
    refine (HWH.out _ HB.out).mono ?_
    rintro e w2 ⟨rfl, hb1⟩
    replace HB := Lib.hid (HB.out.trans (hb1.mono HB.out.size))
    replace HX := Lib.hid (HX.out.keep hb1 HX.out.lt)
    replace HY := Lib.hid (HY.out.keep hb1 HY.out.lt)
    clear hb1 cx
    cases HS with
    | true =>
      have cx := HX.out.cellv (i := 0) (v := .slice q C.length c) rfl
      have cy := HY.out.cellv (i := 0) (v := .slice none 0 0) rfl
      have fy := HY.out.free 0
      have hv : V = (C, 6) := by rw [← HV.out]; simp
      subst hv
      go_wp2_with fail
      have cz : (w2.setCell ⟨w.heap.size + 1, 0, none⟩ (.slice q C.length c)).cell? ⟨w.heap.size + 1, 0, none⟩ = some (.slice q C.length c) := World.cell?_setCell_same' _ _ _ (by rw [cy]; rfl)
      refine bodyPost_ret (by simp [results, Tryd.results10, go_sem, cz]; try rfl) rfl ?_
      have hbz := HB.out.setCell (p := ⟨w.heap.size + 1, 0, none⟩) hle (.slice q C.length c)
      exact ⟨⟨.slice q C.length c, rfl, ResT.old _ _ _ _⟩, hbz⟩
    | false =>
    have cx := HX.out.cellv (i := 0) (v := .slice q C.length c) rfl
    go_wp2_with fail
    refine (HUP.out _ HB.out).mono ?_
    rintro e w3 ⟨rfl, hb1⟩
    replace HB := Lib.hid (HB.out.trans (hb1.mono HB.out.size))
    replace HX := Lib.hid (HX.out.keep hb1 HX.out.lt)
    replace HY := Lib.hid (HY.out.keep hb1 HY.out.lt)
    clear hb1 cx
    by_cases hr : RM = 0
    · subst hr
      have hle2 := HB.out.size
      go_wp2_with fail
      refine wp_region_pair [0, 1, 2, 4, 5, 6] 3 7 [(8, false), (9, false), (10, true), (11, true), (12, false), (13, true)] _ _ rfl rfl rfl rfl (by decide) (by intro d h; cases h; decide) (by kernel_rfl) (by kernel_rfl) _ chkMk_ok rfl (fun w' => Below w.heap.size w w' ∧ Has w' w.heap.size 25 [.slice q C.length c]) ⟨HB.out.drew, HX.out.drew⟩ ?_
      replace HB := Lib.hid HB.out.drew
      replace HX := Lib.hid HX.out.drew
      replace HY := Lib.hid HY.out.drew
      replace hle2 : w.heap.size ≤ w3.drew.heap.size := hle2
      generalize w3.drew = wd at *
      have HYL := Lib.hid HY.out.lt
      simp only [pickPur2, pickOrs, List.getElem?_cons_zero, List.getElem?_cons_succ]
      refine pur_step2 (v := ?_) (by kernel_rfl) ?_ ?_
      rotate_left
      · intro w' hv; have cx := hv.2.cellv (i := 0) (v := .slice q C.length c) rfl; clear hv; go_simp; try with_reducible rfl
      try simp only [Act.put, List.setIfInBounds_toArray, List.set_cons_zero, List.set_cons_succ]
      refine pur_step2 (v := ?_) (by kernel_rfl) ?_ ?_
      rotate_left
      · intro w' hv; clear hv; go_simp; try with_reducible rfl
      try simp only [Act.put, List.setIfInBounds_toArray, List.set_cons_zero, List.set_cons_succ]
      refine pur_step2 (v := ?_) (by kernel_rfl) ?_ ?_
      rotate_left
      · intro w' hv; have cx := hv.2.cellv (i := 0) (v := .slice q C.length c) rfl; clear hv; go_simp; try with_reducible rfl
      try simp only [Act.put, List.setIfInBounds_toArray, List.set_cons_zero, List.set_cons_succ]
      refine pur_step2 (v := ?_) (by kernel_rfl) ?_ ?_
      rotate_left
      · intro w' hv; clear hv; go_simp; try with_reducible rfl
      try simp only [Act.put, List.setIfInBounds_toArray, List.set_cons_zero, List.set_cons_succ]
      refine pur_step2 (v := ?_) (by kernel_rfl) ?_ ?_
      rotate_left
      · intro w' hv; clear hv; go_simp; try with_reducible rfl
      try simp only [Act.put, List.setIfInBounds_toArray, List.set_cons_zero, List.set_cons_succ]
      refine pur_step2 (v := ?_) (by kernel_rfl) ?_ ?_
      rotate_left
      · intro w' hv; clear hv; go_simp; try with_reducible rfl
      try simp only [Act.put, List.setIfInBounds_toArray, List.set_cons_zero, List.set_cons_succ]
      refine pur_nil2 ?_
      refine ⟨fun v w1 => (Below w.heap.size w w1 ∧ Has w1 w.heap.size 25 [.slice q C.length c]) ∧ OwnT w1 wd.heap.size v C ∧ wd.heap.size ≤ w1.heap.size ∧ Has w1 (w.heap.size + 1) 25 [.slice none 0 0],
        fun u w1 => (Below w.heap.size w w1 ∧ Has w1 w.heap.size 25 [.slice q C.length c]) ∧ (∃ g, u = .slice (some ⟨g, 0, none⟩) 1 1 ∧ Has w1 g 32 (entC (dirE p))) ∧ wd.heap.size ≤ w1.heap.size ∧ Has w1 (w.heap.size + 1) 25 [.slice none 0 0],
        fun v u w1 => OwnT w1 wd.heap.size v C ∧ (∃ g, u = .slice (some ⟨g, 0, none⟩) 1 1 ∧ Has w1 g 32 (entC (dirE p)) ∧ ∀ k, Value.ownBlock v = some k → g ≠ k) ∧ wd.heap.size ≤ w1.heap.size ∧ Has w1 (w.heap.size + 1) 25 [.slice none 0 0], ?_, ?_, ?_, ?_, ?_⟩
      · intro K hK
        go_wp2_with fail
        refine (HCL.out _ HB.out).mono ?_
        rintro e w4 ⟨⟨v4, rfl, hO4⟩, hb1⟩
        have hS : Below w.heap.size w w4 ∧ Has w4 w.heap.size 25 [.slice q C.length c] := ⟨HB.out.trans (hb1.mono HB.out.size), HX.out.keep hb1 HX.out.lt⟩
        exact hK _ _ hS ⟨hS, hO4, hb1.size, HY.out.keep hb1 HY.out.lt⟩
      · intro K hK
        go_wp2_with fail
        have hS : Below w.heap.size w (wd.alloc (.cells #[.string p, .bool true, .slice none 0 0] 32)) ∧ Has (wd.alloc (.cells #[.string p, .bool true, .slice none 0 0] 32)) w.heap.size 25 [.slice q C.length c] := ⟨HB.out.alloc HB.out.size _, HX.out.alloc _⟩
        exact hK _ _ hS ⟨hS, ⟨_, rfl, Has.made' wd _ _ _ rfl⟩, by simp, HY.out.alloc _⟩
      · rintro v w1 ⟨⟨hs1, hs2⟩, hO1, hsz, hY1⟩ K hK
        go_wp2_with fail
        have hS : Below w.heap.size w (w1.alloc (.cells #[.string p, .bool true, .slice none 0 0] 32)) ∧ Has (w1.alloc (.cells #[.string p, .bool true, .slice none 0 0] 32)) w.heap.size 25 [.slice q C.length c] := ⟨hs1.alloc hs1.size _, hs2.alloc _⟩
        exact hK _ _ hS ⟨hO1.alloc _, ⟨_, rfl, Has.made' w1 _ _ _ rfl, fun k hk => by have := (hO1.lt k hk).2; omega⟩, by simp; omega, hY1.alloc _⟩
      · rintro u w1 ⟨⟨hs1, hs2⟩, ⟨g, rfl, hG⟩, hsz, hY1⟩ K hK
        go_wp2_with fail
        refine (HCL.out _ hs1).mono ?_
        rintro e w4 ⟨⟨v4, rfl, hO4⟩, hb1⟩
        have hS : Below w.heap.size w w4 ∧ Has w4 w.heap.size 25 [.slice q C.length c] := ⟨hs1.trans (hb1.mono hs1.size), hs2.keep hb1 hs2.lt⟩
        exact hK _ _ hS ⟨hO4.less hsz, ⟨g, rfl, hG.keep hb1 hG.lt, fun k hk => by have h1 := (hO4.lt k hk).1; have h2 := hG.lt; omega⟩, Nat.le_trans hsz hb1.size, hY1.keep hb1 hY1.lt⟩
      · rintro v u w4 hS ⟨hO4, ⟨g, rfl, hG, hne⟩, hsz, hY4⟩
        have HS4 := Lib.hid hS
        have HY4 := Lib.hid hY4
        have HO4 := Lib.hid hO4
        have HG4 := Lib.hid hG
        have HNE := Lib.hid hne
        obtain ⟨x4, m4, k4, rfl⟩ := own_slice' hO4
        clear hS hY4 hO4 hG hne
        try simp only [Act.put, List.setIfInBounds_toArray, List.set_cons_zero, List.set_cons_succ]
        refine ors_step (by kernel_rfl) (fun K hK => ?_)
        go_wp2_with fail
        refine (HINS.out (dirE p) _ wd.heap.size g PS HPO.out w4 HO4.out hsz HG4.out HONE.out rfl HNE.out).mono ?_
        rintro e w5 ⟨⟨v5, rfl, hO5⟩, hb5⟩
        have HS5 : Hid (Below w.heap.size w w5 ∧ Has w5 w.heap.size 25 [.slice q C.length c]) := Lib.hid ⟨HS4.out.1.trans (hb5.mono hle2), HS4.out.2.keep hb5 (by have := HYL.out; omega)⟩
        have HY5 := Lib.hid (HY4.out.keep hb5 HYL.out)
        have hde : C.take PS ++ dirE p :: C.drop PS = DD := HPE.out.symm
        rw [hde] at hO5
        have hll : DD.length = C.length + 1 := HPL.out
        refine hK _ _ ⟨HS5.out, ?_⟩
        clear hK hb5 HS4 HY4 HO4 HG4 HNE HX HY HB
        rcases hO5.has with ⟨rfl, hC0⟩ | ⟨g5, cap5, l5, rfl, _, _, hcap5, _, _⟩
        · rw [hC0] at hll; simp at hll
        have HEN : Hid (∀ w', Below w.heap.size w w' → Ents w' DD) := Lib.hid (fun w' h y hy => by
          rcases HPM.out y hy with rfl | hy
          · exact Bs.nil _
          · exact (HTR.out _ h).2 y hy)
        have HWIX := Lib.hid (HWI.out DD (some ⟨g5, 0, none⟩) cap5 w5 (by omega) (by have h := HPB.out; have h2 : (dirE p).by.length = 0 := rfl; omega) (by
          obtain ⟨_, _, e, _, _, hs⟩ := hO5.tr
          cases e
          exact hs) (HEN.out _ HS5.out.1))
        have HOW := Lib.hid hO5
        rw [hll] at HWIX HOW ⊢
        clear hO5 hde hcap5
        generalize fitsT DD = FT at *
        try simp only [Act.put, List.setIfInBounds_toArray, List.set_cons_zero, List.set_cons_succ]
        cases FT with
        | true =>
          have hv : V = (DD, 0) := by rw [← HV.out]; simp
          subst hv
          refine ors_step (by kernel_rfl) (fun K hK => ?_)
          go_wp2_with fail
          refine HWIX.out.mono ?_
          rintro e w6 ⟨rfl, hb6⟩
          have HS6 : Hid (Below w.heap.size w w6 ∧ Has w6 w.heap.size 25 [.slice q C.length c]) := Lib.hid ⟨HS5.out.1.trans (hb6.mono HS5.out.1.size), HS5.out.2.keep hb6 HS5.out.2.lt⟩
          have HY6 := Lib.hid (HY5.out.keep hb6 HY5.out.lt)
          have HO6 := Lib.hid (HOW.out.keep hb6)
          refine hK _ _ ⟨HS6.out, ?_⟩
          simp only [if_true]
          clear hK hb6 HWIX HOW HS5 HY5
          try simp only [Act.put, List.setIfInBounds_toArray, List.set_cons_zero, List.set_cons_succ]
          refine ors_pure (v := ?_) (by kernel_rfl) ?_ ?_
          rotate_left
          · intro w' hv; clear hv; go_simp; try with_reducible rfl
          try simp only [Act.put, List.setIfInBounds_toArray, List.set_cons_zero, List.set_cons_succ]
          refine ors_pure (v := ?_) (by kernel_rfl) ?_ ?_
          rotate_left
          · intro w' hv; clear hv; go_simp; try with_reducible rfl
          try simp only [Act.put, List.setIfInBounds_toArray, List.set_cons_zero, List.set_cons_succ]
          have cy := HY6.out.cellv (i := 0) (v := .slice none 0 0) rfl
          have fy := HY6.out.free 0
          have hbz := HS6.out.1.setCell (p := ⟨w.heap.size + 1, 0, none⟩) hle (.slice (some ⟨g5, 0, none⟩) (C.length + 1) cap5)
          have HZZ : Hid (Below w.heap.size w (w6.setCell ⟨w.heap.size + 1, 0, none⟩ (.slice (some ⟨g5, 0, none⟩) (C.length + 1) cap5)) ∧ Has (w6.setCell ⟨w.heap.size + 1, 0, none⟩ (.slice (some ⟨g5, 0, none⟩) (C.length + 1) cap5)) w.heap.size 25 [.slice q C.length c]) := Lib.hid ⟨hbz, HS6.out.2.off (by show w.heap.size ≠ w.heap.size + 1; omega) _⟩
          refine ors_step (by kernel_rfl) (fun K hK => ?_)
          go_wp2_with fail
          refine ⟨HZZ.out, ?_⟩
          try simp only [Act.put, List.setIfInBounds_toArray, List.set_cons_zero, List.set_cons_succ]
          refine ors_pure (v := ?_) (by kernel_rfl) ?_ ?_
          rotate_left
          · intro w' hv; clear hv; go_simp; try with_reducible rfl
          try simp only [Act.put, List.setIfInBounds_toArray, List.set_cons_zero, List.set_cons_succ]
          refine ors_nil ?_
          go_wp2_with fail
          have cz : (w6.setCell ⟨w.heap.size + 1, 0, none⟩ (.slice (some ⟨g5, 0, none⟩) (C.length + 1) cap5)).cell? ⟨w.heap.size + 1, 0, none⟩ = some (.slice (some ⟨g5, 0, none⟩) (C.length + 1) cap5) := World.cell?_setCell_same' _ _ _ (by rw [cy]; rfl)
          refine bodyPost_ret (by simp [results, Tryd.results10, go_sem, cz]; try rfl) rfl ?_
          exact ⟨⟨_, rfl, .inr ((HO6.out.set (p := ⟨w.heap.size + 1, 0, none⟩) HYL.out _).less hle2), fun y hy => by
            rcases HPM.out y hy with rfl | hy
            · exact .inr (World.ownsRow_nil _ _ _ _)
            · exact .inl hy⟩, hbz⟩
        | false =>
          have hv : V = (C, 9) := by rw [← HV.out]; simp
          subst hv
          refine ors_step (by kernel_rfl) (fun K hK => ?_)
          go_wp2_with fail
          refine HWIX.out.mono ?_
          rintro e w6 ⟨rfl, hb6⟩
          have HS6 : Hid (Below w.heap.size w w6 ∧ Has w6 w.heap.size 25 [.slice q C.length c]) := Lib.hid ⟨HS5.out.1.trans (hb6.mono HS5.out.1.size), HS5.out.2.keep hb6 HS5.out.2.lt⟩
          have HY6 := Lib.hid (HY5.out.keep hb6 HY5.out.lt)
          have HO6 := Lib.hid (HOW.out.keep hb6)
          refine hK _ _ ⟨HS6.out, ?_⟩
          simp only [Bool.false_eq_true, if_false]
          clear hK hb6 HWIX HOW HS5 HY5
          try simp only [Act.put, List.setIfInBounds_toArray, List.set_cons_zero, List.set_cons_succ]
          refine ors_pure (v := ?_) (by kernel_rfl) ?_ ?_
          rotate_left
          · intro w' hv; clear hv; go_simp; try with_reducible rfl
          try simp only [Act.put, List.setIfInBounds_toArray, List.set_cons_zero, List.set_cons_succ]
          refine ors_pure (v := ?_) (by kernel_rfl) ?_ ?_
          rotate_left
          · intro w' hv; clear hv; go_simp; try with_reducible rfl
          try simp only [Act.put, List.setIfInBounds_toArray, List.set_cons_zero, List.set_cons_succ]
          have cy := HY6.out.cellv (i := 0) (v := .slice none 0 0) rfl
          have fy := HY6.out.free 0
          have hbz := HS6.out.1.setCell (p := ⟨w.heap.size + 1, 0, none⟩) hle (.slice q C.length c)
          have HZZ : Hid (Below w.heap.size w (w6.setCell ⟨w.heap.size + 1, 0, none⟩ (.slice q C.length c)) ∧ Has (w6.setCell ⟨w.heap.size + 1, 0, none⟩ (.slice q C.length c)) w.heap.size 25 [.slice q C.length c]) := Lib.hid ⟨hbz, HS6.out.2.off (by show w.heap.size ≠ w.heap.size + 1; omega) _⟩
          refine ors_step (by kernel_rfl) (fun K hK => ?_)
          go_wp2_with fail
          refine ⟨HZZ.out, ?_⟩
          try simp only [Act.put, List.setIfInBounds_toArray, List.set_cons_zero, List.set_cons_succ]
          refine ors_pure (v := ?_) (by kernel_rfl) ?_ ?_
          rotate_left
          · intro w' hv; clear hv; go_simp; try with_reducible rfl
          try simp only [Act.put, List.setIfInBounds_toArray, List.set_cons_zero, List.set_cons_succ]
          refine ors_nil ?_
          go_wp2_with fail
          have cz : (w6.setCell ⟨w.heap.size + 1, 0, none⟩ (.slice q C.length c)).cell? ⟨w.heap.size + 1, 0, none⟩ = some (.slice q C.length c) := World.cell?_setCell_same' _ _ _ (by rw [cy]; rfl)
          refine bodyPost_ret (by simp [results, Tryd.results10, go_sem, cz]; try rfl) rfl ?_
          exact ⟨⟨.slice q C.length c, rfl, ResT.old _ _ _ _⟩, hbz⟩
    · have kA : (RM = 0) = False := eq_false hr
      have kAb : (RM == 0) = false := by simpa using hr
      have kAn : (RM != 0) = true := by simpa using hr
      have cx := HX.out.cellv (i := 0) (v := .slice q C.length c) rfl
      have cy := HY.out.cellv (i := 0) (v := .slice none 0 0) rfl
      have fy := HY.out.free 0
      have hv : V = (C, RM) := by rw [← HV.out]; simp [hr]
      subst hv
      go_wp2_with fail
      have cz : (w3.setCell ⟨w.heap.size + 1, 0, none⟩ (.slice q C.length c)).cell? ⟨w.heap.size + 1, 0, none⟩ = some (.slice q C.length c) := World.cell?_setCell_same' _ _ _ (by rw [cy]; rfl)
      refine bodyPost_ret (by simp [results, Tryd.results10, go_sem, cz]; try rfl) rfl ?_
      have hbz := HB.out.setCell (p := ⟨w.heap.size + 1, 0, none⟩) hle (.slice q C.length c)
      exact ⟨⟨.slice q C.length c, rfl, ResT.old _ _ _ _⟩, hbz⟩
  · have kA : (AK = 0) = False := eq_false hA
    have kAb : (AK == 0) = false := by simpa using hA
    have kAn : (AK != 0) = true := by simpa using hA
    have cx := HX.out.cellv (i := 0) (v := .slice q C.length c) rfl
    have cy := HY.out.cellv (i := 0) (v := .slice none 0 0) rfl
    have fy := HY.out.free 0
    have hv : V = (C, AK) := by rw [← HV.out, if_pos hA]
    subst hv
    go_wp2_with fail
    have cz : (w1.setCell ⟨w.heap.size + 1, 0, none⟩ (.slice q C.length c)).cell? ⟨w.heap.size + 1, 0, none⟩ = some (.slice q C.length c) := World.cell?_setCell_same' _ _ _ (by rw [cy]; rfl)
    refine bodyPost_ret (by simp [results, Tryd.results10, go_sem, cz]; try rfl) rfl ?_
    have hbz := HB.out.setCell (p := ⟨w.heap.size + 1, 0, none⟩) hle (.slice q C.length c)
    exact ⟨⟨.slice q C.length c, rfl, ResT.old _ _ _ _⟩, hbz⟩
end Go.Proofs.YtefamkckoikeoaaDoor
/- Contract: package tree's Put. Conditions: at most 900 entries, all bytes together at most 2^61, paths shorter than 2^61 bytes. -/
namespace Go.Proofs.YtefamkckoikeoaaDoor
open Go.RowKit
def puttP (C : List Ent) (p : ByteArray) (b : List (BitVec 8)) (v : Value) : List Ent × Int := if askT C [p] ≠ 0 then (C, askT C [p]) else putP C p b v
set_option maxHeartbeats 16000000 in
set_option maxRecDepth 100000 in
theorem tput_any (C : List Ent) (q : Option Addr) (c : Nat) (p : ByteArray) (b : List (BitVec 8)) (qb : Option Addr) (cb : Nat) (hm : C.length ≤ 900) (hcap : C.length ≤ c) (hq : q = none → c = 0) (hb : bytesT C ≤ 2305843009213693952) (hn : ∀ e ∈ C, e.1.size < 9223372036854775808) (hp : p.size < 2305843009213693952) (hqb : qb = none → cb = 0) (hbl : b.length ≤ 9223372036854775807)
    (w : World) (hs : Sees w w.heap.size q (rowC C)) (hE : Ents w C) (hsb : Sees w w.heap.size qb (b.map u8v)) :
    Calls Tryd.prog 11 #[.agg #[.slice q C.length c], .string p, .slice qb b.length cb] w fun e w' => (∃ v v5, e = .returned (.tuple #[.agg #[v], .int .i64 (puttP C p b v5).2]) ∧ ResT w' w.heap.size (.slice q C.length c) C v (puttP C p b v5).1) ∧ Below w.heap.size w w' := by
  have HAK : Hid (∀ w1 (_ : Below w.heap.size w w1) q2 (_ : Sees w1 w1.heap.size q2 ([p].map Value.string)), Calls Tryd.prog 41 #[.agg #[.slice q C.length c], .slice q2 1 1] w1 fun e w' => e = .returned (.int .i64 (askT C [p])) ∧ Below w1.heap.size w1 w') :=
    Lib.hid (fun w1 h q2 h2 => tasked_any C q c [p] q2 1 (by omega) hcap (by omega) hn (by simp) (by simp; omega) w1 ((hs.keep h).more h.size) (hE.keep h) h2)
  have HPU := Lib.hid (fun (hA : AscE C) w1 (h : Below w.heap.size w w1) => tput0_any C q c p b qb cb hm hcap hq hb hn hA hp hqb hbl w1 ((hs.keep h).more h.size) (hE.keep h) ((hsb.keep h).more h.size))
  have HTR : Hid (∀ w', Below w.heap.size w w' → TrV w' (.slice q C.length c) C ∧ Ents w' C) := Lib.hid (fun w' h => ⟨⟨q, c, rfl, hcap, hq, (hs.keep h).more h.size⟩, hE.keep h⟩)
  have HGD : Hid (askT C [p] = 0 → AscE C) := Lib.hid (fun h => goodP_asc (askT_good h).1)
  have HB : Hid (Below w.heap.size w ((w.alloc (.cells #[.slice q C.length c] 25)).alloc (.cells #[.slice none 0 0] 25))) := Lib.hid (((Below.refl _ _).alloc (Nat.le_refl _) _).alloc (by simp) _)
  have HX : Hid (Has ((w.alloc (.cells #[.slice q C.length c] 25)).alloc (.cells #[.slice none 0 0] 25)) w.heap.size 25 [.slice q C.length c]) := Lib.hid ((Has.made w _ _).alloc _)
  have HY : Hid (Has ((w.alloc (.cells #[.slice q C.length c] 25)).alloc (.cells #[.slice none 0 0] 25)) (w.heap.size + 1) 25 [.slice none 0 0]) := Lib.hid (Has.made1 w _ _ _ _ rfl)
  have HS1 : Hid (Sees (((w.alloc (.cells #[.slice q C.length c] 25)).alloc (.cells #[.slice none 0 0] 25)).alloc (.cells #[.string p] 9)) (((w.alloc (.cells #[.slice q C.length c] 25)).alloc (.cells #[.slice none 0 0] 25)).alloc (.cells #[.string p] 9)).heap.size (some ⟨w.heap.size + 1 + 1, 0, none⟩) ([p].map Value.string)) := Lib.hid (has_sees (by have h := Has.made1 (w.alloc (.cells #[.slice q C.length c] 25)) (.cells #[.slice none 0 0] 25) 9 #[.string p] _ rfl; simpa using h))
  have HV : Hid (∀ v, puttP C p b v = if askT C [p] ≠ 0 then (C, askT C [p]) else putP C p b v) := Lib.hid (fun _ => rfl)
  generalize puttP C p b = PV at *
  generalize askT C [p] = AK at *
  clear hs hE hn hq hsb
  go_enter Tryd.func11, Tryd.ntmps11
  go_wp2_with fail
  refine (HAK.out _ (HB.out.alloc HB.out.size _) _ HS1.out).mono ?_
  rintro e w1 ⟨rfl, hb1⟩
  replace HX := Lib.hid ((HX.out.alloc _).keep hb1 (HX.out.alloc _).lt)
  replace HY := Lib.hid ((HY.out.alloc _).keep hb1 (HY.out.alloc _).lt)
  replace HB := Lib.hid ((HB.out.alloc HB.out.size _).trans (hb1.mono (HB.out.alloc HB.out.size _).size))
  have hle : w.heap.size ≤ w.heap.size + 1 := by omega
  clear hb1 HS1 HAK
  by_cases hA : AK = 0
  · subst hA
    have HPU2 := Lib.hid (HPU.out (HGD.out rfl))
    have cx := HX.out.cellv (i := 0) (v := .slice q C.length c) rfl
    clear HGD HPU
    go_wp2_with fail
    refine (HPU2.out _ HB.out).mono ?_
    rintro e w2 ⟨⟨v2, v5, rfl, hR⟩, hb1⟩
    have hv : putP C p b v5 = PV v5 := by rw [HV.out]; simp
    rw [hv] at hR ⊢
    obtain ⟨x2, m2, c2, rfl⟩ := hR.slice
    generalize hpv : PV v5 = P5 at *
    obtain ⟨DD, ER⟩ := P5
    simp only [] at hR ⊢
    have hY2 := HY.out.keep hb1 HY.out.lt
    have HYB := Lib.hid HY.out.lt
    have HBS := Lib.hid HB.out.size
    replace HB := Lib.hid (HB.out.trans (hb1.mono HB.out.size))
    have cy := hY2.cellv (i := 0) (v := .slice none 0 0) rfl
    have fy := hY2.free 0
    have HR := Lib.hid hR
    have HPV := Lib.hid hpv
    clear hb1 hv cx hY2 hR hpv
    go_wp2_with fail
    have cz : (w2.setCell ⟨w.heap.size + 1, 0, none⟩ (.slice x2 m2 c2)).cell? ⟨w.heap.size + 1, 0, none⟩ = some (.slice x2 m2 c2) := World.cell?_setCell_same' _ _ _ (by rw [cy]; rfl)
    refine bodyPost_ret (by simp [results, Tryd.results11, go_sem, cz]; try rfl) rfl ?_
    have hbz := HB.out.setCell (p := ⟨w.heap.size + 1, 0, none⟩) hle (.slice x2 m2 c2)
    exact ⟨⟨.slice x2 m2 c2, v5, by rw [HPV.out], by rw [HPV.out]; exact (HR.out.set HYB.out _).less HBS.out⟩, hbz⟩
  · have kA : (AK = 0) = False := eq_false hA
    have kAb : (AK == 0) = false := by simpa using hA
    have kAn : (AK != 0) = true := by simpa using hA
    have cx := HX.out.cellv (i := 0) (v := .slice q C.length c) rfl
    have cy := HY.out.cellv (i := 0) (v := .slice none 0 0) rfl
    have fy := HY.out.free 0
    have hv : PV undef = (C, AK) := by rw [HV.out, if_pos hA]
    go_wp2_with fail
    have cz : (w1.setCell ⟨w.heap.size + 1, 0, none⟩ (.slice q C.length c)).cell? ⟨w.heap.size + 1, 0, none⟩ = some (.slice q C.length c) := World.cell?_setCell_same' _ _ _ (by rw [cy]; rfl)
    refine bodyPost_ret (by simp [results, Tryd.results11, go_sem, cz]; try rfl) rfl ?_
    have hbz := HB.out.setCell (p := ⟨w.heap.size + 1, 0, none⟩) hle (.slice q C.length c)
    exact ⟨⟨.slice q C.length c, undef, by rw [hv], by rw [hv]; exact ResT.old _ _ _ _⟩, hbz⟩
end Go.Proofs.YtefamkckoikeoaaDoor
/- Contract: the statements' own first look at package tree. No condition. -/
namespace Go.Proofs.YtefamkckoikeoaaDoor
open Go.RowKit
theorem freeze_new (w : World) (cs : Array Value) (e : TypeId) (n : Nat) : (w.alloc (.cells cs e)).freeze ⟨w.heap.size, n, none⟩ 1 = w.alloc (.cells cs e (n, n + 1)) := by
  have hm : ∀ (a : Array Obj) (x : Obj) (f : Obj → Obj), (a.push x).modify a.size f = a.push (f x) := by
    intro a x f
    apply Array.ext
    · simp
    · intro i h1 h2
      simp only [Array.getElem_modify, Array.getElem_push]
      by_cases h : a.size = i
      · subst h; simp
      · have hi : i < a.size := by simp at h1; omega
        simp [h, hi]
  unfold World.freeze
  rw [if_neg (by decide)]
  show ({ w.alloc (.cells cs e) with heap := (w.heap.push (.cells cs e)).modify w.heap.size _ } : World) = _
  rw [hm]
  rfl
/-- A byte slice's literal, converted to its own type: the block's end is marked. -/
theorem conv_new (w : World) (cs : Array Value) (n c : Nat) :
    (convert 30 30 (.slice (some ⟨w.heap.size, 0, none⟩) n c)).run Tryd.prog (w.alloc (.cells cs 5)) =
      .ok (.slice (some ⟨w.heap.size, 0, none⟩) n c) (w.alloc (.cells cs 5 (cs.size, cs.size + 1))) := by
  have hsh : (w.alloc (.cells cs 5)).shape? w.heap.size = some (5, cs.size) := by
    have : (w.alloc (.cells cs 5)).heap[w.heap.size]? = some (.cells cs 5) := heap_alloc_new _ _
    unfold World.shape?
    rw [this]
  have hfr := freeze_new w cs 5 cs.size
  simp [convert, run_underlying Tryd.underlying30, run_underlying Tryd.underlying5, markStringish, hsh, hfr]
theorem made_sees (w : World) (x : List (BitVec 8)) (cs : Array Value) (f : Nat × Nat) (hx : cs = (x.map u8v).toArray) :
    Sees (w.alloc (.cells cs 5 f)) (w.heap.size + 1) (some ⟨w.heap.size, 0, none⟩) (x.map u8v) := fun _ =>
  ⟨_, rfl, Nat.lt_succ_self _, fun j u hu => by
    rw [Addr.add_mid, Nat.zero_add]
    exact (cell_of_row _ w.heap.size j cs 5 f (heap_alloc_new w _)).trans (by rw [hx]; simpa using hu)⟩
def pA : ByteArray := ⟨#[97]⟩
def pAB : ByteArray := ⟨#[97, 47, 98]⟩
theorem awk1 : makeP [] pA = ([dirE pA], 0) := by kernel_rfl
theorem awk2 (v : Value) : puttP [dirE pA] pAB [120] v = ([dirE pA, fileE pAB v [120]], 0) := by kernel_rfl
theorem awk3 (v : Value) : goodP [dirE pA, fileE pAB v [120]] = true := by kernel_rfl
theorem ResT.new {w : World} {base : Nat} {old v : Value} {C D : List Ent} (h : ResT w base old C v D) (hne : D ≠ C) : OwnT w base v D := by
  rcases h.1 with ⟨_, h⟩ | h
  · exact absurd h hne
  · exact h
set_option maxHeartbeats 8000000 in
set_option maxRecDepth 100000 in
theorem awake8_any (w : World) : Calls Tryd.prog 9 #[] w fun e w' => e = .returned (.bool true) ∧ Below w.heap.size w w' := by
  have H1 := Lib.hid (tmake_any [] none 0 pA (by simp) (by simp) (fun _ => rfl) (by simp [bytesT]) (fun _ h => by cases h) (by decide) w (Sees.nil _ _ _) (fun _ h => by cases h))
  rw [awk1] at H1
  go_enter Tryd.func9, Tryd.ntmps9
  go_wp2_with fail
  refine H1.out.mono ?_
  rintro e w1 ⟨⟨v1, rfl, hR1⟩, hb1⟩
  have hO1 := hR1.new (by simp)
  obtain ⟨q1, c1, rfl, hc1, hq1, hs1⟩ := hO1.tr
  have HB := Lib.hid hb1
  have HO1 := Lib.hid hO1
  have HC1 := Lib.hid hc1
  have HQ1 := Lib.hid hq1
  clear hb1 hR1 hO1 hc1 hq1 hs1 H1
  obtain ⟨w2, hA⟩ : ∃ w2, w2 = (w1.alloc (.cells #[.slice q1 1 c1] 25)).alloc (.cells #[.int .u8 120] 5 (1, 2)) := ⟨_, rfl⟩
  have hcv := conv_new (w1.alloc (.cells #[.slice q1 1 c1] 25)) #[.int .u8 120] 1 1
  rw [show (#[Value.int .u8 120] : Array Value).size = 1 from rfl, ← hA] at hcv
  simp only [World.size_alloc] at hcv
  have hB2 : Below w1.heap.size w1 w2 := by rw [hA]; exact ((Below.refl _ _).alloc (Nat.le_refl _) _).alloc (by simp) _
  have hX2 : Has w2 w1.heap.size 25 [.slice q1 1 c1] := by rw [hA]; exact (Has.made w1 _ _).alloc _
  have hS2 : Sees w2 w2.heap.size (some ⟨w1.heap.size + 1, 0, none⟩) ([120#8].map u8v) := by
    have h := (made_sees (w1.alloc (.cells #[.slice q1 1 c1] 25)) [120#8] #[.int .u8 120] (1, 2) rfl)
    rw [hA]
    simp only [World.size_alloc] at h ⊢
    exact h
  have H2 := Lib.hid (tput_any [dirE pA] q1 c1 pAB [120] (some ⟨w1.heap.size + 1, 0, none⟩) 1 (by simp) HC1.out HQ1.out (by simp [bytesT, dirE, Ent.by]) (fun e he => by rw [List.mem_singleton.1 he]; decide) (by decide) (fun h => by cases h) (by simp) w2
    (by obtain ⟨_, _, e, _, _, hs⟩ := (HO1.out.keep hB2).tr; cases e; exact hs) (fun e he => by rw [List.mem_singleton.1 he]; exact Bs.nil _) hS2)
  simp only [awk2] at H2
  have cx := hX2.cellv (i := 0) (v := .slice q1 1 c1) rfl
  have hcx : ((w1.alloc (.cells #[.slice q1 1 c1] 25))).cell? ⟨w1.heap.size, 0, none⟩ = some (.slice q1 1 c1) := (Has.made w1 _ _).cellv rfl
  have HB1 := HB
  replace HB := Lib.hid (HB.out.trans (hB2.mono HB.out.size))
  have HX2 := Lib.hid hX2
  have HBS := Lib.hid HB1.out.size
  clear hA hS2 hB2 hX2
  go_wp2_with fail
  refine H2.out.mono ?_
  rintro e w3 ⟨⟨v3, v5, rfl, hR3⟩, hb3⟩
  have hO3 := hR3.new (by simp)
  have hE3 : Bs w3 v5 [120] := (by
    rcases hR3.2 (fileE pAB v5 [120]) (by simp) with h | h
    · exact absurd (List.mem_singleton.1 h) (by intro h; cases h)
    · exact h.bs)
  obtain ⟨qb, cb, hv5, hcb, hqb, hsb⟩ := hE3
  have hv5' : v5 = .slice qb 1 cb := hv5
  subst hv5'
  have hX3 := HX2.out.keep hb3 HX2.out.lt
  have cy := hX3.cellv (i := 0) (v := .slice q1 1 c1) rfl
  have fy := hX3.free 0
  have hlt := HX2.out.lt
  rcases hO3.has with ⟨_, h0⟩ | ⟨g, cap, l, rfl, hgb, hG, hcap, hcm, hl⟩
  · cases h0
  have hw4 := hO3.set (p := ⟨w1.heap.size, 0, none⟩) hlt (.slice (some ⟨g, 0, none⟩) 2 cap)
  have hG4 : Has (w3.setCell ⟨w1.heap.size, 0, none⟩ (.slice (some ⟨g, 0, none⟩) 2 cap)) g 32 (rowC [dirE pA, fileE pAB (.slice qb 1 cb) [120]] ++ l) := hG.off (by show g ≠ w1.heap.size; omega) _
  have hB4 : Below w.heap.size w (w3.setCell ⟨w1.heap.size, 0, none⟩ (.slice (some ⟨g, 0, none⟩) 2 cap)) := (HB.out.trans (hb3.mono HB.out.size)).setCell (p := ⟨w1.heap.size, 0, none⟩) (by show w.heap.size ≤ w1.heap.size; exact HBS.out) _
  have cz : (w3.setCell ⟨w1.heap.size, 0, none⟩ (.slice (some ⟨g, 0, none⟩) 2 cap)).cell? ⟨w1.heap.size, 0, none⟩ = some (.slice (some ⟨g, 0, none⟩) 2 cap) := World.cell?_setCell_same' _ _ _ (by rw [cy]; rfl)
  have hcell1 := hG4.cellv (i := 1) (v := .bool true) rfl
  have hcell5 := hG4.cellv (i := 5) (v := .slice qb 1 cb) rfl
  have hOB : OwnB (w3.setCell ⟨w1.heap.size, 0, none⟩ (.slice (some ⟨g, 0, none⟩) 2 cap)) w2.heap.size (fileE pAB (.slice qb 1 cb) [120]) := by
    rcases hR3.2 (fileE pAB (.slice qb 1 cb) [120]) (by simp) with h | h
    · exact absurd (List.mem_singleton.1 h) (by intro h; cases h)
    · exact h.set hlt _
  have hsb4 : Sees (w3.setCell ⟨w1.heap.size, 0, none⟩ (.slice (some ⟨g, 0, none⟩) 2 cap)) (w3.setCell ⟨w1.heap.size, 0, none⟩ (.slice (some ⟨g, 0, none⟩) 2 cap)).heap.size qb ([120#8].map u8v) := by
    obtain ⟨q', c', e, _, _, h⟩ := hOB.bs
    cases e
    exact h
  have HG := Lib.hid (tgood_any [dirE pA, fileE pAB (.slice qb 1 cb) [120]] (some ⟨g, 0, none⟩) cap (by simp) hcap (by simp [bytesT, dirE, fileE, Ent.by]) (fun e he => by
      rcases List.mem_cons.1 he with rfl | he
      · decide
      · rw [List.mem_singleton.1 he]; show pAB.size < 9223372036854775808; decide) _ (has_seesE hG4) (fun e he => by
      rcases List.mem_cons.1 he with rfl | he
      · exact Bs.nil _
      · rw [List.mem_singleton.1 he]; exact hOB.bs))
  rw [awk3] at HG
  have hstr : (convert 30 9 (.slice qb 1 cb)).run Tryd.prog (w3.setCell ⟨w1.heap.size, 0, none⟩ (.slice (some ⟨g, 0, none⟩) 2 cap)) = .ok (.string ⟨#[120]⟩) (w3.setCell ⟨w1.heap.size, 0, none⟩ (.slice (some ⟨g, 0, none⟩) 2 cap)) := str_run [120] qb cb _ _ hsb4
  have HB4 := Lib.hid hB4
  clear hR3 hO3 hb3 hX3 hG hcap hcm hl hw4 hG4 hB4 hOB hsb4 hsb hv5 hcb hqb H2 hgb
  go_wp2_with fail
  refine HG.out.mono ?_
  rintro e w5 ⟨rfl, hb5⟩
  have HB5 := Lib.hid (HB4.out.trans (hb5.mono HB4.out.size))
  clear hb5 HG HB4 hstr hcell5 hcell1 cz cy fy
  go_wp2_with fail
  go_ret
  exact ⟨rfl, HB5.out⟩
end Go.Proofs.YtefamkckoikeoaaDoor
/- Contract: bytes.Equal. No condition. -/
namespace Go.Proofs.YtefamkckoikeoaaDoor
open Go.RowKit

theorem equal_any (x y : List (BitVec 8)) (q p : Option Addr) (c d : Nat) (w : World) (hx : Sees w w.heap.size q (x.map u8v)) (hy : Sees w w.heap.size p (y.map u8v)) :
    Calls Tryd.prog 79 #[.slice q x.length c, .slice p y.length d] w fun e w' => e = .returned (.bool (decide (x = y))) ∧ w = w' := by
  have h1 := str_run x q c _ w hx
  have h2 := str_run y p d _ w hy
  have h3 := strB_beq x y
  go_enter Tryd.func79, Tryd.ntmps79
  go_wp2_with fail
  go_ret
  exact ⟨rfl, rfl⟩
end Go.Proofs.YtefamkckoikeoaaDoor
/- Contracts: package tree's sameEntry, slices.EqualFunc with it, Same. Conditions: at most 10^5 entries, all bytes together at most 2^62, paths shorter than 2^63 bytes. -/
namespace Go.Proofs.YtefamkckoikeoaaDoor
open Go.RowKit
set_option maxHeartbeats 4000000 in
set_option maxRecDepth 100000 in
theorem tsame1_any (x y : ByteArray) (d d2 : Bool) (qb qb2 : Option Addr) (cb cb2 : Nat) (bb bb2 : List (BitVec 8)) (w : World) (h1 : Sees w w.heap.size qb (bb.map u8v)) (h2 : Sees w w.heap.size qb2 (bb2.map u8v)) :
    Calls Tryd.prog 52 #[.agg #[.string x, .bool d, .slice qb bb.length cb], .agg #[.string y, .bool d2, .slice qb2 bb2.length cb2]] w fun e w' => e = .returned (.bool (x.data.toList == y.data.toList && (d == d2 && decide (bb = bb2)))) ∧ Below w.heap.size w w' := by
  have HB : Hid (Below w.heap.size w ((w.alloc (.cells #[.string x, .bool d, .slice qb bb.length cb] 32)).alloc (.cells #[.string y, .bool d2, .slice qb2 bb2.length cb2] 32))) := Lib.hid (((Below.refl _ _).alloc (Nat.le_refl _) _).alloc (by simp) _)
  have HE := Lib.hid (fun w1 h1 h2 => equal_any bb bb2 qb qb2 cb cb2 w1 h1 h2)
  have H1 : Hid (∀ w', Below w.heap.size w w' → Sees w' w'.heap.size qb (bb.map u8v)) := Lib.hid (fun w' h => (h1.keep h).more h.size)
  have H2 : Hid (∀ w', Below w.heap.size w w' → Sees w' w'.heap.size qb2 (bb2.map u8v)) := Lib.hid (fun w' h => (h2.keep h).more h.size)
  have hlx : x.toList = x.data.toList := Lib.toList_data x
  have hly : y.toList = y.data.toList := Lib.toList_data y
  clear h1 h2
  generalize decide (bb = bb2) = EB at *
  cases hxy : (x.data.toList == y.data.toList) with
  | false =>
    go_enter Tryd.func52, Tryd.ntmps52
    go_wp2_with fail
    go_ret
    exact ⟨rfl, HB.out⟩
  | true =>
    by_cases hd : d = d2
    · subst hd
      have kd : (d == d) = true := by cases d <;> rfl
      rw [kd]
      go_enter Tryd.func52, Tryd.ntmps52
      go_wp2_with (first | ((with_reducible refine (HE.out _ (H1.out _ HB.out) (H2.out _ HB.out)).mono ?_); rintro e w1 ⟨rfl, rfl⟩))
      go_ret
      exact ⟨rfl, HB.out⟩
    · have kd : (d == d2) = false := by simpa using hd
      rw [kd]
      go_enter Tryd.func52, Tryd.ntmps52
      go_wp2_with fail
      go_ret
      exact ⟨rfl, HB.out⟩
/-- Two entries alike; two lists of them. -/
def eqE (a b : Ent) : Bool := a.pa == b.pa && (a.dir == b.dir && decide (a.by = b.by))
def likeT : List Ent → List Ent → Bool
  | [], [] => true
  | a :: A, b :: B => eqE a b && likeT A B
  | _, _ => false
theorem likeT_len : ∀ {A B : List Ent}, A.length ≠ B.length → likeT A B = false
  | [], [], h => absurd rfl h
  | a :: A, b :: B, h => by rw [likeT, likeT_len (A := A) (B := B) (by simpa using h), Bool.and_false]
  | [], _ :: _, _ => rfl
  | _ :: _, [], _ => rfl
set_option maxHeartbeats 8000000 in
set_option maxRecDepth 100000 in
theorem tequalF_any (C D : List Ent) (q p : Option Addr) (c d : Nat) (hm : C.length ≤ 100000) (w : World) (hs : Sees w w.heap.size q (rowC C)) (ht : Sees w w.heap.size p (rowC D)) (hE : Ents w C) (hF : Ents w D) :
    Calls Tryd.prog 51 #[.slice q C.length c, .slice p D.length d, .func (.func 52) #[] #[]] w fun e w' => e = .returned (.bool (likeT C D)) ∧ Below w.heap.size w w' := by
  have HS := Lib.hid hs
  have HT := Lib.hid ht
  have HE := Lib.hid hE
  have HF := Lib.hid hF
  obtain ⟨V, hV⟩ : ∃ V, likeT C D = V := ⟨_, rfl⟩
  rw [hV]
  clear hs ht hE hF
  by_cases hl : C.length = D.length
  · have HV := Lib.hid hV
    rw [← hl]
    have HL := Lib.hid hl
    clear hV hl
    go_enter Tryd.func51, Tryd.ntmps51
    go_wp2_with fail
    go_loopw [7, 8, 9, 17] (fun _ _ _ vi wr => ∃ i : Nat, i ≤ C.length ∧ vi = .int .i64 i ∧ likeT (C.drop i) (D.drop i) = V ∧ Below w.heap.size w wr) (fun _ _ _ vi _ => C.length - (intOf vi).toNat)
    case atStart => exact ⟨0, by omega, rfl, HV.out, Below.refl _ _⟩
    case round =>
      rename_i wr
      obtain ⟨i, hi, rfl, hv, hB⟩ := hrel
      have HB := Lib.hid hB
      clear HV hB
      by_cases hlt : i < C.length
      · have hlt2 : i < D.length := by have := HL.out; omega
        obtain ⟨a, rfl, ha, hc⟩ := HS.out.ent hlt
        obtain ⟨a2, rfl, ha2, hc2⟩ := HT.out.ent hlt2
        obtain ⟨c1, c2, c3⟩ := hc wr HB.out
        have hc2' := fun o => hc2 (wr.alloc o) (HB.out.alloc HB.out.size o)
        obtain ⟨qb, cb, hv1, _, _, hb1⟩ := HE.out C[i] (List.getElem_mem hlt)
        obtain ⟨qb2, cb2, hv2, _, _, hb2⟩ := HF.out D[i] (List.getElem_mem hlt2)
        have kk : (i : Int) < (C.length : Int) := by omega
        rw [List.drop_eq_getElem_cons hlt, List.drop_eq_getElem_cons hlt2, likeT] at hv
        have H1 : Hid (∀ w', Below w.heap.size w w' → Sees w' w'.heap.size qb (C[i].by.map u8v)) := Lib.hid (fun w' h => (hb1.keep h).more h.size)
        have H2 : Hid (∀ w', Below w.heap.size w w' → Sees w' w'.heap.size qb2 (D[i].by.map u8v)) := Lib.hid (fun w' h => (hb2.keep h).more h.size)
        obtain ⟨e, he⟩ : ∃ e, C[i] = e := ⟨_, rfl⟩
        obtain ⟨e2, he2⟩ : ∃ e2, D[i] = e2 := ⟨_, rfl⟩
        rw [he] at c1 c2 c3 hv1 hv H1
        rw [he2] at hv2 hv H2
        simp only [he2] at hc2'
        obtain ⟨x, dd, bv, bb⟩ := e
        obtain ⟨y, dd2, bv2, bb2⟩ := e2
        have hv1' : bv = .slice qb (List.length bb) cb := hv1
        have hv2' : bv2 = .slice qb2 (List.length bb2) cb2 := hv2
        subst hv1'
        subst hv2'
        have o1 := fun o => (hc2' o).1
        have o2 := fun o => (hc2' o).2.1
        have o3 := fun o => (hc2' o).2.2
        simp only [] at c1 c2 c3 o1 o2 o3
        have HC := Lib.hid (fun w1 h1 h2 => tsame1_any x y dd dd2 qb qb2 cb cb2 bb bb2 w1 h1 h2)
        have hee : eqE (x, dd, Value.slice qb bb.length cb, bb) (y, dd2, Value.slice qb2 bb2.length cb2, bb2) = (x.data.toList == y.data.toList && (dd == dd2 && decide (bb = bb2))) := rfl
        rw [hee] at hv
        have HV := Lib.hid hv
        have H1' : Hid (∀ w', Below w.heap.size w w' → Sees w' w'.heap.size qb (bb.map u8v)) := H1
        have H2' : Hid (∀ w', Below w.heap.size w w' → Sees w' w'.heap.size qb2 (bb2.map u8v)) := H2
        clear hc hc2 hc2' ha ha2 he he2 hv1 hv2 hb1 hb2 hee hv H1 H2
        generalize (x.data.toList == y.data.toList && (dd == dd2 && decide (bb = bb2))) = EB at *
        have HB2 : Hid (Below w.heap.size w ((wr.alloc (.cells #[.string x, .bool dd, .slice qb bb.length cb] 32)).alloc (.cells #[.string y, .bool dd2, .slice qb2 bb2.length cb2] 32))) := Lib.hid ((HB.out.alloc HB.out.size _).alloc (by have := HB.out.size; simp; omega) _)
        cases EB with
        | true =>
          have HV2 : Hid (likeT (C.drop (i + 1)) (D.drop (i + 1)) = V) := HV
          go_wp2_with fail
          refine (HC.out _ (H1'.out _ HB2.out) (H2'.out _ HB2.out)).mono ?_
          rintro e w2 ⟨rfl, hb2⟩
          replace HB := Lib.hid (HB2.out.trans (hb2.mono HB2.out.size))
          clear hb2 c1 c2 c3 o1 o2 o3
          go_wp2_with fail
          go_roundw
          case rel => exact ⟨i + 1, by omega, by go_num, HV2.out, HB.out⟩
          case measure => simp [intOf]; omega
        | false =>
          have hv : V = false := HV.out.symm
          subst hv
          go_wp2_with fail
          refine (HC.out _ (H1'.out _ HB2.out) (H2'.out _ HB2.out)).mono ?_
          rintro e w2 ⟨rfl, hb2⟩
          replace HB := Lib.hid (HB2.out.trans (hb2.mono HB2.out.size))
          clear hb2 c1 c2 c3 o1 o2 o3
          go_wp2_with fail
          go_ret
          exact ⟨rfl, HB.out⟩
      · have hil : i = C.length := by omega
        subst hil
        have k0 : ¬ (C.length : Int) < (C.length : Int) := by omega
        have hv' : V = true := by rw [← hv, List.drop_length, HL.out, List.drop_length]; rfl
        subst hv'
        clear hlt hv
        go_wp2_with fail
        go_ret
        exact ⟨rfl, HB.out⟩
  · have hv : V = false := by rw [← hV, likeT_len hl]
    subst hv
    have kl : ((C.length : Int) = (D.length : Int)) = False := eq_false (by omega)
    have klb : ((C.length : Int) == (D.length : Int)) = false := by rw [beq_eq_false_iff_ne]; omega
    clear hV
    go_enter Tryd.func51, Tryd.ntmps51
    go_wp2_with fail
    go_ret
    exact ⟨rfl, Below.refl _ _⟩
def sameT (C D : List Ent) : Bool := goodP C && (goodP D && likeT C D)
set_option maxHeartbeats 8000000 in
set_option maxRecDepth 100000 in
theorem tsame_any (C D : List Ent) (q p : Option Addr) (c d : Nat) (hmC : C.length ≤ 100000) (hmD : D.length ≤ 100000) (hcC : C.length ≤ c) (hcD : D.length ≤ d) (hbC : bytesT C ≤ 4611686018427387904) (hbD : bytesT D ≤ 4611686018427387904) (hnC : ∀ e ∈ C, e.1.size < 9223372036854775808) (hnD : ∀ e ∈ D, e.1.size < 9223372036854775808)
    (w : World) (hs : Sees w w.heap.size q (rowC C)) (ht : Sees w w.heap.size p (rowC D)) (hE : Ents w C) (hF : Ents w D) :
    Calls Tryd.prog 15 #[.agg #[.slice q C.length c], .agg #[.slice p D.length d]] w fun e w' => e = .returned (.bool (sameT C D)) ∧ Below w.heap.size w w' := by
  have HGC := Lib.hid (fun w1 (h : Below w.heap.size w w1) => tgood_any C q c hmC hcC hbC hnC w1 ((hs.keep h).more h.size) (hE.keep h))
  have HGD := Lib.hid (fun w1 (h : Below w.heap.size w w1) => tgood_any D p d hmD hcD hbD hnD w1 ((ht.keep h).more h.size) (hF.keep h))
  have HEQ := Lib.hid (fun w1 (h : Below w.heap.size w w1) => tequalF_any C D q p c d hmC w1 ((hs.keep h).more h.size) ((ht.keep h).more h.size) (hE.keep h) (hF.keep h))
  have HB : Hid (Below w.heap.size w ((w.alloc (.cells #[.slice q C.length c] 25)).alloc (.cells #[.slice p D.length d] 25))) := Lib.hid (((Below.refl _ _).alloc (Nat.le_refl _) _).alloc (by simp) _)
  have HX : Hid (Has ((w.alloc (.cells #[.slice q C.length c] 25)).alloc (.cells #[.slice p D.length d] 25)) w.heap.size 25 [.slice q C.length c]) := Lib.hid ((Has.made w _ _).alloc _)
  have HY : Hid (Has ((w.alloc (.cells #[.slice q C.length c] 25)).alloc (.cells #[.slice p D.length d] 25)) (w.heap.size + 1) 25 [.slice p D.length d]) := Lib.hid (Has.made1 w _ _ _ _ rfl)
  unfold sameT
  clear hs ht hE hF
  generalize goodP C = GC at *
  generalize goodP D = GD at *
  generalize likeT C D = LK at *
  go_enter Tryd.func15, Tryd.ntmps15
  go_wp2_with fail
  refine (HGC.out _ HB.out).mono ?_
  rintro e w1 ⟨rfl, hb⟩
  replace HB := Lib.hid (HB.out.trans (hb.mono HB.out.size))
  replace HX := Lib.hid (HX.out.keep hb HX.out.lt)
  replace HY := Lib.hid (HY.out.keep hb HY.out.lt)
  clear hb
  cases GC with
  | false =>
    go_wp2_with fail
    go_ret
    exact ⟨rfl, HB.out⟩
  | true =>
    have cy := HY.out.cellv (i := 0) (v := .slice p D.length d) rfl
    go_wp2_with fail
    refine (HGD.out _ HB.out).mono ?_
    rintro e w2 ⟨rfl, hb⟩
    replace HB := Lib.hid (HB.out.trans (hb.mono HB.out.size))
    replace HX := Lib.hid (HX.out.keep hb HX.out.lt)
    replace HY := Lib.hid (HY.out.keep hb HY.out.lt)
    clear hb cy
    cases GD with
    | false =>
      go_wp2_with fail
      go_ret
      exact ⟨rfl, HB.out⟩
    | true =>
      have cy := HY.out.cellv (i := 0) (v := .slice p D.length d) rfl
      have cx := HX.out.cellv (i := 0) (v := .slice q C.length c) rfl
      go_wp2_with fail
      refine (HEQ.out _ HB.out).mono ?_
      rintro e w3 ⟨rfl, hb⟩
      replace HB := Lib.hid (HB.out.trans (hb.mono HB.out.size))
      clear hb cy cx
      go_wp2_with fail
      go_ret
      exact ⟨rfl, HB.out⟩
end Go.Proofs.YtefamkckoikeoaaDoor
/- Plain laws of trees that may be: what makes one; what is worked on taken away; kids counted. No condition. -/
namespace Go.Proofs.YtefamkckoikeoaaDoor
open Go.RowKit
theorem atT_app {A B : List Ent} {u : Tx} (h : ∀ e ∈ B, e.pa ≠ u) : atT (A ++ B) u = atT A u := by
  induction A with
  | nil => rw [List.nil_append, atT_no h]; rfl
  | cons x A ih => rw [List.cons_append, atT, atT, ih]
theorem dirT_app {A B : List Ent} {k : Nat} (h : k < A.length) : dirT (A ++ B) k = dirT A k := by
  unfold dirT; rw [List.getElem?_append_left h]
theorem roomT_app {A B : List Ent} {p : Tx} (h : ∀ e ∈ B, e.pa ≠ upV p) : roomT (A ++ B) p = roomT A p := by
  have hlt := atT_lt A (upV p)
  unfold roomT
  rw [atT_app h]
  by_cases h0 : upV p = []
  · rw [if_pos h0, if_pos h0]
  · rw [if_neg h0, if_neg h0]
    by_cases h1 : atT A (upV p) < 0
    · rw [if_pos h1, if_pos h1]
    · rw [if_neg h1, if_neg h1, dirT_app (by omega)]
theorem up_before {p : Tx} (h : okPath p = true) (hu : upV p ≠ []) : cmpL (upV p) p < 0 := by
  have e : upV p = upL p := by unfold upV; rw [if_pos h]
  rw [e] at hu ⊢
  rw [(up_within h hu).2.1]; decide
theorem okEnt_path {e : Ent} (h : okEnt e = true) : okPath e.pa = true := by
  unfold okEnt at h
  rw [Bool.and_eq_true, Bool.and_eq_true] at h
  exact h.2.1
theorem prev_of_asc {pre : List Ent} {x : Ent} {C : List Ent} (h : AscE (pre ++ x :: C)) : prevB pre.getLast? x.pa = true := by
  rcases List.eq_nil_or_concat pre with rfl | ⟨L, y, rfl⟩
  · rfl
  · rw [List.concat_eq_append, List.getLast?_concat]
    rw [List.concat_eq_append, List.append_assoc] at h
    have h1 := (List.pairwise_append.1 h).2.1
    exact decide_eq_true ((List.pairwise_cons.1 h1).1 x (List.mem_cons_self ..))
theorem room_prefix {pre : List Ent} {x : Ent} {C : List Ent} (h : AscE (pre ++ x :: C)) (hx : okPath x.pa = true) : roomT (pre ++ x :: C) x.pa = roomT pre x.pa := by
  by_cases h0 : upV x.pa = []
  · unfold roomT; rw [if_pos h0, if_pos h0]
  · refine roomT_app fun e he k => ?_
    have hb := up_before hx h0
    rw [← k] at hb
    rcases List.mem_cons.1 he with rfl | he
    · rw [cmpL_self] at hb; omega
    · have h1 := (List.pairwise_cons.1 (List.pairwise_append.1 h).2.1).1 e he
      have h2 := cmpL_lt_le hb (Int.le_of_lt h1)
      rw [cmpL_self] at h2; omega
theorem goodQ_iff : ∀ (C pre : List Ent), AscE pre → (goodQ pre C = true ↔ AscE (pre ++ C) ∧ (∀ e ∈ C, okEnt e = true) ∧ ∀ e ∈ C, roomT (pre ++ C) e.pa = 0)
  | [], pre, h => by
    rw [List.append_nil]
    exact ⟨fun _ => ⟨h, (fun _ hx => nomatch hx), (fun _ hx => nomatch hx)⟩, fun _ => rfl⟩
  | x :: C, pre, h => by
    have happ : pre ++ [x] ++ C = pre ++ x :: C := by rw [List.append_assoc]; rfl
    rw [goodQ, Bool.and_eq_true, Bool.and_eq_true, Bool.and_eq_true, decide_eq_true_eq]
    constructor
    · rintro ⟨h1, h2, h3, h4⟩
      have ih := (goodQ_iff C (pre ++ [x]) (h.snoc h2)).1 h4
      rw [happ] at ih
      refine ⟨ih.1, fun e he => ?_, fun e he => ?_⟩
      · rcases List.mem_cons.1 he with rfl | he
        · exact h1
        · exact ih.2.1 e he
      · rcases List.mem_cons.1 he with rfl | he
        · rw [room_prefix ih.1 (okEnt_path h1)]; exact h3
        · exact ih.2.2 e he
    · rintro ⟨h1, h2, h3⟩
      have hx := h2 x (List.mem_cons_self ..)
      have hp := prev_of_asc h1
      refine ⟨hx, hp, ?_, (goodQ_iff C (pre ++ [x]) (h.snoc hp)).2 ⟨by rw [happ]; exact h1, fun e he => h2 e (List.mem_cons_of_mem _ he), fun e he => by rw [happ]; exact h3 e (List.mem_cons_of_mem _ he)⟩⟩
      rw [← room_prefix h1 (okEnt_path hx)]
      exact h3 x (List.mem_cons_self ..)
/-- What makes a tree that may be. -/
theorem goodP_iff (C : List Ent) : goodP C = true ↔ fitsT C = true ∧ AscE C ∧ (∀ e ∈ C, okEnt e = true) ∧ ∀ e ∈ C, roomT C e.pa = 0 := by
  unfold goodP
  rw [Bool.and_eq_true, goodQ_iff C [] List.Pairwise.nil, List.nil_append]
theorem atT_mem {C : List Ent} {u : Tx} (h : 0 ≤ atT C u) : ∃ e ∈ C, e.pa = u := by
  induction C with
  | nil => exact absurd (show (0 : Int) ≤ -1 from h) (by decide)
  | cons x C ih =>
    unfold atT at h
    split at h
    · exact ⟨x, List.mem_cons_self .., by assumption⟩
    · split at h
      · exact absurd h (by decide)
      · obtain ⟨e, he, k⟩ := ih (by omega)
        exact ⟨e, List.mem_cons_of_mem _ he, k⟩
theorem atT_has {C : List Ent} {e : Ent} (he : e ∈ C) : 0 ≤ atT C e.pa := by
  rcases Int.lt_or_le (atT C e.pa) 0 with h | h
  · exfalso
    induction C with
    | nil => cases he
    | cons x C ih =>
      unfold atT at h
      split at h
      · omega
      · rcases List.mem_cons.1 he with rfl | he
        · contradiction
        · refine ih he ?_
          split at h
          · assumption
          · omega
  · exact h
theorem asc_one {C : List Ent} (h : AscE C) {a b : Ent} (ha : a ∈ C) (hb : b ∈ C) (k : a.pa = b.pa) : a = b := by
  obtain ⟨i, hi, rfl⟩ := List.getElem_of_mem ha
  obtain ⟨j, hj, rfl⟩ := List.getElem_of_mem hb
  rcases Nat.lt_trichotomy i j with h1 | h1 | h1
  · have := h.lt hi hj h1; rw [k, cmpL_self] at this; omega
  · subst h1; rfl
  · have := h.lt hj hi h1; rw [k, cmpL_self] at this; omega
/-- What something stands in, in order: a directory of that path is there. -/
theorem room_iff {C : List Ent} (h : AscE C) {p : Tx} (h0 : upV p ≠ []) : roomT C p = 0 ↔ ∃ e ∈ C, e.pa = upV p ∧ e.dir = true := by
  have key : ∀ e ∈ C, e.pa = upV p → dirT C (atT C (upV p)).toNat = e.dir := fun e he k => by
    have h1 := atT_has he
    rw [k] at h1
    have hl := atT_lt C (upV p)
    have hi : (atT C (upV p)).toNat < C.length := by omega
    rcases asc_at h (upV p) with ⟨h2, h3, h4⟩ | ⟨h2, h3⟩
    · unfold dirT
      rw [List.getElem?_eq_getElem hi]
      have hp : C[(atT C (upV p)).toNat].pa = upV p := by
        have e1 : (atT C (upV p)).toNat = posT C (upV p) := by omega
        simp only [e1]
        unfold hasT at h2
        rw [List.getElem?_eq_getElem h4] at h2
        exact cmpL_zero.1 (of_decide_eq_true h2)
      have := asc_one h (List.getElem_mem hi) he (hp.trans k.symm)
      rw [this]; rfl
    · omega
  unfold roomT
  rw [if_neg h0]
  constructor
  · intro hr
    split at hr
    · cases hr
    · rename_i hx
      obtain ⟨e, he, k⟩ := atT_mem (Int.not_lt.1 hx)
      refine ⟨e, he, k, ?_⟩
      rw [key e he k] at hr
      split at hr
      · assumption
      · cases hr
  · rintro ⟨e, he, k, hd⟩
    have h1 := atT_has he
    rw [k] at h1
    rw [if_neg (by omega), key e he k, hd, if_pos rfl]
theorem bytesT_filter (C : List Ent) (f : Ent → Bool) : bytesT (C.filter f) ≤ bytesT C := by
  induction C with
  | nil => exact Nat.le_refl _
  | cons x C ih =>
    rw [List.filter_cons]
    have h : ∀ D : List Ent, bytesT (x :: D) = x.by.length + bytesT D := fun D => by unfold bytesT; rw [List.map_cons, List.sum_cons]
    split
    · rw [h, h]; omega
    · rw [h]; omega
theorem fitsT_filter {C : List Ent} (f : Ent → Bool) (h : fitsT C = true) : fitsT (C.filter f) = true := by
  unfold fitsT at h ⊢
  rw [Bool.and_eq_true, decide_eq_true_eq, decide_eq_true_eq] at h ⊢
  have h1 := List.length_filter_le f C
  have h2 := bytesT_filter C f
  omega
theorem inside_up {p : Tx} (h : okPath p = true) (h0 : upV p ≠ []) (hi : insideL (upV p) = true) : insideL p = true := by
  have e : upV p = upL p := by unfold upV; rw [if_pos h]
  rw [e] at h0 hi
  have hw := (up_within h h0).1
  unfold insideL at hi ⊢
  rw [Bool.or_eq_true] at hi ⊢
  rcases hi with hi | hi
  · have := eq_of_beq hi
    rw [this] at hw
    exact .inr hw
  · exact .inr (under_trans hi hw)
/-- Without what is worked on it still may be. -/
theorem good_out {C : List Ent} (h : goodP C = true) : goodP (outT C) = true := by
  obtain ⟨h1, h2, h3, h4⟩ := (goodP_iff C).1 h
  have hA : AscE (outT C) := h2.sublist List.filter_sublist
  refine (goodP_iff _).2 ⟨fitsT_filter _ h1, hA, fun e he => h3 e ((List.mem_filter.1 he).1), fun e he => ?_⟩
  have hm := (List.mem_filter.1 he).1
  have hk := okEnt_path (h3 e hm)
  by_cases h0 : upV e.pa = []
  · unfold roomT; rw [if_pos h0]
  · rw [room_iff hA h0]
    obtain ⟨y, hy, k, hd⟩ := (room_iff h2 h0).1 (h4 e hm)
    refine ⟨y, List.mem_filter.2 ⟨hy, ?_⟩, k, hd⟩
    cases hi : insideL y.pa with
    | false => rfl
    | true =>
      rw [k] at hi
      have := inside_up hk h0 hi
      have h5 := (List.mem_filter.1 he).2
      rw [this] at h5
      cases h5
theorem out_out (C : List Ent) : outT (outT C) = outT C := by unfold outT; rw [List.filter_filter]; congr 1; funext e; simp
theorem likeT_self : ∀ C : List Ent, likeT C C = true
  | [] => rfl
  | e :: C => by rw [likeT, likeT_self C, Bool.and_true]; unfold eqE; simp
theorem same_clean {C : List Ent} (h : goodP C = true) : sameT (cleanP (cleanP C)) (cleanP C) = true := by
  have h1 : cleanP C = outT C := by unfold cleanP; rw [if_pos h]
  have h2 := good_out h
  have h3 : cleanP (outT C) = outT C := by unfold cleanP; rw [if_pos h2, out_out]
  rw [h1, h3]
  unfold sameT
  rw [h2, likeT_self]
  rfl
/-- Kids, counted up to a place. -/
def cntK (C : List Ent) (i : Nat) : Nat := (C.filter fun e => upV e.pa == [] || (C.take i).any fun y => y.pa == upV e.pa).length
theorem filter_two {α : Type} (f g : α → Bool) : ∀ (C : List α), (∀ e ∈ C, ¬ (f e = true ∧ g e = true)) → (C.filter fun e => f e || g e).length = (C.filter f).length + (C.filter g).length
  | [], _ => rfl
  | x :: C, h => by
    have ih := filter_two f g C fun e he => h e (List.mem_cons_of_mem _ he)
    have hx := h x (List.mem_cons_self ..)
    rw [List.filter_cons, List.filter_cons, List.filter_cons]
    cases hf : f x <;> cases hg : g x
    · simpa [hf, hg] using ih
    · simp [hf, hg] at hx ⊢; omega
    · simp [hf, hg] at hx ⊢; omega
    · exact absurd ⟨hf, hg⟩ hx
theorem cntK_zero (C : List Ent) : cntK C 0 = (inT C []).length := by
  unfold cntK inT
  rw [List.length_map]
  congr 1
  refine List.filter_congr fun e _ => ?_
  simp
theorem ne_nil_of_ok {p : Tx} (h : okPath p = true) : p ≠ [] := by rintro rfl; cases h
theorem cntK_add {C : List Ent} (h : goodP C = true) {i : Nat} (hi : i < C.length) : cntK C (i + 1) = cntK C i + (inT C C[i].pa).length := by
  obtain ⟨_, h2, h3, _⟩ := (goodP_iff C).1 h
  have hne := ne_nil_of_ok (okEnt_path (h3 C[i] (List.getElem_mem hi)))
  unfold cntK inT
  rw [List.length_map, ← filter_two]
  · congr 1
    refine List.filter_congr fun e _ => ?_
    rw [List.take_add_one, List.getElem?_eq_getElem hi, List.any_append]
    simp only [Option.toList_some, List.any_cons, List.any_nil, Bool.or_false, Bool.or_assoc]
    congr 2
    exact Bool.eq_iff_iff.2 ⟨fun k => by rw [eq_of_beq k]; simp, fun k => by rw [eq_of_beq k]; simp⟩
  · rintro e _ ⟨ha, hb⟩
    have hb' := eq_of_beq hb
    rw [Bool.or_eq_true] at ha
    rcases ha with ha | ha
    · exact hne (hb' ▸ eq_of_beq ha)
    · obtain ⟨y, hy, k⟩ := List.any_eq_true.1 ha
      have k' := eq_of_beq k
      rw [hb'] at k'
      obtain ⟨j, hj, rfl⟩ := List.getElem_of_mem hy
      have hj' : j < i := by rw [List.length_take] at hj; omega
      rw [List.getElem_take] at k'
      have := h2.lt (show j < C.length by omega) hi hj'
      rw [k', cmpL_self] at this
      omega
theorem cntK_all {C : List Ent} (h : goodP C = true) : cntK C C.length = C.length := by
  obtain ⟨_, h2, h3, h4⟩ := (goodP_iff C).1 h
  unfold cntK
  rw [List.take_length, List.filter_eq_self.2]
  intro e he
  by_cases h0 : upV e.pa = []
  · rw [h0]; rfl
  · obtain ⟨y, hy, k, _⟩ := (room_iff h2 h0).1 (h4 e he)
    rw [Bool.or_eq_true]
    exact .inr (List.any_eq_true.2 ⟨y, hy, by rw [k]; simp⟩)
theorem kid_dir {C : List Ent} (h : goodP C = true) {y : Ent} (hy : y ∈ C) (hd : y.dir = false) : inT C y.pa = [] := by
  obtain ⟨_, h2, h3, h4⟩ := (goodP_iff C).1 h
  unfold inT
  rw [List.map_eq_nil_iff, List.filter_eq_nil_iff]
  intro e he k
  have k' := eq_of_beq k
  have h0 : upV e.pa ≠ [] := by rw [k']; exact ne_nil_of_ok (okEnt_path (h3 y hy))
  obtain ⟨z, hz, k2, hd2⟩ := (room_iff h2 h0).1 (h4 e he)
  have := asc_one h2 hz hy (k2.trans k')
  rw [this, hd] at hd2
  cases hd2
end Go.Proofs.YtefamkckoikeoaaDoor
/- Contracts: package tree's without, Remove. Conditions: at most 900 entries, all bytes together at most 2^61, paths shorter than 2^61 bytes. -/
namespace Go.Proofs.YtefamkckoikeoaaDoor
open Go.RowKit Go.Sort
set_option maxHeartbeats 8000000 in
set_option maxRecDepth 100000 in
theorem twithout_any (C : List Ent) (q : Option Addr) (c : Nat) (i : Nat) (hi : i < C.length) (hm : C.length ≤ 900) (hq : q = none → c = 0) (w : World) (hs : Sees w w.heap.size q (rowC C)) (hE : Ents w C) :
    Calls Tryd.prog 50 #[.agg #[.slice q C.length c], .int .i64 (i : Int)] w fun e w' => (∃ v, e = .returned (.agg #[v]) ∧ OwnT w' w.heap.size v (C.take i ++ C.drop (i + 1))) ∧ Below w.heap.size w w' := by
  have HCL := Lib.hid (fun w1 (h : Below w.heap.size w w1) => tclone_any C q c (by omega) w1 hq ((hs.keep h).more h.size) (hE.keep h))
  have HDL := Lib.hid (fun v w1 base (hO : OwnT w1 base v C) => tdel_any C i v base hi (by omega) w1 hO (one_row hE))
  have HB : Hid (Below w.heap.size w ((w.alloc (.cells #[.slice q C.length c] 25)).alloc (.cells #[.slice none 0 0] 25))) := Lib.hid (((Below.refl _ _).alloc (Nat.le_refl _) _).alloc (by simp) _)
  have HY : Hid (Has ((w.alloc (.cells #[.slice q C.length c] 25)).alloc (.cells #[.slice none 0 0] 25)) (w.heap.size + 1) 25 [.slice none 0 0]) := Lib.hid (Has.made1 w _ _ _ _ rfl)
  have kw : IntKind.i64.wrap ((i : Int) + 1) = (i : Int) + 1 := by rw [IntWalk.i64_in _ (by omega)]
  have hle : w.heap.size ≤ w.heap.size + 1 := by omega
  clear hs hE hq
  go_enter Tryd.func50, Tryd.ntmps50
  go_wp2_with fail
  refine (HCL.out _ HB.out).mono ?_
  rintro e w2 ⟨⟨v2, rfl, hO2⟩, hb⟩
  have HO2 := Lib.hid hO2
  have HZ2 := Lib.hid (HB.out.size)
  have HYL := Lib.hid HY.out.lt
  replace HB := Lib.hid (HB.out.trans (hb.mono HB.out.size))
  replace HY := Lib.hid (HY.out.keep hb HY.out.lt)
  clear hb hO2
  go_wp2_with fail
  refine (HDL.out _ _ _ HO2.out).mono ?_
  rintro e w3 ⟨⟨v3, rfl, hO3⟩, hb⟩
  replace HY := Lib.hid (HY.out.keep hb HYL.out)
  replace HB := Lib.hid (HB.out.trans (hb.mono HZ2.out))
  obtain ⟨x5, m5, k5, rfl⟩ := own_slice' hO3
  have HO3 := Lib.hid hO3
  clear hb hO3 HO2
  have cy := HY.out.cellv (i := 0) (v := .slice none 0 0) rfl
  have fy := HY.out.free 0
  go_wp2_with fail
  have cz : (w3.setCell ⟨w.heap.size + 1, 0, none⟩ (.slice x5 m5 k5)).cell? ⟨w.heap.size + 1, 0, none⟩ = some (.slice x5 m5 k5) := World.cell?_setCell_same' _ _ _ (by rw [cy]; rfl)
  refine bodyPost_ret (by simp [results, Tryd.results50, go_sem, cz]; try rfl) rfl ?_
  exact ⟨⟨_, rfl, (HO3.out.set (p := ⟨w.heap.size + 1, 0, none⟩) HYL.out _).less HZ2.out⟩, HB.out.setCell (p := ⟨w.heap.size + 1, 0, none⟩) hle _⟩
def removeP (C : List Ent) (p : ByteArray) : List Ent × Int :=
  if (findP C p).2 ≠ 0 then (C, (findP C p).2) else if 0 < (kidsP C p.data.toList).length then (C, 8) else (C.take (findP C p).1 ++ C.drop ((findP C p).1 + 1), 0)
theorem findP_lt {C : List Ent} {p : ByteArray} (h : (findP C p).2 = 0) : (findP C p).1 < C.length := by
  unfold findP at h ⊢
  split at h
  · exact absurd h (by assumption)
  · rename_i h0
    rw [if_neg h0]
    split at h
    · rename_i h1
      rw [if_pos h1]
      exact hasT_lt h1
    · cases h
set_option maxHeartbeats 8000000 in
set_option maxRecDepth 100000 in
theorem tremove_any (C : List Ent) (q : Option Addr) (c : Nat) (p : ByteArray) (hm : C.length ≤ 900) (hcap : C.length ≤ c) (hq : q = none → c = 0) (hb : bytesT C ≤ 2305843009213693952) (hn : ∀ e ∈ C, e.1.size < 9223372036854775808) (hp : p.size < 2305843009213693952)
    (w : World) (hs : Sees w w.heap.size q (rowC C)) (hE : Ents w C) :
    Calls Tryd.prog 13 #[.agg #[.slice q C.length c], .string p] w fun e w' => (∃ v, e = .returned (.tuple #[.agg #[v], .int .i64 (removeP C p).2]) ∧ ResT w' w.heap.size (.slice q C.length c) C v (removeP C p).1) ∧ Below w.heap.size w w' := by
  have HFI := Lib.hid (fun w1 (h : Below w.heap.size w w1) => tfind_any C q c p (by omega) hcap (by omega) hn (by omega) w1 ((hs.keep h).more h.size) (hE.keep h))
  have HKI := Lib.hid (fun w1 (h : Below w.heap.size w w1) => tkids_any C q c p (by omega) hcap (by omega) hn w1 ((hs.keep h).more h.size) (hE.keep h))
  have HWO := Lib.hid (fun i (hi : i < C.length) w1 (h : Below w.heap.size w w1) => twithout_any C q c i hi hm hq w1 ((hs.keep h).more h.size) (hE.keep h))
  have HB : Hid (Below w.heap.size w ((w.alloc (.cells #[.slice q C.length c] 25)).alloc (.cells #[.slice none 0 0] 25))) := Lib.hid (((Below.refl _ _).alloc (Nat.le_refl _) _).alloc (by simp) _)
  have HX : Hid (Has ((w.alloc (.cells #[.slice q C.length c] 25)).alloc (.cells #[.slice none 0 0] 25)) w.heap.size 25 [.slice q C.length c]) := Lib.hid ((Has.made w _ _).alloc _)
  have HY : Hid (Has ((w.alloc (.cells #[.slice q C.length c] 25)).alloc (.cells #[.slice none 0 0] 25)) (w.heap.size + 1) 25 [.slice none 0 0]) := Lib.hid (Has.made1 w _ _ _ _ rfl)
  obtain ⟨V, hV⟩ : ∃ V, removeP C p = V := ⟨_, rfl⟩
  rw [hV]
  unfold removeP at hV
  have HV := Lib.hid hV
  have HFL : Hid ((findP C p).2 = 0 → (findP C p).1 < C.length) := Lib.hid findP_lt
  generalize findP C p = FP at *
  obtain ⟨FI, FE⟩ := FP
  simp only [] at HV HFL
  generalize kidsP C p.data.toList = KD at *
  have hle : w.heap.size ≤ w.heap.size + 1 := by omega
  clear hs hE hn hq hV
  go_enter Tryd.func13, Tryd.ntmps13
  have cx := HX.out.cellv (i := 0) (v := .slice q C.length c) rfl
  go_wp2_with fail
  refine (HFI.out _ HB.out).mono ?_
  rintro e w1 ⟨rfl, hb1⟩
  replace HB := Lib.hid (HB.out.trans (hb1.mono HB.out.size))
  replace HX := Lib.hid (HX.out.keep hb1 HX.out.lt)
  replace HY := Lib.hid (HY.out.keep hb1 HY.out.lt)
  clear hb1 cx
  by_cases hF : FE = 0
  · subst hF
    have hlt := HFL.out rfl
    have cx := HX.out.cellv (i := 0) (v := .slice q C.length c) rfl
    go_wp2_with fail
    refine (HKI.out _ HB.out).mono ?_
    rintro e w2 ⟨⟨v2, rfl, qk, ck, rfl, _, _⟩, hb1⟩
    replace HB := Lib.hid (HB.out.trans (hb1.mono HB.out.size))
    replace HX := Lib.hid (HX.out.keep hb1 HX.out.lt)
    replace HY := Lib.hid (HY.out.keep hb1 HY.out.lt)
    clear hb1 cx
    by_cases hK : 0 < KD.length
    · have kk : (0 : Int) < (KD.length : Int) := by omega
      have cx := HX.out.cellv (i := 0) (v := .slice q C.length c) rfl
      have cy := HY.out.cellv (i := 0) (v := .slice none 0 0) rfl
      have fy := HY.out.free 0
      have hv : V = (C, 8) := by rw [← HV.out]; simp [hK]
      subst hv
      go_wp2_with fail
      have cz : (w2.setCell ⟨w.heap.size + 1, 0, none⟩ (.slice q C.length c)).cell? ⟨w.heap.size + 1, 0, none⟩ = some (.slice q C.length c) := World.cell?_setCell_same' _ _ _ (by rw [cy]; rfl)
      refine bodyPost_ret (by simp [results, Tryd.results13, go_sem, cz]; try rfl) rfl ?_
      have hbz := HB.out.setCell (p := ⟨w.heap.size + 1, 0, none⟩) hle (.slice q C.length c)
      exact ⟨⟨.slice q C.length c, rfl, ResT.old _ _ _ _⟩, hbz⟩
    · have kk : ((0 : Int) < (KD.length : Int)) = False := eq_false (by omega)
      have hv : V = (C.take FI ++ C.drop (FI + 1), 0) := by rw [← HV.out]; simp [hK]
      subst hv
      have cx := HX.out.cellv (i := 0) (v := .slice q C.length c) rfl
      go_wp2_with fail
      refine (HWO.out FI hlt _ HB.out).mono ?_
      rintro e w3 ⟨⟨v3, rfl, hO3⟩, hb1⟩
      have HYL := Lib.hid HY.out.lt
      have HZ2 := Lib.hid HB.out.size
      replace HB := Lib.hid (HB.out.trans (hb1.mono HB.out.size))
      replace HX := Lib.hid (HX.out.keep hb1 HX.out.lt)
      replace HY := Lib.hid (HY.out.keep hb1 HY.out.lt)
      obtain ⟨x5, m5, k5, rfl⟩ := own_slice' hO3
      have HO3 := Lib.hid hO3
      clear hb1 hO3 cx
      have cy := HY.out.cellv (i := 0) (v := .slice none 0 0) rfl
      have fy := HY.out.free 0
      go_wp2_with fail
      have cz : (w3.setCell ⟨w.heap.size + 1, 0, none⟩ (.slice x5 m5 k5)).cell? ⟨w.heap.size + 1, 0, none⟩ = some (.slice x5 m5 k5) := World.cell?_setCell_same' _ _ _ (by rw [cy]; rfl)
      refine bodyPost_ret (by simp [results, Tryd.results13, go_sem, cz]; try rfl) rfl ?_
      exact ⟨⟨_, rfl, .inr ((HO3.out.set (p := ⟨w.heap.size + 1, 0, none⟩) HYL.out _).less HZ2.out), fun y hy => .inl (by
        rcases List.mem_append.1 hy with h | h
        · exact List.mem_of_mem_take h
        · exact List.mem_of_mem_drop h)⟩, HB.out.setCell (p := ⟨w.heap.size + 1, 0, none⟩) hle _⟩
  · have kA : (FE = 0) = False := eq_false hF
    have kAb : (FE == 0) = false := by simpa using hF
    have kAn : (FE != 0) = true := by simpa using hF
    have cx := HX.out.cellv (i := 0) (v := .slice q C.length c) rfl
    have cy := HY.out.cellv (i := 0) (v := .slice none 0 0) rfl
    have fy := HY.out.free 0
    have hv : V = (C, FE) := by rw [← HV.out, if_pos hF]
    subst hv
    go_wp2_with fail
    have cz : (w1.setCell ⟨w.heap.size + 1, 0, none⟩ (.slice q C.length c)).cell? ⟨w.heap.size + 1, 0, none⟩ = some (.slice q C.length c) := World.cell?_setCell_same' _ _ _ (by rw [cy]; rfl)
    refine bodyPost_ret (by simp [results, Tryd.results13, go_sem, cz]; try rfl) rfl ?_
    have hbz := HB.out.setCell (p := ⟨w.heap.size + 1, 0, none⟩) hle (.slice q C.length c)
    exact ⟨⟨.slice q C.length c, rfl, ResT.old _ _ _ _⟩, hbz⟩
end Go.Proofs.YtefamkckoikeoaaDoor
/- Plain laws: what is put in and taken out again leaves a tree as it was; a tree that may be stays one. No condition. -/
namespace Go.Proofs.YtefamkckoikeoaaDoor
open Go.RowKit
theorem tw_stop {α : Type} (f : α → Bool) : ∀ (C : List α) (h : (C.takeWhile f).length < C.length), f (C[(C.takeWhile f).length]'h) = false
  | [], h => absurd h (by simp)
  | x :: C, h => by
    cases hx : f x with
    | false =>
      have e : ((x :: C).takeWhile f).length = 0 := by rw [List.takeWhile_cons, hx]; rfl
      simp only [e, List.getElem_cons_zero]
      exact hx
    | true =>
      have e : ((x :: C).takeWhile f).length = (C.takeWhile f).length + 1 := by rw [List.takeWhile_cons, hx]; rfl
      have h' : (C.takeWhile f).length < C.length := by rw [e] at h; simpa using h
      simp only [e, List.getElem_cons_succ]
      exact tw_stop f C h'
theorem take_lt {C : List Ent} {p : Tx} : ∀ e ∈ C.take (posT C p), cmpL e.pa p < 0 := fun e he => by
  have h : C.take (posT C p) = C.takeWhile fun e => decide (cmpL e.pa p < 0) := by
    unfold posT
    exact (List.prefix_iff_eq_take.1 (List.takeWhile_prefix _)).symm
  rw [h] at he
  exact of_decide_eq_true (List.all_eq_true.1 (List.all_takeWhile) e he)
theorem at_ge {C : List Ent} (hA : AscE C) {p : Tx} {j : Nat} (hj : j < C.length) (hp : posT C p ≤ j) : 0 ≤ cmpL C[j].pa p := by
  rcases Int.lt_or_le (cmpL C[j].pa p) 0 with h | h
  · have hl : posT C p < C.length := by omega
    have h1 := hA.up p (posT C p) j hl hj hp h
    have h2 := tw_stop (fun e : Ent => decide (cmpL e.pa p < 0)) C hl
    have h3 := of_decide_eq_false h2
    exact absurd h1 h3
  · exact h
/-- What stands behind the place is behind the path. -/
theorem drop_gt {C : List Ent} (hA : AscE C) (p : Tx) : ∀ e ∈ C.drop (if hasT C p = true then posT C p + 1 else posT C p), 0 < cmpL e.pa p := fun e he => by
  cases hh : hasT C p with
  | true =>
    rw [hh, if_pos rfl] at he
    obtain ⟨i, hi, rfl⟩ := List.getElem_of_mem he
    rw [List.length_drop] at hi
    rw [List.getElem_drop]
    have hl : posT C p < C.length := by omega
    have hz : cmpL C[posT C p].pa p = 0 := by
      unfold hasT at hh
      rw [List.getElem?_eq_getElem hl] at hh
      exact of_decide_eq_true hh
    have h1 := hA.lt hl (show posT C p + 1 + i < C.length by omega) (by omega)
    rw [cmpL_zero.1 hz] at h1
    rw [cmpL_neg] at h1
    omega
  | false =>
    rw [hh, if_neg (by simp)] at he
    obtain ⟨i, hi, rfl⟩ := List.getElem_of_mem he
    rw [List.length_drop] at hi
    rw [List.getElem_drop]
    have hg := at_ge hA (p := p) (show posT C p + i < C.length by omega) (by omega)
    rcases Int.lt_or_le 0 (cmpL C[posT C p + i].pa p) with h | h
    · exact h
    · exfalso
      have h0 : cmpL C[posT C p + i].pa p = 0 := by omega
      have hl : posT C p < C.length := by omega
      have h1 := at_ge hA (p := p) hl (Nat.le_refl _)
      have hne : cmpL C[posT C p].pa p ≠ 0 := fun k => by
        unfold hasT at hh
        rw [List.getElem?_eq_getElem hl] at hh
        simp [k] at hh
      have hle : cmpL C[posT C p].pa C[posT C p + i].pa ≤ 0 := by
        rcases Nat.eq_zero_or_pos i with rfl | hi0
        · simp only [Nat.add_zero]; rw [cmpL_self]; omega
        · exact Int.le_of_lt (hA.lt hl (by omega) (by omega))
      rw [cmpL_zero.1 h0] at hle
      omega
theorem putL_asc {C : List Ent} (hA : AscE C) (E : Ent) : AscE (putL C E) := by
  unfold putL
  refine List.pairwise_append.2 ⟨hA.take _, List.pairwise_cons.2 ⟨fun e he => ?_, hA.sublist (List.drop_sublist _ _)⟩, fun a ha b hb => ?_⟩
  · have := drop_gt hA E.pa e he
    rw [cmpL_neg]; omega
  · have h1 := take_lt a ha
    rcases List.mem_cons.1 hb with rfl | hb
    · exact h1
    · have h2 := drop_gt hA E.pa b hb
      refine cmpL_lt_le h1 ?_
      rw [cmpL_neg]; omega
theorem putL_keeps {C : List Ent} {E y : Ent} (hy : y ∈ C) (hne : y.pa ≠ E.pa) : y ∈ putL C E := by
  unfold putL
  obtain ⟨i, hi, rfl⟩ := List.getElem_of_mem hy
  rcases Nat.lt_or_ge i (posT C E.pa) with h | h
  · exact List.mem_append_left _ (List.mem_take_iff_getElem.2 ⟨i, by omega, rfl⟩)
  · refine List.mem_append_right _ (List.mem_cons_of_mem _ ?_)
    cases hh : hasT C E.pa with
    | true =>
      have hne' : i ≠ posT C E.pa := fun k => by
        subst k
        unfold hasT at hh
        rw [List.getElem?_eq_getElem hi] at hh
        exact hne (cmpL_zero.1 (of_decide_eq_true hh))
      rw [if_pos rfl]
      exact List.mem_drop_iff_getElem.2 ⟨i - (posT C E.pa + 1), by omega, by congr 1; omega⟩
    | false =>
      rw [if_neg (by simp)]
      exact List.mem_drop_iff_getElem.2 ⟨i - posT C E.pa, by omega, by congr 1; omega⟩
theorem putL_has (C : List Ent) (E : Ent) : E ∈ putL C E := List.mem_append_right _ (List.mem_cons_self ..)
theorem up_ne {p : Tx} (h : okPath p = true) (h0 : upV p ≠ []) : upV p ≠ p := fun k => by
  have := up_before h h0
  rw [k, cmpL_self] at this
  omega
/-- Put in its place: a tree that may be stays one, if the entry may be, stands in a directory, and takes no directory's place unless it is one. -/
theorem putL_good {C : List Ent} (hg : goodP C = true) {E : Ent} (hE : okEnt E = true) (hr : roomT C E.pa = 0) (hk : ∀ y ∈ C, y.pa = E.pa → y.dir = true → E.dir = true) (hf : fitsT (putL C E) = true) : goodP (putL C E) = true := by
  obtain ⟨_, h2, h3, h4⟩ := (goodP_iff C).1 hg
  have hA := putL_asc h2 E
  have key : ∀ e : Ent, okPath e.pa = true → roomT C e.pa = 0 → roomT (putL C E) e.pa = 0 := fun e hp hr => by
    by_cases h0 : upV e.pa = []
    · unfold roomT; rw [if_pos h0]
    · obtain ⟨y, hy, k, hd⟩ := (room_iff h2 h0).1 hr
      rw [room_iff hA h0]
      by_cases hye : y.pa = E.pa
      · exact ⟨E, putL_has C E, by rw [← hye, k], hk y hy hye hd⟩
      · exact ⟨y, putL_keeps hy hye, k, hd⟩
  refine (goodP_iff _).2 ⟨hf, hA, fun e he => ?_, fun e he => ?_⟩
  · rcases putL_mem he with rfl | he
    · exact hE
    · exact h3 e he
  · rcases putL_mem he with rfl | he
    · exact key e (okEnt_path hE) hr
    · exact key e (okEnt_path (h3 e he)) (h4 e he)
theorem hasT_iff {C : List Ent} (hA : AscE C) {p : Tx} : hasT C p = true ↔ ∃ y ∈ C, y.pa = p := by
  rcases asc_at hA p with ⟨h1, h2, h3⟩ | ⟨h1, h2⟩
  · exact ⟨fun _ => atT_mem (by omega), fun _ => h1⟩
  · exact ⟨fun h => by rw [h1] at h; (cases h), fun ⟨y, hy, k⟩ => by have := atT_has hy; rw [k] at this; omega⟩
theorem has_at {C : List Ent} {p : Tx} (h : hasT C p = true) : ∃ hl : posT C p < C.length, C[posT C p].pa = p := by
  have hl := hasT_lt h
  refine ⟨hl, ?_⟩
  unfold hasT at h
  rw [List.getElem?_eq_getElem hl] at h
  exact cmpL_zero.1 (of_decide_eq_true h)
theorem pos_of {C : List Ent} (hA : AscE C) {i : Nat} (hi : i < C.length) : hasT C C[i].pa = true ∧ posT C C[i].pa = i := by
  have h := (hasT_iff hA).2 ⟨C[i], List.getElem_mem hi, rfl⟩
  obtain ⟨hl, hk⟩ := has_at h
  refine ⟨h, ?_⟩
  rcases Nat.lt_trichotomy (posT C C[i].pa) i with h1 | h1 | h1
  · have := hA.lt hl hi h1; rw [hk, cmpL_self] at this; omega
  · exact h1
  · have := hA.lt hi hl h1; rw [hk, cmpL_self] at this; omega
theorem ask_ok {C : List Ent} {L : List ByteArray} (hg : goodP C = true) (h : ∀ p ∈ L, okPath p.data.toList = true) : askT C L = 0 := by
  unfold askT
  rw [hg, if_neg (by simp), if_pos (List.all_eq_true.2 h)]
/-- What was put in where nothing was, taken out again. -/
theorem put_back {C : List Ent} (hg : goodP C = true) {E : Ent} (hn : hasT C E.pa = false) (hX : goodP (putL C E) = true) : removeP (putL C E) E.1 = (C, 0) := by
  obtain ⟨_, h2, h3, h4⟩ := (goodP_iff C).1 hg
  obtain ⟨_, x2, x3, x4⟩ := (goodP_iff _).1 hX
  have hpl := posT_le C E.pa
  have hlen : (C.take (posT C E.pa)).length = posT C E.pa := by rw [List.length_take]; omega
  have hXe : putL C E = C.take (posT C E.pa) ++ E :: C.drop (posT C E.pa) := by unfold putL; rw [hn, if_neg (by simp)]
  have hi : posT C E.pa < (putL C E).length := by rw [hXe, List.length_append, List.length_cons, hlen]; omega
  have hat : (putL C E)[posT C E.pa] = E := by
    simp only [hXe]
    rw [List.getElem_append_right (by omega)]
    simp only [hlen, Nat.sub_self, List.getElem_cons_zero]
  obtain ⟨hh, hpos⟩ := pos_of x2 hi
  rw [hat] at hh hpos
  have hok : okPath E.pa = true := okEnt_path (x3 E (putL_has C E))
  have hask : askT (putL C E) [E.1] = 0 := ask_ok hX fun p hp => by rw [List.mem_singleton.1 hp]; exact hok
  have hf : findP (putL C E) E.1 = (posT C E.pa, 0) := by
    unfold findP
    rw [hask, if_neg (by simp)]
    show (if hasT (putL C E) E.pa = true then (posT (putL C E) E.pa, (0 : Int)) else (0, 5)) = _
    rw [hh, hpos, if_pos rfl]
  have hk : kidsP (putL C E) E.pa = [] := by
    unfold kidsP
    rw [if_pos hX]
    unfold inT
    rw [List.map_eq_nil_iff, List.filter_eq_nil_iff]
    intro e he k
    have k' := eq_of_beq k
    have h0 : upV e.pa ≠ [] := by rw [k']; exact ne_nil_of_ok hok
    rcases putL_mem he with rfl | he
    · exact up_ne hok h0 k'
    · obtain ⟨z, hz, k2, _⟩ := (room_iff h2 h0).1 (h4 e he)
      have := (hasT_iff h2).2 ⟨z, hz, k2.trans k'⟩
      rw [hn] at this
      cases this
  unfold removeP
  have hk' : (kidsP (putL C E) E.1.data.toList).length = 0 := by
    have : kidsP (putL C E) E.1.data.toList = [] := hk
    rw [this]; rfl
  rw [hf, hk']
  simp only [ne_eq, not_true_eq_false, if_false, Nat.lt_irrefl]
  have e1 : (putL C E).take (posT C E.pa) = C.take (posT C E.pa) := by rw [hXe]; exact List.take_left' hlen
  have e2 : (putL C E).drop (posT C E.pa + 1) = C.drop (posT C E.pa) := by
    rw [hXe, show C.take (posT C E.pa) ++ E :: C.drop (posT C E.pa) = (C.take (posT C E.pa) ++ [E]) ++ C.drop (posT C E.pa) by simp]
    exact List.drop_left' (by rw [List.length_append, hlen]; rfl)
  rw [e1, e2, List.take_append_drop]
end Go.Proofs.YtefamkckoikeoaaDoor
/- Contract: package tree's Find. Conditions: at most 1000 entries, all bytes together at most 2^62, paths shorter than 2^61 bytes. -/
namespace Go.Proofs.YtefamkckoikeoaaDoor
open Go.RowKit
/-- What Find answers: an entry, its bytes in a row of the call's own. -/
def FindR (w : World) (base : Nat) (C : List Ent) (p : ByteArray) (e : Ent) : Prop :=
  OwnB w base e ∧ (((findP C p).2 = 0 ∧ ∃ h : (findP C p).1 < C.length, e.1 = C[(findP C p).1].1 ∧ e.2.1 = C[(findP C p).1].2.1 ∧ e.by = C[(findP C p).1].by) ∨ ((findP C p).2 ≠ 0 ∧ e = (⟨#[]⟩, false, .slice none 0 0, [])))
set_option maxHeartbeats 8000000 in
set_option maxRecDepth 100000 in
theorem tFind_any (C : List Ent) (q : Option Addr) (c : Nat) (p : ByteArray) (hm : C.length ≤ 900) (hcap : C.length ≤ c) (hb : bytesT C ≤ 4611686018427387904) (hn : ∀ e ∈ C, e.1.size < 9223372036854775808) (hp : p.size < 2305843009213693952)
    (hlb : ∀ e ∈ C, goodP C = true → e.by.length ≤ 140737488355328)
    (w : World) (hs : Sees w w.heap.size q (rowC C)) (hE : Ents w C) :
    Calls Tryd.prog 12 #[.agg #[.slice q C.length c], .string p] w fun e w' => (∃ r : Ent, e = .returned (.tuple #[entV r, .int .i64 (findP C p).2]) ∧ FindR w' w.heap.size C p r) ∧ Below w.heap.size w w' := by
  have HFI := Lib.hid (fun w1 (h : Below w.heap.size w w1) => tfind_any C q c p (by omega) hcap (by omega) hn (by omega) w1 ((hs.keep h).more h.size) (hE.keep h))
  have HS := Lib.hid hs
  have HE := Lib.hid hE
  have HB : Hid (Below w.heap.size w ((w.alloc (.cells #[.slice q C.length c] 25)).alloc (.cells #[.string ⟨#[]⟩, .bool false, .slice none 0 0] 32))) := Lib.hid (((Below.refl _ _).alloc (Nat.le_refl _) _).alloc (by simp) _)
  have HX : Hid (Has ((w.alloc (.cells #[.slice q C.length c] 25)).alloc (.cells #[.string ⟨#[]⟩, .bool false, .slice none 0 0] 32)) w.heap.size 25 [.slice q C.length c]) := Lib.hid ((Has.made w _ _).alloc _)
  have HY : Hid (Has ((w.alloc (.cells #[.slice q C.length c] 25)).alloc (.cells #[.string ⟨#[]⟩, .bool false, .slice none 0 0] 32)) (w.heap.size + 1) 32 [.string ⟨#[]⟩, .bool false, .slice none 0 0]) := Lib.hid (Has.made1 w _ _ _ _ rfl)
  have HFL : Hid ((findP C p).2 = 0 → (findP C p).1 < C.length ∧ goodP C = true) := Lib.hid (fun h => by
    unfold findP at h ⊢
    by_cases h0 : askT C [p] ≠ 0
    · rw [if_pos h0] at h; exact absurd h h0
    · rw [if_neg h0] at h ⊢
      cases h1 : hasT C p.data.toList with
      | false => rw [h1] at h; simp at h
      | true =>
        rw [if_pos rfl]
        exact ⟨hasT_lt h1, (askT_good (by simpa using h0)).1⟩)
  have HFR : Hid (∀ w' base e, OwnB w' base e → (((findP C p).2 = 0 ∧ ∃ h : (findP C p).1 < C.length, e.1 = C[(findP C p).1].1 ∧ e.2.1 = C[(findP C p).1].2.1 ∧ e.by = C[(findP C p).1].by) ∨ ((findP C p).2 ≠ 0 ∧ e = (⟨#[]⟩, false, .slice none 0 0, []))) → FindR w' base C p e) := Lib.hid (fun _ _ _ h1 h2 => ⟨h1, h2⟩)
  have HLB := Lib.hid hlb
  generalize FindR = FR at *
  generalize findP C p = FP at *
  obtain ⟨FI, FE⟩ := FP
  simp only [] at HFL HFR
  have hle : w.heap.size ≤ w.heap.size + 1 := by omega
  clear hs hE hn hlb
  go_enter Tryd.func12, Tryd.ntmps12
  have cx := HX.out.cellv (i := 0) (v := .slice q C.length c) rfl
  go_wp2_with fail
  refine (HFI.out _ HB.out).mono ?_
  rintro e w1 ⟨rfl, hb1⟩
  replace HB := Lib.hid (HB.out.trans (hb1.mono HB.out.size))
  replace HX := Lib.hid (HX.out.keep hb1 HX.out.lt)
  replace HY := Lib.hid (HY.out.keep hb1 HY.out.lt)
  clear hb1 cx
  have cx := HX.out.cellv (i := 0) (v := .slice q C.length c) rfl
  have cy0 := HY.out.cellv (i := 0) (v := .string ⟨#[]⟩) rfl
  have cy1 := HY.out.cellv (i := 1) (v := .bool false) rfl
  have cy2 := HY.out.cellv (i := 2) (v := .slice none 0 0) rfl
  have fy0 := HY.out.free 0
  have fy1 := HY.out.free 1
  have fy2 := HY.out.free 2
  by_cases hF : FE = 0
  · subst hF
    obtain ⟨hlt, hgd⟩ := HFL.out rfl
    obtain ⟨a, rfl, ha, hc⟩ := HS.out.ent hlt
    obtain ⟨c1, c2, c3⟩ := hc w1 HB.out
    have kk : (FI : Int) < (C.length : Int) := by omega
    obtain ⟨qb, cb, hv, hcb, hqb, hsb⟩ := HE.out C[FI] (List.getElem_mem hlt)
    have hbl := HLB.out C[FI] (List.getElem_mem hlt) hgd
    have HRR : Hid (∀ w' base e, OwnB w' base e → e.1 = C[FI].1 → e.2.1 = C[FI].2.1 → e.by = C[FI].by → FR w' base C p e) := Lib.hid (fun w' base e h h1 h2 h3 => HFR.out w' base e h (.inl ⟨rfl, hlt, h1, h2, h3⟩))
    obtain ⟨e, he⟩ : ∃ e, C[FI] = e := ⟨_, rfl⟩
    rw [he] at c1 c2 c3 hv hsb hbl HRR
    obtain ⟨x, d, bv, bb⟩ := e
    have hv' : bv = .slice qb (List.length bb) cb := hv
    subst hv'
    simp only [] at c1 c2 c3 HRR
    have HBC : Hid (∀ w1 (h : Below w.heap.size w w1), Calls Tryd.prog 49 #[.slice qb bb.length cb] w1 fun e w' => (∃ v, e = .returned v ∧ w'.ownsRow w1.heap.size 5 1 v bb.length (bb.map u8v)) ∧ Below w1.heap.size w1 w') := Lib.hid (fun w1 h => tbclone_any bb qb cb w1 ((hsb.keep h).more h.size) hqb hbl)
    have HYL := Lib.hid HY.out.lt
    have HZ := Lib.hid HB.out.size
    have HB2 : Hid (Below w.heap.size w (w1.alloc (.cells #[.string x, .bool d, .slice qb bb.length cb] 32))) := Lib.hid (HB.out.alloc HB.out.size _)
    have HT2 : Hid (Has (w1.alloc (.cells #[.string x, .bool d, .slice qb bb.length cb] 32)) w1.heap.size 32 [.string x, .bool d, .slice qb bb.length cb]) := Lib.hid (Has.made w1 _ _)
    have HY2 := Lib.hid (HY.out.alloc (.cells #[.string x, .bool d, .slice qb bb.length cb] 32))
    clear hc ha he hv hsb hcb hqb hbl
    go_wp2_with fail
    refine (HBC.out _ HB2.out).mono ?_
    rintro e w3 ⟨⟨v3, rfl, hO3⟩, hb3⟩
    have HT3 := HT2.out.keep hb3 HT2.out.lt
    have HY3 := HY2.out.keep hb3 HY2.out.lt
    have HB3 := Lib.hid (HB2.out.trans (hb3.mono HB2.out.size))
    obtain ⟨x5, m5, k5, rfl⟩ := own_slice' hO3
    have hszz : w1.heap.size < (w1.alloc (.cells #[.string x, .bool d, .slice qb bb.length cb] 32)).heap.size := by simp
    have hO3' : OwnB w3 (w1.alloc (.cells #[.string x, .bool d, .slice qb bb.length cb] 32)).heap.size (x, d, .slice x5 m5 k5, bb) := hO3
    generalize (w1.alloc (.cells #[.string x, .bool d, .slice qb bb.length cb] 32)).heap.size = BS at *
    have hne : w1.heap.size ≠ w.heap.size + 1 := by have := HYL.out; omega
    have HZB := HZ
    have HYB := HYL
    generalize w1.heap.size = BT at *
    have t0 := HT3.cellv (i := 0) (v := .string x) rfl
    have t1 := HT3.cellv (i := 1) (v := .bool d) rfl
    have t2 := HT3.cellv (i := 2) (v := .slice qb bb.length cb) rfl
    have f2 := HT3.free 2
    have HT4 := HT3.put 2 (.slice x5 m5 k5)
    have HY4 : Has (w3.setCell ⟨BT, 2, none⟩ (.slice x5 m5 k5)) (w.heap.size + 1) 32 [.string ⟨#[]⟩, .bool false, .slice none 0 0] := HY3.off (by show w.heap.size + 1 ≠ BT; omega) _
    have hbt : w.heap.size ≤ BT := HZB.out
    have hO4 := hO3'.set (g := BT) (o := 2) hszz (.slice x5 m5 k5)
    have HB4 := HB3.out.setCell (p := ⟨BT, 2, none⟩) hbt (.slice x5 m5 k5)
    have z0 := HT4.cellv (i := 0) (v := .string x) rfl
    have z1 := HT4.cellv (i := 1) (v := .bool d) rfl
    have z2 := HT4.cellv (i := 2) (v := .slice x5 m5 k5) rfl
    have y0 := HY4.cellv (i := 0) (v := .string ⟨#[]⟩) rfl
    have y1 := HY4.cellv (i := 1) (v := .bool false) rfl
    have y2 := HY4.cellv (i := 2) (v := .slice none 0 0) rfl
    have g0 := HY4.free 0
    have g1 := HY4.free 1
    have g2 := HY4.free 2
    have HB4' := Lib.hid HB4
    have HO4 := Lib.hid hO4
    have HY4' := Lib.hid HY4
    clear hb3 hO3 hO3' HT3 HY3 HT4 HY4 hO4 HB4 cx cy0 cy1 cy2 fy0 fy1 fy2 c1 c2 c3 HT2 HY2 HB2
    go_wp2_with fail
    have hyf := ((HY4'.out.put 0 (.string x)).put 1 (.bool d)).put 2 (.slice x5 m5 k5)
    have cz0 := hyf.cellv (i := 0) (v := .string x) rfl
    have cz1 := hyf.cellv (i := 1) (v := .bool d) rfl
    have cz2 := hyf.cellv (i := 2) (v := .slice x5 m5 k5) rfl
    refine bodyPost_ret (by simp [results, Tryd.results12, go_sem, cz0, cz1, cz2]; try rfl) rfl ?_
    have hlb : w.heap.size + 1 < BS := by have := HYB.out; omega
    exact ⟨⟨(x, d, .slice x5 m5 k5, bb), rfl, HRR.out _ _ _ (((((HO4.out.set (o := 0) hlb (.string x)).set (o := 1) hlb (.bool d)).set (o := 2) hlb (.slice x5 m5 k5))).less (by omega)) rfl rfl rfl⟩, ((HB4'.out.setCell (p := ⟨w.heap.size + 1, 0, none⟩) hle _).setCell (p := ⟨w.heap.size + 1, 1, none⟩) hle _).setCell (p := ⟨w.heap.size + 1, 2, none⟩) hle _⟩
  · have kA : (FE = 0) = False := eq_false hF
    have kAb : (FE == 0) = false := by simpa using hF
    have kAn : (FE != 0) = true := by simpa using hF
    have HY' := HY
    have HB' := HB
    clear cx cy0 cy1 cy2 fy0 fy1 fy2
    have cx := HX.out.cellv (i := 0) (v := .slice q C.length c) rfl
    have cy0 := HY.out.cellv (i := 0) (v := .string ⟨#[]⟩) rfl
    have cy1 := HY.out.cellv (i := 1) (v := .bool false) rfl
    have cy2 := HY.out.cellv (i := 2) (v := .slice none 0 0) rfl
    have fy0 := HY.out.free 0
    have fy1 := HY.out.free 1
    have fy2 := HY.out.free 2
    go_wp2_with fail
    have hyf := ((HY'.out.put 0 (.string ⟨#[]⟩)).put 1 (.bool false)).put 2 (.slice none 0 0)
    have cz0 := hyf.cellv (i := 0) (v := .string ⟨#[]⟩) rfl
    have cz1 := hyf.cellv (i := 1) (v := .bool false) rfl
    have cz2 := hyf.cellv (i := 2) (v := .slice none 0 0) rfl
    refine bodyPost_ret (by simp [results, Tryd.results12, go_sem, cz0, cz1, cz2]; try rfl) rfl ?_
    exact ⟨⟨(⟨#[]⟩, false, .slice none 0 0, []), rfl, HFR.out _ _ _ (World.ownsRow_nil _ _ _ _) (.inr ⟨hF, rfl⟩)⟩, ((HB'.out.setCell (p := ⟨w.heap.size + 1, 0, none⟩) hle _).setCell (p := ⟨w.heap.size + 1, 1, none⟩) hle _).setCell (p := ⟨w.heap.size + 1, 2, none⟩) hle _⟩
end Go.Proofs.YtefamkckoikeoaaDoor
/- Plain laws: what Put, Make, Find answer of a tree that may be. No condition. -/
namespace Go.Proofs.YtefamkckoikeoaaDoor
open Go.RowKit
theorem askT_vals (C : List Ent) (L : List ByteArray) : askT C L = 0 ∨ askT C L = 1 ∨ askT C L = 4 := by
  unfold askT
  split
  · exact .inr (.inl rfl)
  · split
    · exact .inl rfl
    · exact .inr (.inr rfl)
theorem find_none {C : List Ent} {p : ByteArray} : (findP C p).2 = 5 ↔ askT C [p] = 0 ∧ hasT C p.data.toList = false := by
  unfold findP
  by_cases h : askT C [p] ≠ 0
  · rw [if_pos h]
    constructor
    · intro k
      rcases askT_vals C [p] with h1 | h1 | h1 <;> rw [h1] at k <;> simp at k
    · rintro ⟨k, _⟩; exact absurd k h
  · rw [if_neg h]
    have h0 : askT C [p] = 0 := by simpa using h
    cases hh : hasT C p.data.toList <;> simp [h0]
theorem dir_of {C : List Ent} (hA : AscE C) {p : Tx} (h : ¬ (hasT C p = true ∧ dirT C (posT C p) = true)) {y : Ent} (hy : y ∈ C) (k : y.pa = p) : y.dir = false := by
  have hh := (hasT_iff hA).2 ⟨y, hy, k⟩
  obtain ⟨hl, hk⟩ := has_at hh
  have hd : dirT C (posT C p) = y.dir := by
    unfold dirT
    rw [List.getElem?_eq_getElem hl]
    rw [asc_one hA (List.getElem_mem hl) hy (hk.trans k.symm)]
    rfl
  cases hy2 : y.dir with
  | false => rfl
  | true => exact absurd ⟨hh, by rw [hd, hy2]⟩ h
/-- Put: what it answers may be. -/
theorem put_good {C : List Ent} (hg : goodP C = true) (p : ByteArray) (b : List (BitVec 8)) (v : Value) : goodP (putP C p b v).1 = true ∨ okPath p.data.toList = false := by
  cases hp : okPath p.data.toList with
  | false => exact .inr rfl
  | true =>
    left
    obtain ⟨_, h2, _, _⟩ := (goodP_iff C).1 hg
    unfold putP
    split
    · exact hg
    · rename_i hr
      split
      · exact hg
      · rename_i hd
        split
        · exact hg
        · rename_i hl
          split
          · rename_i hf
            have hr' : roomT C p.data.toList = 0 := by simpa using hr
            refine putL_good hg ?_ hr' (fun y hy k hd2 => ?_) hf
            · show (!(false && decide (0 < b.length)) && (okPath p.data.toList && decide (b.length ≤ 2048))) = true
              rw [hp]
              have : b.length ≤ 2048 := by omega
              simp [this]
            · rw [dir_of h2 hd hy k] at hd2; cases hd2
          · exact hg
theorem putt_good {C : List Ent} (hg : goodP C = true) (p : ByteArray) (b : List (BitVec 8)) (v : Value) : goodP (puttP C p b v).1 = true := by
  unfold puttP
  split
  · exact hg
  · rename_i h
    rcases put_good hg p b v with h1 | h1
    · exact h1
    · rw [(askT_good (by simpa using h)).2 p (List.mem_singleton.2 rfl)] at h1; cases h1
theorem put_out {C : List Ent} {p : ByteArray} {b : List (BitVec 8)} {v : Value} (h : (putP C p b v).2 = 0) : (putP C p b v).1 = putL C (fileE p v b) := by
  unfold putP at h ⊢
  split at h
  · rename_i h1; exact absurd h h1
  · rename_i h1
    rw [if_neg h1]
    split at h
    · cases h
    · rename_i h2
      rw [if_neg h2]
      split at h
      · cases h
      · rename_i h3
        rw [if_neg h3]
        split at h
        · rename_i h4; rw [if_pos h4]
        · cases h
theorem back_put {C : List Ent} (hg : goodP C = true) {p : ByteArray} {b : List (BitVec 8)} {v : Value} (h : (puttP C p b v).2 = 0) (hn : (findP C p).2 = 5) : removeP (puttP C p b v).1 p = (C, 0) := by
  obtain ⟨ha, hh⟩ := find_none.1 hn
  have hG := putt_good hg p b v
  unfold puttP at h hG ⊢
  rw [if_neg (by simpa using ha)] at h hG ⊢
  rw [put_out h] at hG ⊢
  exact put_back hg (E := fileE p v b) hh hG
theorem make_cases {C : List Ent} (p : ByteArray) : ((makeP C p).2 ≠ 0 ∧ (makeP C p).1 = C) ∨ ((makeP C p).2 = 0 ∧ (makeP C p).1 = putL C (dirE p) ∧ askT C [p] = 0 ∧ hasT C p.data.toList = false ∧ roomT C p.data.toList = 0 ∧ fitsT (putL C (dirE p)) = true) := by
  unfold makeP
  by_cases h1 : askT C [p] ≠ 0
  · rw [if_pos h1]; exact .inl ⟨h1, rfl⟩
  · rw [if_neg h1]
    have h1' : askT C [p] = 0 := by simpa using h1
    cases h2 : hasT C p.data.toList with
    | true => rw [if_pos rfl]; exact .inl ⟨by simp, rfl⟩
    | false =>
      rw [if_neg (by simp)]
      by_cases h3 : roomT C p.data.toList ≠ 0
      · rw [if_pos h3]; exact .inl ⟨h3, rfl⟩
      · rw [if_neg h3]
        have h3' : roomT C p.data.toList = 0 := by simpa using h3
        cases h4 : fitsT (putL C (dirE p)) with
        | true => rw [if_pos rfl]; exact .inr ⟨rfl, rfl, h1', rfl, h3', rfl⟩
        | false => rw [if_neg (by simp)]; exact .inl ⟨by simp, rfl⟩
theorem make_good {C : List Ent} (hg : goodP C = true) (p : ByteArray) : goodP (makeP C p).1 = true := by
  rcases make_cases (C := C) p with ⟨_, h⟩ | ⟨_, h, ha, hh, hr, hf⟩
  · rw [h]; exact hg
  · rw [h]
    obtain ⟨_, h2, _, _⟩ := (goodP_iff C).1 hg
    have hp := (askT_good ha).2 p (List.mem_singleton.2 rfl)
    refine putL_good hg ?_ hr (fun y hy k _ => rfl) hf
    show (!(true && decide (0 < ([] : List (BitVec 8)).length)) && (okPath p.data.toList && decide (([] : List (BitVec 8)).length ≤ 2048))) = true
    rw [hp]; rfl
theorem back_make {C : List Ent} (hg : goodP C = true) {p : ByteArray} (h : (makeP C p).2 = 0) : removeP (makeP C p).1 p = (C, 0) ∧ (findP C p).2 = 5 := by
  have hG := make_good hg p
  rcases make_cases (C := C) p with ⟨h1, _⟩ | ⟨_, h1, ha, hh, hr, hf⟩
  · exact absurd h h1
  · rw [h1] at hG ⊢
    exact ⟨put_back hg (E := dirE p) hh hG, find_none.2 ⟨ha, hh⟩⟩
theorem putt_size {C : List Ent} {p : ByteArray} {b : List (BitVec 8)} (v : Value) : (puttP C p b v).1.length ≤ C.length + 1 ∧ bytesT (puttP C p b v).1 ≤ bytesT C + b.length ∧ ∀ e ∈ (puttP C p b v).1, e.1 = p ∨ e ∈ C := by
  have h0 : C.length ≤ C.length + 1 ∧ bytesT C ≤ bytesT C + b.length ∧ ∀ e ∈ C, e.1 = p ∨ e ∈ C := ⟨by omega, by omega, fun e he => .inr he⟩
  by_cases h : (puttP C p b v).2 = 0 ∧ askT C [p] = 0
  · have h1 : puttP C p b v = putP C p b v := by unfold puttP; rw [if_neg (by simpa using h.2)]
    rw [h1] at h ⊢
    rw [put_out h.1]
    refine ⟨?_, putL_bytes C (fileE p v b), fun e he => ?_⟩
    · rw [putL_len]; split <;> omega
    · rcases putL_mem he with rfl | he
      · exact .inl rfl
      · exact .inr he
  · have hc : (puttP C p b v).1 = C := by
      unfold puttP at h ⊢
      split
      · rfl
      · rename_i h1
        rw [if_neg h1] at h
        have hne : (putP C p b v).2 ≠ 0 := fun k => h ⟨k, by simpa using h1⟩
        unfold putP at hne ⊢
        split
        · rfl
        · split
          · rfl
          · split
            · rfl
            · split
              · rename_i a1 a2 a3 a4; rw [if_neg a1, if_neg a2, if_neg a3, if_pos a4] at hne; exact absurd rfl hne
              · rfl
    rw [hc]; exact h0
theorem make_size {C : List Ent} {p : ByteArray} : (makeP C p).1.length ≤ C.length + 1 ∧ bytesT (makeP C p).1 ≤ bytesT C ∧ ∀ e ∈ (makeP C p).1, e.1 = p ∨ e ∈ C := by
  rcases make_cases (C := C) p with ⟨_, h⟩ | ⟨_, h, _⟩
  · rw [h]; exact ⟨by omega, Nat.le_refl _, fun e he => .inr he⟩
  · rw [h]
    refine ⟨?_, putL_bytes C (dirE p), fun e he => ?_⟩
    · rw [putL_len]; split <;> omega
    · rcases putL_mem he with rfl | he
      · exact .inl rfl
      · exact .inr he
theorem good_bytes {C : List Ent} (hg : goodP C = true) : ∀ e ∈ C, e.by.length ≤ 140737488355328 := fun e he => by
  obtain ⟨_, _, h3, _⟩ := (goodP_iff C).1 hg
  have := h3 e he
  unfold okEnt at this
  rw [Bool.and_eq_true, Bool.and_eq_true, decide_eq_true_eq] at this
  omega
end Go.Proofs.YtefamkckoikeoaaDoor
/- Plain laws: the document's own reckoning with trees and the program's are one. No condition. -/
namespace Go.Proofs.YtefamkckoikeoaaDoor
open Go.RowKit
theorem upB_room (C : List Ent) (x : Tx) : upB C x = true ↔ roomT C x = 0 := by
  unfold upB roomT
  by_cases h0 : upV x = []
  · simp [h0]
  · rw [if_neg h0]
    by_cases h1 : atT C (upV x) < 0
    · rw [if_pos h1, decide_eq_false h0, decide_eq_false (by omega)]; simp
    · rw [if_neg h1, decide_eq_false h0, decide_eq_true (by omega)]
      cases dirT C (atT C (upV x)).toNat <;> simp
theorem okE_iff (C : List Ent) (prev : Option Ent) (e : Ent) : okE C prev e = true ↔ prevB prev e.pa = true ∧ okEnt e = true ∧ roomT C e.pa = 0 := by
  rw [← upB_room]
  unfold okE okEnt
  simp only [Bool.and_eq_true]
  constructor
  · rintro ⟨a, b, c, d, f⟩; exact ⟨b, ⟨c, a, d⟩, f⟩
  · rintro ⟨b, ⟨c, a, d⟩, f⟩; exact ⟨a, b, c, d, f⟩
theorem asc_prev (prev : Option Ent) (e : Ent) (r : List Ent) : AscE (prev.toList ++ e :: r) ↔ prevB prev e.pa = true ∧ AscE (e :: r) := by
  cases prev with
  | none => exact ⟨fun h => ⟨rfl, h⟩, fun h => h.2⟩
  | some y =>
    show AscE (y :: e :: r) ↔ decide (cmpL y.pa e.pa < 0) = true ∧ AscE (e :: r)
    rw [decide_eq_true_eq]
    constructor
    · intro h
      obtain ⟨h1, h2⟩ := List.pairwise_cons.1 h
      exact ⟨h1 e (List.mem_cons_self ..), h2⟩
    · rintro ⟨h1, h2⟩
      refine List.pairwise_cons.2 ⟨fun x hx => ?_, h2⟩
      rcases List.mem_cons.1 hx with rfl | hx
      · exact h1
      · exact cmpL_lt_le h1 (Int.le_of_lt ((List.pairwise_cons.1 h2).1 x hx))
theorem goodR_iff (C : List Ent) : ∀ (L : List Ent) (prev : Option Ent), goodR C L prev = true ↔ AscE (prev.toList ++ L) ∧ (∀ e ∈ L, okEnt e = true) ∧ ∀ e ∈ L, roomT C e.pa = 0
  | [], prev => by
    refine ⟨fun _ => ⟨?_, (fun _ hx => nomatch hx), (fun _ hx => nomatch hx)⟩, fun _ => rfl⟩
    cases prev with
    | none => exact List.Pairwise.nil
    | some y => exact List.pairwise_singleton _ _
  | e :: r, prev => by
    rw [goodR, Bool.and_eq_true, goodR_iff C r (some e), okE_iff, asc_prev]
    constructor
    · rintro ⟨⟨a, b, c⟩, d, f, g⟩
      refine ⟨⟨a, d⟩, fun x hx => ?_, fun x hx => ?_⟩
      · rcases List.mem_cons.1 hx with rfl | hx
        · exact b
        · exact f x hx
      · rcases List.mem_cons.1 hx with rfl | hx
        · exact c
        · exact g x hx
    · rintro ⟨⟨a, d⟩, f, g⟩
      exact ⟨⟨a, f e (List.mem_cons_self ..), g e (List.mem_cons_self ..)⟩, d, fun x hx => f x (List.mem_cons_of_mem _ hx), fun x hx => g x (List.mem_cons_of_mem _ hx)⟩
theorem goodT_P (C : List Ent) : goodT C = goodP C := by
  rw [Bool.eq_iff_iff, goodP_iff]
  unfold goodT
  rw [Bool.and_eq_true, goodR_iff]
  show (AscE C ∧ _) ∧ _ ↔ _
  constructor
  · rintro ⟨⟨a, b, c⟩, d⟩; exact ⟨d, a, b, c⟩
  · rintro ⟨d, a, b, c⟩; exact ⟨⟨a, b, c⟩, d⟩
theorem withT_done (E : Ent) : ∀ (B : List Ent), (∀ e ∈ B, e.pa ≠ E.pa) → withT B E true = B
  | [], _ => rfl
  | y :: B, h => by
    rw [withT_cons y E B true false (decide (0 ≤ cmpL y.pa E.pa)) (by simpa using h y (List.mem_cons_self ..)) rfl, Bool.true_or, withT_done E B fun e he => h e (List.mem_cons_of_mem _ he)]
    rfl
theorem withT_before (E : Ent) (B : List Ent) : ∀ (A : List Ent), (∀ e ∈ A, cmpL e.pa E.pa < 0) → withT (A ++ B) E false = A ++ withT B E false
  | [], _ => rfl
  | y :: A, h => by
    have h1 := h y (List.mem_cons_self ..)
    have hne : y.pa ≠ E.pa := fun k => by rw [k, cmpL_self] at h1; omega
    rw [List.cons_append, withT_cons y E (A ++ B) false false false (by simpa using hne) (decide_eq_false (by omega)), Bool.or_self, withT_before E B A fun e he => h e (List.mem_cons_of_mem _ he)]
    rfl
theorem ne_of_gt {x y : Tx} (h : 0 < cmpL x y) : x ≠ y := fun k => by rw [k, cmpL_self] at h; omega
theorem withT_putL {C : List Ent} (hA : AscE C) (E : Ent) : withT C E false = putL C E := by
  have hd := drop_gt hA E.pa
  unfold putL
  have h1 : withT C E false = C.take (posT C E.pa) ++ withT (C.drop (posT C E.pa)) E false := by
    have h := withT_before E (C.drop (posT C E.pa)) (C.take (posT C E.pa)) take_lt
    rwa [List.take_append_drop] at h
  rw [h1]
  congr 1
  cases hh : hasT C E.pa with
  | true =>
    rw [hh, if_pos rfl] at hd
    obtain ⟨hl, hk⟩ := has_at hh
    rw [if_pos rfl, List.drop_eq_getElem_cons hl, withT_cons C[posT C E.pa] E _ false true true (by rw [hk]; simp) (by rw [hk, cmpL_self]; rfl), Bool.or_true, withT_done E _ fun e he => ne_of_gt (hd e he)]
    rfl
  | false =>
    rw [hh, if_neg (by simp)] at hd
    rw [if_neg (by simp)]
    cases hB : C.drop (posT C E.pa) with
    | nil => rfl
    | cons y B =>
      rw [hB] at hd
      have hy := hd y (List.mem_cons_self ..)
      rw [withT_cons y E B false false true (by simpa using ne_of_gt hy) (decide_eq_true (by omega)), Bool.or_true, withT_done E B fun e he => ne_of_gt (hd e (List.mem_cons_of_mem _ he))]
      rfl
theorem has_at0 {C : List Ent} (hA : AscE C) (p : Tx) : 0 ≤ atT C p ↔ hasT C p = true := by
  rcases asc_at hA p with ⟨h1, h2, _⟩ | ⟨h1, h2⟩
  · exact ⟨fun _ => h1, fun _ => by omega⟩
  · rw [h1]; exact ⟨fun h => by omega, fun h => nomatch h⟩
theorem good_fits {C : List Ent} (h : fitsT C = false) : goodP C = false := by
  unfold goodP; rw [h]; rfl
theorem makeT_P (C : List Ent) (p : ByteArray) : makeT C p = makeP C p := by
  unfold makeT makeP askT
  rw [goodT_P]
  cases hg : goodP C with
  | false => simp
  | true =>
    obtain ⟨_, h2, _, _⟩ := (goodP_iff C).1 hg
    cases hp : okPath p.data.toList with
    | false => simp [hp]
    | true =>
      have ha : ([p].all fun p => okPath p.data.toList) = true := by simp [hp]
      rw [ha]
      simp only [Bool.true_eq_false, if_false, if_true, ne_eq, not_true_eq_false]
      by_cases hh : hasT C p.data.toList = true
      · rw [if_pos ((has_at0 h2 _).2 hh), if_pos hh]
      · rw [if_neg (fun k => hh ((has_at0 h2 _).1 k)), if_neg hh]
        by_cases hr : roomT C p.data.toList = 0
        · simp only [hr, not_true_eq_false, if_false]
          rw [withT_putL h2, goodT_P]
          show (if goodP (putL C (dirE p)) = false then (C, (9 : Int)) else (putL C (dirE p), 0)) = _
          cases hf : fitsT (putL C (dirE p)) with
          | false => rw [good_fits hf]; simp
          | true =>
            rw [putL_good (E := dirE p) hg (by
              show (!(true && decide (0 < ([] : List (BitVec 8)).length)) && (okPath p.data.toList && decide (([] : List (BitVec 8)).length ≤ 2048))) = true
              rw [hp]; rfl) hr (fun y hy k _ => rfl) hf]
            simp
        · rw [if_pos hr, if_pos hr]
theorem putT_P (C : List Ent) (p : ByteArray) (b : List (BitVec 8)) (v : Value) : putT C p b v = puttP C p b v := by
  unfold putT puttP askT putP
  rw [goodT_P]
  cases hg : goodP C with
  | false => simp
  | true =>
    obtain ⟨_, h2, _, _⟩ := (goodP_iff C).1 hg
    cases hp : okPath p.data.toList with
    | false => simp [hp]
    | true =>
      have ha : ([p].all fun p => okPath p.data.toList) = true := by simp [hp]
      rw [ha]
      simp only [Bool.true_eq_false, if_false, if_true, ne_eq, not_true_eq_false]
      by_cases hr : roomT C p.data.toList = 0
      · simp only [hr, not_true_eq_false, if_false]
        have hc : (0 ≤ atT C p.data.toList ∧ dirT C (atT C p.data.toList).toNat = true) ↔ (hasT C p.data.toList = true ∧ dirT C (posT C p.data.toList) = true) := by
          rcases asc_at h2 p.data.toList with ⟨h3, h4, _⟩ | ⟨h3, h4⟩
          · rw [h3, h4]; simp
          · rw [h3, h4]; simp
        by_cases hd : hasT C p.data.toList = true ∧ dirT C (posT C p.data.toList) = true
        · rw [if_pos (hc.2 hd), if_pos hd]
        · rw [if_neg (fun k => hd (hc.1 k)), if_neg hd, withT_putL h2, goodT_P]
          show (if goodP (putL C (fileE p v b)) = false then (C, (9 : Int)) else (putL C (fileE p v b), 0)) = _
          by_cases hl : 2048 < b.length
          · have : goodP (putL C (fileE p v b)) = false := by
              cases h : goodP (putL C (fileE p v b)) with
              | false => rfl
              | true =>
                have h5 := ((goodP_iff _).1 h).2.2.1 _ (putL_has C (fileE p v b))
                unfold okEnt at h5
                rw [Bool.and_eq_true, Bool.and_eq_true, decide_eq_true_eq] at h5
                have h6 : b.length ≤ 2048 := h5.2.2
                omega
            rw [if_pos this, if_pos hl]
          · rw [if_neg hl]
            cases hf : fitsT (putL C (fileE p v b)) with
            | false => rw [good_fits hf]; simp
            | true =>
              rw [putL_good (E := fileE p v b) hg (by
                show (!(false && decide (0 < b.length)) && (okPath p.data.toList && decide (b.length ≤ 2048))) = true
                rw [hp, decide_eq_true (show b.length ≤ 2048 by omega)]; rfl) hr (fun y hy k hd2 => by rw [dir_of h2 hd hy k] at hd2; cases hd2) hf]
              simp
      · rw [if_pos hr, if_pos hr]
theorem cleanT_P (C : List Ent) : cleanT C = cleanP C := by unfold cleanT cleanP; rw [goodT_P]
theorem kidsT_P (C : List Ent) (p : Tx) : kidsT C p = kidsP C p := by unfold kidsT kidsP; rw [goodT_P]
end Go.Proofs.YtefamkckoikeoaaDoor
