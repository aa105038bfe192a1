/- Contract: package tree's behind. Condition: paths shorter than 2^63 bytes. -/
import Derived.Test.YthpendoblgndcaaDoorBase2
import Derived.Test.YthpendoblgndcaaDoorBase3
import Derived.Lib.Overlaps
import Derived.Lib.SliceRun
import Derived.Laws.IdiomCopy
import Derived.Lib.AppendZerosOnto
import Derived.Shelf.Spec.SlicesInsert
import Derived.Shelf.Slices.Delete
import Derived.Test.YthpendoblgndcaaDoorBase1
import Derived.Handy
namespace Go.Proofs.YthpendoblgndcaaDoor
open Go.RowKit
set_option maxHeartbeats 4000000 in
set_option maxRecDepth 100000 in
theorem tbehind_any (C : List Ent) (q : Option Addr) (c : Nat) (x : ByteArray) (d : Bool) (bv : Value) (hn : ∀ e ∈ C, e.1.size < 9223372036854775808) (hx : x.size < 9223372036854775808) (w : World) (hs : Sees w w.heap.size q (rowC C)) (h64 : C.length ≤ 100000) :
    Calls Tryd.prog 57 #[.slice q C.length c, .agg #[.string x, .bool d, bv]] w fun e w' => e = .returned (.bool (prevB C.getLast? x.data.toList)) ∧ Below w.heap.size w w' := by
  have HS := Lib.hid hs
  have HN := Lib.hid hn
  have HX : Hid (Has (w.alloc (.cells #[.string x, .bool d, bv] 32)) w.heap.size 32 [.string x, .bool d, bv]) := Lib.hid (Has.made w 32 #[.string x, .bool d, bv])
  have HB : Hid (Below w.heap.size w (w.alloc (.cells #[.string x, .bool d, bv] 32))) := Lib.hid ((Below.refl _ w).alloc (Nat.le_refl _) _)
  obtain ⟨V, hV⟩ : ∃ V, prevB C.getLast? x.data.toList = V := ⟨_, rfl⟩
  rw [hV]
  clear hs hn
  go_enter Tryd.func57, Tryd.ntmps57
  go_wp2_with fail
  by_cases h0 : C = []
  · subst h0
    have hv : V = true := hV.symm
    subst hv
    clear hV
    have k0 : ([] : List Ent).length = 0 := rfl
    refine wp_region_org [(0, true), (1, true), (2, true), (3, true), (4, true), (5, true), (6, true), (7, true), (8, true), (9, true), (10, true), (11, true), (12, true), (13, false), (14, true), (15, true), (16, true)] (by kernel_rfl) (by kernel_rfl) (by kernel_rfl) ?_
    replace HB := Lib.hid (HB.out.drew)
    replace HX := Lib.hid (HX.out.drew)
    generalize (w.alloc (.cells #[.string x, .bool d, bv] 32)).drew = wd at *
    simp only [pickOrs, List.getElem?_cons_zero, List.getElem?_cons_succ]
    refine org_pure (v := ?_) (by kernel_rfl) ?_ ?_
    rotate_left
    · intro w' hv; clear hv; go_simp; try with_reducible rfl
    try simp only [Act.put, List.setIfInBounds_toArray, List.set_cons_zero, List.set_cons_succ]
    refine org_pure (v := ?_) (by kernel_rfl) ?_ ?_
    rotate_left
    · intro w' hv; clear hv; go_simp; try with_reducible rfl
    try simp only [Act.put, List.setIfInBounds_toArray, List.set_cons_zero, List.set_cons_succ]
    refine org_pure (v := ?_) (by kernel_rfl) ?_ ?_
    rotate_left
    · intro w' hv; clear hv; go_simp; try with_reducible rfl
    try simp only [Act.put, List.setIfInBounds_toArray, List.set_cons_zero, List.set_cons_succ]
    refine org_pure (v := ?_) (by kernel_rfl) ?_ ?_
    rotate_left
    · intro w' hv; clear hv; go_simp; try with_reducible rfl
    try simp only [Act.put, List.setIfInBounds_toArray, List.set_cons_zero, List.set_cons_succ]
    refine org_skip (by kernel_rfl) ?_
    try simp only [Act.put, List.setIfInBounds_toArray, List.set_cons_zero, List.set_cons_succ]
    refine org_skip (by kernel_rfl) ?_
    try simp only [Act.put, List.setIfInBounds_toArray, List.set_cons_zero, List.set_cons_succ]
    refine org_skip (by kernel_rfl) ?_
    try simp only [Act.put, List.setIfInBounds_toArray, List.set_cons_zero, List.set_cons_succ]
    refine org_skip (by kernel_rfl) ?_
    try simp only [Act.put, List.setIfInBounds_toArray, List.set_cons_zero, List.set_cons_succ]
    refine org_skip (by kernel_rfl) ?_
    try simp only [Act.put, List.setIfInBounds_toArray, List.set_cons_zero, List.set_cons_succ]
    refine org_skip (by kernel_rfl) ?_
    try simp only [Act.put, List.setIfInBounds_toArray, List.set_cons_zero, List.set_cons_succ]
    refine org_skip (by kernel_rfl) ?_
    try simp only [Act.put, List.setIfInBounds_toArray, List.set_cons_zero, List.set_cons_succ]
    refine org_skip (by kernel_rfl) ?_
    try simp only [Act.put, List.setIfInBounds_toArray, List.set_cons_zero, List.set_cons_succ]
    refine org_skip (by kernel_rfl) ?_
    try simp only [Act.put, List.setIfInBounds_toArray, List.set_cons_zero, List.set_cons_succ]
    refine org_pass (by kernel_rfl) ?_
    try simp only [Act.put, List.setIfInBounds_toArray, List.set_cons_zero, List.set_cons_succ]
    refine org_skip (by kernel_rfl) ?_
    try simp only [Act.put, List.setIfInBounds_toArray, List.set_cons_zero, List.set_cons_succ]
    refine org_pure (v := ?_) (by kernel_rfl) ?_ ?_
    rotate_left
    · intro w' hv; clear hv; go_simp; try with_reducible rfl
    try simp only [Act.put, List.setIfInBounds_toArray, List.set_cons_zero, List.set_cons_succ]
    refine org_pure (v := ?_) (by kernel_rfl) ?_ ?_
    rotate_left
    · intro w' hv; clear hv; go_simp; try with_reducible rfl
    try simp only [Act.put, List.setIfInBounds_toArray, List.set_cons_zero, List.set_cons_succ]
    refine org_nil ?_
    go_wp2_with fail
    go_ret
    exact ⟨rfl, HB.out⟩
  · obtain ⟨n1, hn1⟩ : ∃ n1, C.length = n1 + 1 := ⟨C.length - 1, by have := List.length_pos_iff.2 h0; omega⟩
    have hl : n1 < C.length := by omega
    have kl : (C.length : Int) - 1 = (n1 : Int) := by omega
    have kne : ((C.length : Int) = 0) = False := eq_false (by omega)
    have kbe : ((C.length : Int) == 0) = false := by simp; exact h0
    have kk : (n1 : Int) < (C.length : Int) := by omega
    obtain ⟨a, rfl, ha, hc⟩ := HS.out.ent hl
    have HCX : Hid (∀ w', Below w.heap.size w w' → w'.cell? (a.add (n1 * 3)) = some (.string C[n1].1)) := Lib.hid (fun w' h => (hc w' h).1)
    have hsz := HN.out C[n1] (List.getElem_mem hl)
    have hlast : C.getLast? = some C[n1] := by rw [List.getLast?_eq_getElem?, hn1, Nat.add_sub_cancel, List.getElem?_eq_getElem hl]
    rw [hlast] at hV
    have hpb : prevB (some C[n1]) x.data.toList = decide (cmpL C[n1].1.data.toList x.data.toList < 0) := rfl
    rw [hpb] at hV
    have kw : IntKind.i64.wrap (n1 : Int) = (n1 : Int) := IntWalk.i64_in _ (by omega)
    clear hc ha hlast hpb h0 hn1
    generalize C[n1].1 = y at *
    have HCM := Lib.hid (fun w1 => cmp_any y x hsz hx w1)
    clear hsz
    generalize cmpL y.data.toList x.data.toList = KK at *
    by_cases hneg : KK < 0
    · have kK : (KK < 0) = True := eq_true hneg
      rw [decide_eq_true hneg] at hV
      subst hV
      refine wp_region_org [(0, true), (1, true), (2, true), (3, true), (4, true), (5, true), (6, true), (7, true), (8, true), (9, true), (10, true), (11, true), (12, true), (13, false), (14, true), (15, true), (16, true)] (by kernel_rfl) (by kernel_rfl) (by kernel_rfl) ?_
      replace HB := Lib.hid (HB.out.drew)
      replace HX := Lib.hid (HX.out.drew)
      generalize (w.alloc (.cells #[.string x, .bool d, bv] 32)).drew = wd at *
      simp only [pickOrs, List.getElem?_cons_zero, List.getElem?_cons_succ]
      refine org_pure (v := ?_) (by kernel_rfl) ?_ ?_
      rotate_left
      · intro w' hv; clear hv; go_simp; try with_reducible rfl
      try simp only [Act.put, List.setIfInBounds_toArray, List.set_cons_zero, List.set_cons_succ]
      refine org_pure (v := ?_) (by kernel_rfl) ?_ ?_
      rotate_left
      · intro w' hv; clear hv; go_simp; try with_reducible rfl
      try simp only [Act.put, List.setIfInBounds_toArray, List.set_cons_zero, List.set_cons_succ]
      refine org_pure (v := ?_) (by kernel_rfl) ?_ ?_
      rotate_left
      · intro w' hv; clear hv; go_simp; try with_reducible rfl
      try simp only [Act.put, List.setIfInBounds_toArray, List.set_cons_zero, List.set_cons_succ]
      refine org_pure (v := ?_) (by kernel_rfl) ?_ ?_
      rotate_left
      · intro w' hv; clear hv; go_simp; try with_reducible rfl
      try simp only [Act.put, List.setIfInBounds_toArray, List.set_cons_zero, List.set_cons_succ]
      refine org_pure (v := ?_) (by kernel_rfl) ?_ ?_
      rotate_left
      · intro w' hv; clear hv; go_simp; try with_reducible rfl
      try simp only [Act.put, List.setIfInBounds_toArray, List.set_cons_zero, List.set_cons_succ]
      refine org_pure (v := ?_) (by kernel_rfl) ?_ ?_
      rotate_left
      · intro w' hv; clear hv; go_simp; try with_reducible rfl
      try simp only [Act.put, List.setIfInBounds_toArray, List.set_cons_zero, List.set_cons_succ]
      refine org_pure (v := ?_) (by kernel_rfl) ?_ ?_
      rotate_left
      · intro w' hv; clear hv; go_simp; try with_reducible rfl
      try simp only [Act.put, List.setIfInBounds_toArray, List.set_cons_zero, List.set_cons_succ]
      refine org_pure (v := ?_) (by kernel_rfl) ?_ ?_
      rotate_left
      · intro w' hv; clear hv; go_simp; try with_reducible rfl
      try simp only [Act.put, List.setIfInBounds_toArray, List.set_cons_zero, List.set_cons_succ]
      refine org_pure (v := ?_) (by kernel_rfl) ?_ ?_
      rotate_left
      · intro w' hv; clear hv; go_simp; try with_reducible rfl
      try simp only [Act.put, List.setIfInBounds_toArray, List.set_cons_zero, List.set_cons_succ]
      refine org_pure (v := ?_) (by kernel_rfl) ?_ ?_
      rotate_left
      · intro w' hv; clear hv; go_simp; try with_reducible rfl
      try simp only [Act.put, List.setIfInBounds_toArray, List.set_cons_zero, List.set_cons_succ]
      refine org_pure (v := ?_) (by kernel_rfl) ?_ ?_
      rotate_left
      · intro w' hv; have cp := HCX.out w' (HB.out.trans (Below.mono hv HB.out.size)); clear hv; go_simp; try with_reducible rfl
      try simp only [Act.put, List.setIfInBounds_toArray, List.set_cons_zero, List.set_cons_succ]
      refine org_pure (v := ?_) (by kernel_rfl) ?_ ?_
      rotate_left
      · intro w' hv; clear hv; go_simp; try with_reducible rfl
      try simp only [Act.put, List.setIfInBounds_toArray, List.set_cons_zero, List.set_cons_succ]
      refine org_pure (v := ?_) (by kernel_rfl) ?_ ?_
      rotate_left
      · intro w' hv; have cq := (HX.out.keep hv HX.out.lt).cellv (i := 0) (v := .string x) rfl; clear hv; go_simp; try with_reducible rfl
      try simp only [Act.put, List.setIfInBounds_toArray, List.set_cons_zero, List.set_cons_succ]
      refine org_step (by kernel_rfl) (fun K hK => ?_)
      go_wp2_with fail
      refine (HCM.out _).mono ?_
      rintro e wx ⟨rfl, nq, hq⟩
      have hb : Below wd.heap.size wd wx := by rw [hq]; exact below_drewN (Below.refl _ _) _
      clear hq
      have HE2 := Lib.hid hb
      replace HB := Lib.hid (HB.out.trans (hb.mono HB.out.size))
      replace HX := Lib.hid (HX.out.keep hb HX.out.lt)
      clear hb
      refine hK _ _ ⟨HE2.out, ?_⟩
      clear hK HE2
      try simp only [Act.put, List.setIfInBounds_toArray, List.set_cons_zero, List.set_cons_succ]
      refine org_pure (v := ?_) (by kernel_rfl) ?_ ?_
      rotate_left
      · intro w' hv; clear hv; go_simp; try with_reducible rfl
      try simp only [Act.put, List.setIfInBounds_toArray, List.set_cons_zero, List.set_cons_succ]
      refine org_pure (v := ?_) (by kernel_rfl) ?_ ?_
      rotate_left
      · intro w' hv; clear hv; go_simp; try with_reducible rfl
      try simp only [Act.put, List.setIfInBounds_toArray, List.set_cons_zero, List.set_cons_succ]
      refine org_pure (v := ?_) (by kernel_rfl) ?_ ?_
      rotate_left
      · intro w' hv; clear hv; go_simp; try with_reducible rfl
      try simp only [Act.put, List.setIfInBounds_toArray, List.set_cons_zero, List.set_cons_succ]
      refine org_nil ?_
      go_wp2_with fail
      go_ret
      exact ⟨rfl, HB.out⟩
    · have kK : (KK < 0) = False := eq_false hneg
      rw [decide_eq_false hneg] at hV
      subst hV
      refine wp_region_org [(0, true), (1, true), (2, true), (3, true), (4, true), (5, true), (6, true), (7, true), (8, true), (9, true), (10, true), (11, true), (12, true), (13, false), (14, true), (15, true), (16, true)] (by kernel_rfl) (by kernel_rfl) (by kernel_rfl) ?_
      replace HB := Lib.hid (HB.out.drew)
      replace HX := Lib.hid (HX.out.drew)
      generalize (w.alloc (.cells #[.string x, .bool d, bv] 32)).drew = wd at *
      simp only [pickOrs, List.getElem?_cons_zero, List.getElem?_cons_succ]
      refine org_pure (v := ?_) (by kernel_rfl) ?_ ?_
      rotate_left
      · intro w' hv; clear hv; go_simp; try with_reducible rfl
      try simp only [Act.put, List.setIfInBounds_toArray, List.set_cons_zero, List.set_cons_succ]
      refine org_pure (v := ?_) (by kernel_rfl) ?_ ?_
      rotate_left
      · intro w' hv; clear hv; go_simp; try with_reducible rfl
      try simp only [Act.put, List.setIfInBounds_toArray, List.set_cons_zero, List.set_cons_succ]
      refine org_pure (v := ?_) (by kernel_rfl) ?_ ?_
      rotate_left
      · intro w' hv; clear hv; go_simp; try with_reducible rfl
      try simp only [Act.put, List.setIfInBounds_toArray, List.set_cons_zero, List.set_cons_succ]
      refine org_pure (v := ?_) (by kernel_rfl) ?_ ?_
      rotate_left
      · intro w' hv; clear hv; go_simp; try with_reducible rfl
      try simp only [Act.put, List.setIfInBounds_toArray, List.set_cons_zero, List.set_cons_succ]
      refine org_pure (v := ?_) (by kernel_rfl) ?_ ?_
      rotate_left
      · intro w' hv; clear hv; go_simp; try with_reducible rfl
      try simp only [Act.put, List.setIfInBounds_toArray, List.set_cons_zero, List.set_cons_succ]
      refine org_pure (v := ?_) (by kernel_rfl) ?_ ?_
      rotate_left
      · intro w' hv; clear hv; go_simp; try with_reducible rfl
      try simp only [Act.put, List.setIfInBounds_toArray, List.set_cons_zero, List.set_cons_succ]
      refine org_pure (v := ?_) (by kernel_rfl) ?_ ?_
      rotate_left
      · intro w' hv; clear hv; go_simp; try with_reducible rfl
      try simp only [Act.put, List.setIfInBounds_toArray, List.set_cons_zero, List.set_cons_succ]
      refine org_pure (v := ?_) (by kernel_rfl) ?_ ?_
      rotate_left
      · intro w' hv; clear hv; go_simp; try with_reducible rfl
      try simp only [Act.put, List.setIfInBounds_toArray, List.set_cons_zero, List.set_cons_succ]
      refine org_pure (v := ?_) (by kernel_rfl) ?_ ?_
      rotate_left
      · intro w' hv; clear hv; go_simp; try with_reducible rfl
      try simp only [Act.put, List.setIfInBounds_toArray, List.set_cons_zero, List.set_cons_succ]
      refine org_pure (v := ?_) (by kernel_rfl) ?_ ?_
      rotate_left
      · intro w' hv; clear hv; go_simp; try with_reducible rfl
      try simp only [Act.put, List.setIfInBounds_toArray, List.set_cons_zero, List.set_cons_succ]
      refine org_pure (v := ?_) (by kernel_rfl) ?_ ?_
      rotate_left
      · intro w' hv; have cp := HCX.out w' (HB.out.trans (Below.mono hv HB.out.size)); clear hv; go_simp; try with_reducible rfl
      try simp only [Act.put, List.setIfInBounds_toArray, List.set_cons_zero, List.set_cons_succ]
      refine org_pure (v := ?_) (by kernel_rfl) ?_ ?_
      rotate_left
      · intro w' hv; clear hv; go_simp; try with_reducible rfl
      try simp only [Act.put, List.setIfInBounds_toArray, List.set_cons_zero, List.set_cons_succ]
      refine org_pure (v := ?_) (by kernel_rfl) ?_ ?_
      rotate_left
      · intro w' hv; have cq := (HX.out.keep hv HX.out.lt).cellv (i := 0) (v := .string x) rfl; clear hv; go_simp; try with_reducible rfl
      try simp only [Act.put, List.setIfInBounds_toArray, List.set_cons_zero, List.set_cons_succ]
      refine org_step (by kernel_rfl) (fun K hK => ?_)
      go_wp2_with fail
      refine (HCM.out _).mono ?_
      rintro e wx ⟨rfl, nq, hq⟩
      have hb : Below wd.heap.size wd wx := by rw [hq]; exact below_drewN (Below.refl _ _) _
      clear hq
      have HE2 := Lib.hid hb
      replace HB := Lib.hid (HB.out.trans (hb.mono HB.out.size))
      replace HX := Lib.hid (HX.out.keep hb HX.out.lt)
      clear hb
      refine hK _ _ ⟨HE2.out, ?_⟩
      clear hK HE2
      try simp only [Act.put, List.setIfInBounds_toArray, List.set_cons_zero, List.set_cons_succ]
      refine org_pure (v := ?_) (by kernel_rfl) ?_ ?_
      rotate_left
      · intro w' hv; clear hv; go_simp; try with_reducible rfl
      try simp only [Act.put, List.setIfInBounds_toArray, List.set_cons_zero, List.set_cons_succ]
      refine org_pure (v := ?_) (by kernel_rfl) ?_ ?_
      rotate_left
      · intro w' hv; clear hv; go_simp; try with_reducible rfl
      try simp only [Act.put, List.setIfInBounds_toArray, List.set_cons_zero, List.set_cons_succ]
      refine org_pure (v := ?_) (by kernel_rfl) ?_ ?_
      rotate_left
      · intro w' hv; clear hv; go_simp; try with_reducible rfl
      try simp only [Act.put, List.setIfInBounds_toArray, List.set_cons_zero, List.set_cons_succ]
      refine org_nil ?_
      go_wp2_with fail
      go_ret
      exact ⟨rfl, HB.out⟩
end Go.Proofs.YthpendoblgndcaaDoor
/- Contract: package tree's Good. Conditions: at most 10^5 entries, all bytes together at most 2^62, paths shorter than 2^63 bytes. -/
namespace Go.Proofs.YthpendoblgndcaaDoor
open Go.RowKit
theorem rowC_app (A B : List Ent) : rowC (A ++ B) = rowC A ++ rowC B := by unfold rowC; exact List.flatMap_append ..
theorem rowC_take (C : List Ent) (i : Nat) : rowC (C.take i) = (rowC C).take (3 * i) := by
  have h := congrArg rowC (List.take_append_drop i C)
  rw [rowC_app] at h
  by_cases hi : i ≤ C.length
  · rw [← h, List.take_left' (by rw [rowC_len, List.length_take, Nat.min_eq_left hi])]
  · rw [List.take_of_length_le (by omega), List.take_of_length_le (by rw [rowC_len]; omega)]
theorem Sees.headE {w : World} {b : Nat} {q : Option Addr} {C : List Ent} (h : Sees w b q (rowC C)) (i : Nat) : Sees w b q (rowC (C.take i)) := by
  rw [rowC_take]; exact h.head _
theorem AscE.snoc {C : List Ent} {e : Ent} (h : AscE C) (hp : prevB C.getLast? e.pa = true) : AscE (C ++ [e]) := by
  refine List.pairwise_append.2 ⟨h, List.pairwise_singleton .., fun a ha b hb => ?_⟩
  rw [List.mem_singleton.1 hb]
  obtain ⟨i, hi, rfl⟩ := List.getElem_of_mem ha
  have hl : C.length - 1 < C.length := by omega
  rw [List.getLast?_eq_getElem?, List.getElem?_eq_getElem hl] at hp
  have h1 : cmpL C[C.length - 1].pa e.pa < 0 := of_decide_eq_true hp
  rcases Nat.lt_or_ge i (C.length - 1) with h2 | h2
  · exact cmpL_lt_le (h.lt hi hl h2) (Int.le_of_lt h1)
  · have : i = C.length - 1 := by omega
    subst this
    exact h1
/-- Good, entry by entry, as package tree looks. -/
def goodQ : List Ent → List Ent → Bool
  | _, [] => true
  | pre, e :: r => okEnt e && (prevB pre.getLast? e.pa && (decide (roomT pre e.pa = 0) && goodQ (pre ++ [e]) r))
def goodP (C : List Ent) : Bool := fitsT C && goodQ [] C
theorem ok_size {p : ByteArray} (h : okPath p.data.toList = true) : p.size ≤ 68 := by
  have hj := jn_nms p.data.toList
  unfold okPath at h
  rw [Bool.and_eq_true, decide_eq_true_eq, List.all_eq_true] at h
  have hl := jn_len (T := nms p.data.toList) (fun n hn => ⟨h.2 n hn, nms_no _ n hn⟩)
  rw [hj] at hl
  have : p.size = p.data.toList.length := rfl
  omega
set_option maxHeartbeats 16000000 in
set_option maxRecDepth 100000 in
theorem tgood_any (C : List Ent) (q : Option Addr) (c : Nat) (hm : C.length ≤ 100000) (hcap : C.length ≤ c) (hb : bytesT C ≤ 4611686018427387904) (hn : ∀ e ∈ C, e.1.size < 9223372036854775808) (w : World) (hs : Sees w w.heap.size q (rowC C)) (hE : Ents w C) :
    Calls Tryd.prog 27 #[.agg #[.slice q C.length c]] w fun e w' => e = .returned (.bool (goodP C)) ∧ Below w.heap.size w w' := by
  have HFT := Lib.hid (fun w1 h1 h2 => tfits_any C q c hm hb w1 h1 h2)
  have HS := Lib.hid hs
  have HE := Lib.hid hE
  have HN := Lib.hid hn
  obtain ⟨V, hV⟩ : ∃ V, goodP C = V := ⟨_, rfl⟩
  rw [hV]
  unfold goodP at hV
  have HV := Lib.hid hV
  clear hs hE hn hV
  generalize fitsT C = F at *
  go_enter Tryd.func27, Tryd.ntmps27
  go_wp2_with fail
  refine (HFT.out _ ((HS.out.keep ((Below.refl _ w).alloc (Nat.le_refl _) _)).more (by simp)) (HE.out.keep ((Below.refl _ w).alloc (Nat.le_refl _) _))).mono ?_
  rintro e w1 ⟨rfl, hb1⟩
  have HT : Hid (Has w1 w.heap.size 25 [.slice q C.length c]) := Lib.hid (boxed hb1)
  have HB := Lib.hid (((Below.refl _ w).alloc (Nat.le_refl _) (.cells #[.slice q C.length c] 25)).trans (hb1.mono (by simp)))
  clear hb1 HFT
  cases F with
  | false =>
    have hv : V = false := HV.out.symm
    subst hv
    go_wp2_with fail
    go_ret
    exact ⟨rfl, HB.out⟩
  | true =>
  have HQ : Hid (goodQ [] C = V) := Lib.hid HV.out
  clear HV
  have ct := HT.out.cellv (i := 0) (v := .slice q C.length c) rfl
  go_wp2_with fail
  clear ct
  go_loopw [3, 4, 12, 14, 15, 16] (fun _ _ vi _ _ _ wr => ∃ i : Nat, i ≤ C.length ∧ vi = .int .i64 i ∧ goodQ (C.take i) (C.drop i) = V ∧ AscE (C.take i) ∧ Has wr w.heap.size 25 [.slice q C.length c] ∧ Below w.heap.size w wr) (fun _ _ vi _ _ _ _ => C.length - (intOf vi).toNat)
  case atStart => exact ⟨0, by omega, rfl, HQ.out, List.Pairwise.nil, HT.out, HB.out⟩
  case round =>
    rename_i wr
    clear HQ HT HB
    obtain ⟨i, hi, rfl, hq, hasc, hT, hB⟩ := hrel
    have HQ := Lib.hid hq
    have HA := Lib.hid hasc
    have HT := Lib.hid hT
    have HB := Lib.hid hB
    clear hq hasc hT hB
    by_cases hlt : i < C.length
    · obtain ⟨a, rfl, ha, hc⟩ := HS.out.ent hlt
      obtain ⟨c1, c2, c3⟩ := hc wr HB.out
      obtain ⟨qb, cb, hv, _, _, _⟩ := HE.out C[i] (List.getElem_mem hlt)
      have hsz := HN.out C[i] (List.getElem_mem hlt)
      have kk : (i : Int) < (C.length : Int) := by omega
      have kw : IntKind.i64.wrap (i : Int) = (i : Int) := IntWalk.i64_in _ (by omega)
      have kc : (i : Int) ≤ (c : Int) := by omega
      have kc2 : i ≤ c := by omega
      have hq := HQ.out
      have hdr : C.drop i = C[i] :: C.drop (i + 1) := List.drop_eq_getElem_cons hlt
      have htk : C.take (i + 1) = C.take i ++ [C[i]] := by rw [List.take_add_one, List.getElem?_eq_getElem hlt]; rfl
      rw [hdr, goodQ, ← htk] at hq
      have HNX : Hid (prevB (C.take i).getLast? C[i].pa = true → AscE (C.take (i + 1))) := Lib.hid (fun h => by rw [htk]; exact HA.out.snoc h)
      have HSI : Hid (∀ w', Below w.heap.size w w' → Sees w' w'.heap.size (some a) (rowC (C.take i))) := Lib.hid (fun w' h => ((HS.out.keep h).more h.size).headE i)
      obtain ⟨e, he⟩ : ∃ e, C[i] = e := ⟨_, rfl⟩
      rw [he] at c1 c2 c3 hv hsz hq HNX
      obtain ⟨x, d, bv, bb⟩ := e
      have hv' : bv = .slice qb (List.length bb) cb := hv
      subst hv'
      simp only [] at c1 c2 c3 hsz
      have hlen : (C.take i).length = i := by rw [List.length_take]; omega
      have HGE := Lib.hid (fun w1 => tgoodEntry_any x d qb cb bb hsz w1)
      have HBH := Lib.hid (fun w1 h => tbehind_any (C.take i) (some a) c x d (.slice qb bb.length cb) (fun e he => HN.out e (List.mem_of_mem_take he)) hsz w1 h (by omega))
      rw [hlen] at HBH
      have hpa : Ent.pa (x, d, Value.slice qb (List.length bb) cb, bb) = x.data.toList := rfl
      rw [hpa] at hq HNX
      have HSM : Hid (okEnt (x, d, .slice qb bb.length cb, bb) = true → x.size < 2305843009213693952) := Lib.hid (fun h => by
        unfold okEnt at h
        rw [Bool.and_eq_true, Bool.and_eq_true] at h
        have := ok_size (p := x) h.2.1
        omega)
      have HUI : Hid (x.size < 2305843009213693952 → ∀ w1 (_ : Sees w1 w1.heap.size (some a) (rowC (C.take i))), Calls Tryd.prog 34 #[.slice (some a) i c, .string x] w1 fun e w' => e = .returned (.int .i64 (roomT (C.take i) x.data.toList)) ∧ Below w1.heap.size w1 w') := Lib.hid (fun hxs w1 h => by
        have := tupIn_any (C.take i) (some a) c x (by omega) (fun e he => HN.out e (List.mem_of_mem_take he)) HA.out hxs w1 h
        rw [hlen] at this
        exact this)
      have HQ2 := Lib.hid hq
      clear hc ha he hv hdr htk hlen hpa hq HQ
      generalize okEnt (x, d, .slice qb bb.length cb, bb) = OK at *
      generalize prevB (C.take i).getLast? x.data.toList = PB at *
      generalize roomT (C.take i) x.data.toList = RM at *
      go_wp2_with fail
      have HX : Hid (Has (wr.alloc (.cells #[.string x, .bool d, .slice qb bb.length cb] 32)) wr.heap.size 32 [.string x, .bool d, .slice qb bb.length cb]) := Lib.hid (Has.made wr 32 #[.string x, .bool d, .slice qb bb.length cb])
      replace HT : Hid (Has (wr.alloc (.cells #[.string x, .bool d, .slice qb bb.length cb] 32)) w.heap.size 25 [.slice (some a) C.length c]) := Lib.hid (HT.out.alloc _)
      replace HB : Hid (Below w.heap.size w (wr.alloc (.cells #[.string x, .bool d, .slice qb bb.length cb] 32))) := Lib.hid (HB.out.alloc HB.out.size _)
      clear c1 c2 c3
      generalize wr.alloc (.cells #[.string x, .bool d, .slice qb bb.length cb] 32) = W1 at *
      generalize wr.heap.size = BX at *
      cases OK with
      | false =>
        have hv : V = false := HQ2.out.symm
        subst hv
        clear HNX HUI HBH HSM
        refine wp_region_org [(0, true), (1, false), (2, true), (3, true), (4, true), (5, true), (6, true), (7, true), (8, true), (9, false), (10, true), (11, true), (12, true), (13, true), (14, true), (15, true), (16, true), (17, true), (18, true), (19, false), (20, true), (21, true)] (by kernel_rfl) (by kernel_rfl) (by kernel_rfl) ?_
        replace HB := Lib.hid (HB.out.drew)
        replace HX := Lib.hid (HX.out.drew)
        replace HT := Lib.hid (HT.out.drew)
        generalize W1.drew = wd at *
        simp only [pickOrs, List.getElem?_cons_zero, List.getElem?_cons_succ]
        refine org_pure (v := ?_) (by kernel_rfl) ?_ ?_
        rotate_left
        · intro w' hv; obtain ⟨cx, cy, cz⟩ : w'.cell? ⟨BX, 0, none⟩ = some (.string x) ∧ w'.cell? ⟨BX, 1, none⟩ = some (.bool d) ∧ w'.cell? ⟨BX, 2, none⟩ = some (.slice qb bb.length cb) := ⟨(HX.out.keep hv HX.out.lt).cellv rfl, (HX.out.keep hv HX.out.lt).cellv rfl, (HX.out.keep hv HX.out.lt).cellv rfl⟩; clear hv; go_simp; try with_reducible rfl
        try simp only [Act.put, List.setIfInBounds_toArray, List.set_cons_zero, List.set_cons_succ]
        refine org_step (by kernel_rfl) (fun K hK => ?_)
        go_wp2_with fail
        refine (HGE.out _).mono ?_
        rintro e wx ⟨rfl, hb⟩
        have HE2 := Lib.hid hb
        replace HB := Lib.hid (HB.out.trans (hb.mono HB.out.size))
        replace HX := Lib.hid (HX.out.keep hb HX.out.lt)
        replace HT := Lib.hid (HT.out.keep hb HT.out.lt)
        clear hb
        refine hK _ _ ⟨HE2.out, ?_⟩
        clear hK HE2
        try simp only [Act.put, List.setIfInBounds_toArray, List.set_cons_zero, List.set_cons_succ]
        refine org_pure (v := ?_) (by kernel_rfl) ?_ ?_
        rotate_left
        · intro w' hv; clear hv; go_simp; try with_reducible rfl
        try simp only [Act.put, List.setIfInBounds_toArray, List.set_cons_zero, List.set_cons_succ]
        refine org_pure (v := ?_) (by kernel_rfl) ?_ ?_
        rotate_left
        · intro w' hv; clear hv; go_simp; try with_reducible rfl
        try simp only [Act.put, List.setIfInBounds_toArray, List.set_cons_zero, List.set_cons_succ]
        refine org_skip (by kernel_rfl) ?_
        try simp only [Act.put, List.setIfInBounds_toArray, List.set_cons_zero, List.set_cons_succ]
        refine org_skip (by kernel_rfl) ?_
        try simp only [Act.put, List.setIfInBounds_toArray, List.set_cons_zero, List.set_cons_succ]
        refine org_skip (by kernel_rfl) ?_
        try simp only [Act.put, List.setIfInBounds_toArray, List.set_cons_zero, List.set_cons_succ]
        refine org_skip (by kernel_rfl) ?_
        try simp only [Act.put, List.setIfInBounds_toArray, List.set_cons_zero, List.set_cons_succ]
        refine org_skip (by kernel_rfl) ?_
        try simp only [Act.put, List.setIfInBounds_toArray, List.set_cons_zero, List.set_cons_succ]
        refine org_pass (by kernel_rfl) ?_
        try simp only [Act.put, List.setIfInBounds_toArray, List.set_cons_zero, List.set_cons_succ]
        refine org_skip (by kernel_rfl) ?_
        try simp only [Act.put, List.setIfInBounds_toArray, List.set_cons_zero, List.set_cons_succ]
        refine org_pure (v := ?_) (by kernel_rfl) ?_ ?_
        rotate_left
        · intro w' hv; clear hv; go_simp; try with_reducible rfl
        try simp only [Act.put, List.setIfInBounds_toArray, List.set_cons_zero, List.set_cons_succ]
        refine org_pure (v := ?_) (by kernel_rfl) ?_ ?_
        rotate_left
        · intro w' hv; clear hv; go_simp; try with_reducible rfl
        try simp only [Act.put, List.setIfInBounds_toArray, List.set_cons_zero, List.set_cons_succ]
        refine org_skip (by kernel_rfl) ?_
        try simp only [Act.put, List.setIfInBounds_toArray, List.set_cons_zero, List.set_cons_succ]
        refine org_skip (by kernel_rfl) ?_
        try simp only [Act.put, List.setIfInBounds_toArray, List.set_cons_zero, List.set_cons_succ]
        refine org_skip (by kernel_rfl) ?_
        try simp only [Act.put, List.setIfInBounds_toArray, List.set_cons_zero, List.set_cons_succ]
        refine org_skip (by kernel_rfl) ?_
        try simp only [Act.put, List.setIfInBounds_toArray, List.set_cons_zero, List.set_cons_succ]
        refine org_skip (by kernel_rfl) ?_
        try simp only [Act.put, List.setIfInBounds_toArray, List.set_cons_zero, List.set_cons_succ]
        refine org_skip (by kernel_rfl) ?_
        try simp only [Act.put, List.setIfInBounds_toArray, List.set_cons_zero, List.set_cons_succ]
        refine org_pass (by kernel_rfl) ?_
        try simp only [Act.put, List.setIfInBounds_toArray, List.set_cons_zero, List.set_cons_succ]
        refine org_skip (by kernel_rfl) ?_
        try simp only [Act.put, List.setIfInBounds_toArray, List.set_cons_zero, List.set_cons_succ]
        refine org_pure (v := ?_) (by kernel_rfl) ?_ ?_
        rotate_left
        · intro w' hv; clear hv; go_simp; try with_reducible rfl
        try simp only [Act.put, List.setIfInBounds_toArray, List.set_cons_zero, List.set_cons_succ]
        refine org_nil ?_
        go_wp2_with fail
        go_ret
        exact ⟨rfl, HB.out⟩
      | true =>
        have hxs := HSM.out rfl
        clear HSM
        cases PB with
        | false =>
          have hv : V = false := HQ2.out.symm
          subst hv
          clear HNX HUI
          refine wp_region_org [(0, true), (1, false), (2, true), (3, true), (4, true), (5, true), (6, true), (7, true), (8, true), (9, false), (10, true), (11, true), (12, true), (13, true), (14, true), (15, true), (16, true), (17, true), (18, true), (19, false), (20, true), (21, true)] (by kernel_rfl) (by kernel_rfl) (by kernel_rfl) ?_
          replace HB := Lib.hid (HB.out.drew)
          replace HX := Lib.hid (HX.out.drew)
          replace HT := Lib.hid (HT.out.drew)
          generalize W1.drew = wd at *
          simp only [pickOrs, List.getElem?_cons_zero, List.getElem?_cons_succ]
          refine org_pure (v := ?_) (by kernel_rfl) ?_ ?_
          rotate_left
          · intro w' hv; obtain ⟨cx, cy, cz⟩ : w'.cell? ⟨BX, 0, none⟩ = some (.string x) ∧ w'.cell? ⟨BX, 1, none⟩ = some (.bool d) ∧ w'.cell? ⟨BX, 2, none⟩ = some (.slice qb bb.length cb) := ⟨(HX.out.keep hv HX.out.lt).cellv rfl, (HX.out.keep hv HX.out.lt).cellv rfl, (HX.out.keep hv HX.out.lt).cellv rfl⟩; clear hv; go_simp; try with_reducible rfl
          try simp only [Act.put, List.setIfInBounds_toArray, List.set_cons_zero, List.set_cons_succ]
          refine org_step (by kernel_rfl) (fun K hK => ?_)
          go_wp2_with fail
          refine (HGE.out _).mono ?_
          rintro e wx ⟨rfl, hb⟩
          have HE2 := Lib.hid hb
          replace HB := Lib.hid (HB.out.trans (hb.mono HB.out.size))
          replace HX := Lib.hid (HX.out.keep hb HX.out.lt)
          replace HT := Lib.hid (HT.out.keep hb HT.out.lt)
          clear hb
          refine hK _ _ ⟨HE2.out, ?_⟩
          clear hK HE2
          try simp only [Act.put, List.setIfInBounds_toArray, List.set_cons_zero, List.set_cons_succ]
          refine org_pure (v := ?_) (by kernel_rfl) ?_ ?_
          rotate_left
          · intro w' hv; clear hv; go_simp; try with_reducible rfl
          try simp only [Act.put, List.setIfInBounds_toArray, List.set_cons_zero, List.set_cons_succ]
          refine org_pure (v := ?_) (by kernel_rfl) ?_ ?_
          rotate_left
          · intro w' hv; clear hv; go_simp; try with_reducible rfl
          try simp only [Act.put, List.setIfInBounds_toArray, List.set_cons_zero, List.set_cons_succ]
          refine org_pure (v := ?_) (by kernel_rfl) ?_ ?_
          rotate_left
          · intro w' hv; clear hv; go_simp; try with_reducible rfl
          try simp only [Act.put, List.setIfInBounds_toArray, List.set_cons_zero, List.set_cons_succ]
          refine org_pure (v := ?_) (by kernel_rfl) ?_ ?_
          rotate_left
          · intro w' hv; have cx := (HT.out.keep hv HT.out.lt).cellv (i := 0) (v := .slice (some a) C.length c) rfl; clear hv; go_simp; try with_reducible rfl
          try simp only [Act.put, List.setIfInBounds_toArray, List.set_cons_zero, List.set_cons_succ]
          refine org_pure (v := ?_) (by kernel_rfl) ?_ ?_
          rotate_left
          · intro w' hv; clear hv; go_simp; try with_reducible rfl
          try simp only [Act.put, List.setIfInBounds_toArray, List.set_cons_zero, List.set_cons_succ]
          refine org_pure (v := ?_) (by kernel_rfl) ?_ ?_
          rotate_left
          · intro w' hv; clear hv; go_simp; try with_reducible rfl
          try simp only [Act.put, List.setIfInBounds_toArray, List.set_cons_zero, List.set_cons_succ]
          refine org_pure (v := ?_) (by kernel_rfl) ?_ ?_
          rotate_left
          · intro w' hv; obtain ⟨cx, cy, cz⟩ : w'.cell? ⟨BX, 0, none⟩ = some (.string x) ∧ w'.cell? ⟨BX, 1, none⟩ = some (.bool d) ∧ w'.cell? ⟨BX, 2, none⟩ = some (.slice qb bb.length cb) := ⟨(HX.out.keep hv HX.out.lt).cellv rfl, (HX.out.keep hv HX.out.lt).cellv rfl, (HX.out.keep hv HX.out.lt).cellv rfl⟩; clear hv; go_simp; try with_reducible rfl
          try simp only [Act.put, List.setIfInBounds_toArray, List.set_cons_zero, List.set_cons_succ]
          refine org_step (by kernel_rfl) (fun K hK => ?_)
          go_wp2_with fail
          refine (HBH.out _ (HSI.out _ HB.out)).mono ?_
          rintro e wy ⟨rfl, hb⟩
          have HE2 := Lib.hid hb
          replace HB := Lib.hid (HB.out.trans (hb.mono HB.out.size))
          replace HX := Lib.hid (HX.out.keep hb HX.out.lt)
          replace HT := Lib.hid (HT.out.keep hb HT.out.lt)
          clear hb
          refine hK _ _ ⟨HE2.out, ?_⟩
          clear hK HE2
          try simp only [Act.put, List.setIfInBounds_toArray, List.set_cons_zero, List.set_cons_succ]
          refine org_pure (v := ?_) (by kernel_rfl) ?_ ?_
          rotate_left
          · intro w' hv; clear hv; go_simp; try with_reducible rfl
          try simp only [Act.put, List.setIfInBounds_toArray, List.set_cons_zero, List.set_cons_succ]
          refine org_pure (v := ?_) (by kernel_rfl) ?_ ?_
          rotate_left
          · intro w' hv; clear hv; go_simp; try with_reducible rfl
          try simp only [Act.put, List.setIfInBounds_toArray, List.set_cons_zero, List.set_cons_succ]
          refine org_pure (v := ?_) (by kernel_rfl) ?_ ?_
          rotate_left
          · intro w' hv; clear hv; go_simp; try with_reducible rfl
          try simp only [Act.put, List.setIfInBounds_toArray, List.set_cons_zero, List.set_cons_succ]
          refine org_skip (by kernel_rfl) ?_
          try simp only [Act.put, List.setIfInBounds_toArray, List.set_cons_zero, List.set_cons_succ]
          refine org_skip (by kernel_rfl) ?_
          try simp only [Act.put, List.setIfInBounds_toArray, List.set_cons_zero, List.set_cons_succ]
          refine org_skip (by kernel_rfl) ?_
          try simp only [Act.put, List.setIfInBounds_toArray, List.set_cons_zero, List.set_cons_succ]
          refine org_skip (by kernel_rfl) ?_
          try simp only [Act.put, List.setIfInBounds_toArray, List.set_cons_zero, List.set_cons_succ]
          refine org_skip (by kernel_rfl) ?_
          try simp only [Act.put, List.setIfInBounds_toArray, List.set_cons_zero, List.set_cons_succ]
          refine org_skip (by kernel_rfl) ?_
          try simp only [Act.put, List.setIfInBounds_toArray, List.set_cons_zero, List.set_cons_succ]
          refine org_pass (by kernel_rfl) ?_
          try simp only [Act.put, List.setIfInBounds_toArray, List.set_cons_zero, List.set_cons_succ]
          refine org_skip (by kernel_rfl) ?_
          try simp only [Act.put, List.setIfInBounds_toArray, List.set_cons_zero, List.set_cons_succ]
          refine org_pure (v := ?_) (by kernel_rfl) ?_ ?_
          rotate_left
          · intro w' hv; clear hv; go_simp; try with_reducible rfl
          try simp only [Act.put, List.setIfInBounds_toArray, List.set_cons_zero, List.set_cons_succ]
          refine org_nil ?_
          go_wp2_with fail
          go_ret
          exact ⟨rfl, HB.out⟩
        | true =>
          by_cases hr : RM = 0
          · subst hr
            have hq3 : goodQ (C.take (i + 1)) (C.drop (i + 1)) = V := HQ2.out
            have HQ3 := Lib.hid hq3
            clear hq3 HQ2
            refine wp_region_org [(0, true), (1, false), (2, true), (3, true), (4, true), (5, true), (6, true), (7, true), (8, true), (9, false), (10, true), (11, true), (12, true), (13, true), (14, true), (15, true), (16, true), (17, true), (18, true), (19, false), (20, true), (21, true)] (by kernel_rfl) (by kernel_rfl) (by kernel_rfl) ?_
            replace HB := Lib.hid (HB.out.drew)
            replace HX := Lib.hid (HX.out.drew)
            replace HT := Lib.hid (HT.out.drew)
            generalize W1.drew = wd at *
            simp only [pickOrs, List.getElem?_cons_zero, List.getElem?_cons_succ]
            refine org_pure (v := ?_) (by kernel_rfl) ?_ ?_
            rotate_left
            · intro w' hv; obtain ⟨cx, cy, cz⟩ : w'.cell? ⟨BX, 0, none⟩ = some (.string x) ∧ w'.cell? ⟨BX, 1, none⟩ = some (.bool d) ∧ w'.cell? ⟨BX, 2, none⟩ = some (.slice qb bb.length cb) := ⟨(HX.out.keep hv HX.out.lt).cellv rfl, (HX.out.keep hv HX.out.lt).cellv rfl, (HX.out.keep hv HX.out.lt).cellv rfl⟩; clear hv; go_simp; try with_reducible rfl
            try simp only [Act.put, List.setIfInBounds_toArray, List.set_cons_zero, List.set_cons_succ]
            refine org_step (by kernel_rfl) (fun K hK => ?_)
            go_wp2_with fail
            refine (HGE.out _).mono ?_
            rintro e wx ⟨rfl, hb⟩
            have HE2 := Lib.hid hb
            replace HB := Lib.hid (HB.out.trans (hb.mono HB.out.size))
            replace HX := Lib.hid (HX.out.keep hb HX.out.lt)
            replace HT := Lib.hid (HT.out.keep hb HT.out.lt)
            clear hb
            refine hK _ _ ⟨HE2.out, ?_⟩
            clear hK HE2
            try simp only [Act.put, List.setIfInBounds_toArray, List.set_cons_zero, List.set_cons_succ]
            refine org_pure (v := ?_) (by kernel_rfl) ?_ ?_
            rotate_left
            · intro w' hv; clear hv; go_simp; try with_reducible rfl
            try simp only [Act.put, List.setIfInBounds_toArray, List.set_cons_zero, List.set_cons_succ]
            refine org_pure (v := ?_) (by kernel_rfl) ?_ ?_
            rotate_left
            · intro w' hv; clear hv; go_simp; try with_reducible rfl
            try simp only [Act.put, List.setIfInBounds_toArray, List.set_cons_zero, List.set_cons_succ]
            refine org_pure (v := ?_) (by kernel_rfl) ?_ ?_
            rotate_left
            · intro w' hv; clear hv; go_simp; try with_reducible rfl
            try simp only [Act.put, List.setIfInBounds_toArray, List.set_cons_zero, List.set_cons_succ]
            refine org_pure (v := ?_) (by kernel_rfl) ?_ ?_
            rotate_left
            · intro w' hv; have cx := (HT.out.keep hv HT.out.lt).cellv (i := 0) (v := .slice (some a) C.length c) rfl; clear hv; go_simp; try with_reducible rfl
            try simp only [Act.put, List.setIfInBounds_toArray, List.set_cons_zero, List.set_cons_succ]
            refine org_pure (v := ?_) (by kernel_rfl) ?_ ?_
            rotate_left
            · intro w' hv; clear hv; go_simp; try with_reducible rfl
            try simp only [Act.put, List.setIfInBounds_toArray, List.set_cons_zero, List.set_cons_succ]
            refine org_pure (v := ?_) (by kernel_rfl) ?_ ?_
            rotate_left
            · intro w' hv; clear hv; go_simp; try with_reducible rfl
            try simp only [Act.put, List.setIfInBounds_toArray, List.set_cons_zero, List.set_cons_succ]
            refine org_pure (v := ?_) (by kernel_rfl) ?_ ?_
            rotate_left
            · intro w' hv; obtain ⟨cx, cy, cz⟩ : w'.cell? ⟨BX, 0, none⟩ = some (.string x) ∧ w'.cell? ⟨BX, 1, none⟩ = some (.bool d) ∧ w'.cell? ⟨BX, 2, none⟩ = some (.slice qb bb.length cb) := ⟨(HX.out.keep hv HX.out.lt).cellv rfl, (HX.out.keep hv HX.out.lt).cellv rfl, (HX.out.keep hv HX.out.lt).cellv rfl⟩; clear hv; go_simp; try with_reducible rfl
            try simp only [Act.put, List.setIfInBounds_toArray, List.set_cons_zero, List.set_cons_succ]
            refine org_step (by kernel_rfl) (fun K hK => ?_)
            go_wp2_with fail
            refine (HBH.out _ (HSI.out _ HB.out)).mono ?_
            rintro e wy ⟨rfl, hb⟩
            have HE2 := Lib.hid hb
            replace HB := Lib.hid (HB.out.trans (hb.mono HB.out.size))
            replace HX := Lib.hid (HX.out.keep hb HX.out.lt)
            replace HT := Lib.hid (HT.out.keep hb HT.out.lt)
            clear hb
            refine hK _ _ ⟨HE2.out, ?_⟩
            clear hK HE2
            try simp only [Act.put, List.setIfInBounds_toArray, List.set_cons_zero, List.set_cons_succ]
            refine org_pure (v := ?_) (by kernel_rfl) ?_ ?_
            rotate_left
            · intro w' hv; clear hv; go_simp; try with_reducible rfl
            try simp only [Act.put, List.setIfInBounds_toArray, List.set_cons_zero, List.set_cons_succ]
            refine org_pure (v := ?_) (by kernel_rfl) ?_ ?_
            rotate_left
            · intro w' hv; clear hv; go_simp; try with_reducible rfl
            try simp only [Act.put, List.setIfInBounds_toArray, List.set_cons_zero, List.set_cons_succ]
            refine org_pure (v := ?_) (by kernel_rfl) ?_ ?_
            rotate_left
            · intro w' hv; clear hv; go_simp; try with_reducible rfl
            try simp only [Act.put, List.setIfInBounds_toArray, List.set_cons_zero, List.set_cons_succ]
            refine org_pure (v := ?_) (by kernel_rfl) ?_ ?_
            rotate_left
            · intro w' hv; clear hv; go_simp; try with_reducible rfl
            try simp only [Act.put, List.setIfInBounds_toArray, List.set_cons_zero, List.set_cons_succ]
            refine org_pure (v := ?_) (by kernel_rfl) ?_ ?_
            rotate_left
            · intro w' hv; have cx := (HT.out.keep hv HT.out.lt).cellv (i := 0) (v := .slice (some a) C.length c) rfl; clear hv; go_simp; try with_reducible rfl
            try simp only [Act.put, List.setIfInBounds_toArray, List.set_cons_zero, List.set_cons_succ]
            refine org_pure (v := ?_) (by kernel_rfl) ?_ ?_
            rotate_left
            · intro w' hv; clear hv; go_simp; try with_reducible rfl
            try simp only [Act.put, List.setIfInBounds_toArray, List.set_cons_zero, List.set_cons_succ]
            refine org_pure (v := ?_) (by kernel_rfl) ?_ ?_
            rotate_left
            · intro w' hv; clear hv; go_simp; try with_reducible rfl
            try simp only [Act.put, List.setIfInBounds_toArray, List.set_cons_zero, List.set_cons_succ]
            refine org_pure (v := ?_) (by kernel_rfl) ?_ ?_
            rotate_left
            · intro w' hv; clear hv; go_simp; try with_reducible rfl
            try simp only [Act.put, List.setIfInBounds_toArray, List.set_cons_zero, List.set_cons_succ]
            refine org_pure (v := ?_) (by kernel_rfl) ?_ ?_
            rotate_left
            · intro w' hv; obtain ⟨cx, cy, cz⟩ : w'.cell? ⟨BX, 0, none⟩ = some (.string x) ∧ w'.cell? ⟨BX, 1, none⟩ = some (.bool d) ∧ w'.cell? ⟨BX, 2, none⟩ = some (.slice qb bb.length cb) := ⟨(HX.out.keep hv HX.out.lt).cellv rfl, (HX.out.keep hv HX.out.lt).cellv rfl, (HX.out.keep hv HX.out.lt).cellv rfl⟩; clear hv; go_simp; try with_reducible rfl
            try simp only [Act.put, List.setIfInBounds_toArray, List.set_cons_zero, List.set_cons_succ]
            refine org_step (by kernel_rfl) (fun K hK => ?_)
            go_wp2_with fail
            refine (HUI.out hxs _ (HSI.out _ HB.out)).mono ?_
            rintro e wz ⟨rfl, hb⟩
            have HE2 := Lib.hid hb
            replace HB := Lib.hid (HB.out.trans (hb.mono HB.out.size))
            replace HX := Lib.hid (HX.out.keep hb HX.out.lt)
            replace HT := Lib.hid (HT.out.keep hb HT.out.lt)
            clear hb
            refine hK _ _ ⟨HE2.out, ?_⟩
            clear hK HE2
            try simp only [Act.put, List.setIfInBounds_toArray, List.set_cons_zero, List.set_cons_succ]
            refine org_pure (v := ?_) (by kernel_rfl) ?_ ?_
            rotate_left
            · intro w' hv; clear hv; go_simp; try with_reducible rfl
            try simp only [Act.put, List.setIfInBounds_toArray, List.set_cons_zero, List.set_cons_succ]
            refine org_pure (v := ?_) (by kernel_rfl) ?_ ?_
            rotate_left
            · intro w' hv; clear hv; go_simp; try with_reducible rfl
            try simp only [Act.put, List.setIfInBounds_toArray, List.set_cons_zero, List.set_cons_succ]
            refine org_nil ?_
            go_wp2_with fail
            go_roundw
            case rel => exact ⟨i + 1, by omega, by go_num, HQ3.out, HNX.out trivial, HT.out, HB.out⟩
            case measure => simp [intOf]; omega
          · have hv : V = false := by rw [← HQ2.out, decide_eq_false hr]; rfl
            subst hv
            have kr : (RM = 0) = False := eq_false hr
            have krb : (RM == 0) = false := by simpa using hr
            have krn : (RM != 0) = true := by simpa using hr
            clear HQ2 HNX
            refine wp_region_org [(0, true), (1, false), (2, true), (3, true), (4, true), (5, true), (6, true), (7, true), (8, true), (9, false), (10, true), (11, true), (12, true), (13, true), (14, true), (15, true), (16, true), (17, true), (18, true), (19, false), (20, true), (21, true)] (by kernel_rfl) (by kernel_rfl) (by kernel_rfl) ?_
            replace HB := Lib.hid (HB.out.drew)
            replace HX := Lib.hid (HX.out.drew)
            replace HT := Lib.hid (HT.out.drew)
            generalize W1.drew = wd at *
            simp only [pickOrs, List.getElem?_cons_zero, List.getElem?_cons_succ]
            refine org_pure (v := ?_) (by kernel_rfl) ?_ ?_
            rotate_left
            · intro w' hv; obtain ⟨cx, cy, cz⟩ : w'.cell? ⟨BX, 0, none⟩ = some (.string x) ∧ w'.cell? ⟨BX, 1, none⟩ = some (.bool d) ∧ w'.cell? ⟨BX, 2, none⟩ = some (.slice qb bb.length cb) := ⟨(HX.out.keep hv HX.out.lt).cellv rfl, (HX.out.keep hv HX.out.lt).cellv rfl, (HX.out.keep hv HX.out.lt).cellv rfl⟩; clear hv; go_simp; try with_reducible rfl
            try simp only [Act.put, List.setIfInBounds_toArray, List.set_cons_zero, List.set_cons_succ]
            refine org_step (by kernel_rfl) (fun K hK => ?_)
            go_wp2_with fail
            refine (HGE.out _).mono ?_
            rintro e wx ⟨rfl, hb⟩
            have HE2 := Lib.hid hb
            replace HB := Lib.hid (HB.out.trans (hb.mono HB.out.size))
            replace HX := Lib.hid (HX.out.keep hb HX.out.lt)
            replace HT := Lib.hid (HT.out.keep hb HT.out.lt)
            clear hb
            refine hK _ _ ⟨HE2.out, ?_⟩
            clear hK HE2
            try simp only [Act.put, List.setIfInBounds_toArray, List.set_cons_zero, List.set_cons_succ]
            refine org_pure (v := ?_) (by kernel_rfl) ?_ ?_
            rotate_left
            · intro w' hv; clear hv; go_simp; try with_reducible rfl
            try simp only [Act.put, List.setIfInBounds_toArray, List.set_cons_zero, List.set_cons_succ]
            refine org_pure (v := ?_) (by kernel_rfl) ?_ ?_
            rotate_left
            · intro w' hv; clear hv; go_simp; try with_reducible rfl
            try simp only [Act.put, List.setIfInBounds_toArray, List.set_cons_zero, List.set_cons_succ]
            refine org_pure (v := ?_) (by kernel_rfl) ?_ ?_
            rotate_left
            · intro w' hv; clear hv; go_simp; try with_reducible rfl
            try simp only [Act.put, List.setIfInBounds_toArray, List.set_cons_zero, List.set_cons_succ]
            refine org_pure (v := ?_) (by kernel_rfl) ?_ ?_
            rotate_left
            · intro w' hv; have cx := (HT.out.keep hv HT.out.lt).cellv (i := 0) (v := .slice (some a) C.length c) rfl; clear hv; go_simp; try with_reducible rfl
            try simp only [Act.put, List.setIfInBounds_toArray, List.set_cons_zero, List.set_cons_succ]
            refine org_pure (v := ?_) (by kernel_rfl) ?_ ?_
            rotate_left
            · intro w' hv; clear hv; go_simp; try with_reducible rfl
            try simp only [Act.put, List.setIfInBounds_toArray, List.set_cons_zero, List.set_cons_succ]
            refine org_pure (v := ?_) (by kernel_rfl) ?_ ?_
            rotate_left
            · intro w' hv; clear hv; go_simp; try with_reducible rfl
            try simp only [Act.put, List.setIfInBounds_toArray, List.set_cons_zero, List.set_cons_succ]
            refine org_pure (v := ?_) (by kernel_rfl) ?_ ?_
            rotate_left
            · intro w' hv; obtain ⟨cx, cy, cz⟩ : w'.cell? ⟨BX, 0, none⟩ = some (.string x) ∧ w'.cell? ⟨BX, 1, none⟩ = some (.bool d) ∧ w'.cell? ⟨BX, 2, none⟩ = some (.slice qb bb.length cb) := ⟨(HX.out.keep hv HX.out.lt).cellv rfl, (HX.out.keep hv HX.out.lt).cellv rfl, (HX.out.keep hv HX.out.lt).cellv rfl⟩; clear hv; go_simp; try with_reducible rfl
            try simp only [Act.put, List.setIfInBounds_toArray, List.set_cons_zero, List.set_cons_succ]
            refine org_step (by kernel_rfl) (fun K hK => ?_)
            go_wp2_with fail
            refine (HBH.out _ (HSI.out _ HB.out)).mono ?_
            rintro e wy ⟨rfl, hb⟩
            have HE2 := Lib.hid hb
            replace HB := Lib.hid (HB.out.trans (hb.mono HB.out.size))
            replace HX := Lib.hid (HX.out.keep hb HX.out.lt)
            replace HT := Lib.hid (HT.out.keep hb HT.out.lt)
            clear hb
            refine hK _ _ ⟨HE2.out, ?_⟩
            clear hK HE2
            try simp only [Act.put, List.setIfInBounds_toArray, List.set_cons_zero, List.set_cons_succ]
            refine org_pure (v := ?_) (by kernel_rfl) ?_ ?_
            rotate_left
            · intro w' hv; clear hv; go_simp; try with_reducible rfl
            try simp only [Act.put, List.setIfInBounds_toArray, List.set_cons_zero, List.set_cons_succ]
            refine org_pure (v := ?_) (by kernel_rfl) ?_ ?_
            rotate_left
            · intro w' hv; clear hv; go_simp; try with_reducible rfl
            try simp only [Act.put, List.setIfInBounds_toArray, List.set_cons_zero, List.set_cons_succ]
            refine org_pure (v := ?_) (by kernel_rfl) ?_ ?_
            rotate_left
            · intro w' hv; clear hv; go_simp; try with_reducible rfl
            try simp only [Act.put, List.setIfInBounds_toArray, List.set_cons_zero, List.set_cons_succ]
            refine org_pure (v := ?_) (by kernel_rfl) ?_ ?_
            rotate_left
            · intro w' hv; clear hv; go_simp; try with_reducible rfl
            try simp only [Act.put, List.setIfInBounds_toArray, List.set_cons_zero, List.set_cons_succ]
            refine org_pure (v := ?_) (by kernel_rfl) ?_ ?_
            rotate_left
            · intro w' hv; have cx := (HT.out.keep hv HT.out.lt).cellv (i := 0) (v := .slice (some a) C.length c) rfl; clear hv; go_simp; try with_reducible rfl
            try simp only [Act.put, List.setIfInBounds_toArray, List.set_cons_zero, List.set_cons_succ]
            refine org_pure (v := ?_) (by kernel_rfl) ?_ ?_
            rotate_left
            · intro w' hv; clear hv; go_simp; try with_reducible rfl
            try simp only [Act.put, List.setIfInBounds_toArray, List.set_cons_zero, List.set_cons_succ]
            refine org_pure (v := ?_) (by kernel_rfl) ?_ ?_
            rotate_left
            · intro w' hv; clear hv; go_simp; try with_reducible rfl
            try simp only [Act.put, List.setIfInBounds_toArray, List.set_cons_zero, List.set_cons_succ]
            refine org_pure (v := ?_) (by kernel_rfl) ?_ ?_
            rotate_left
            · intro w' hv; clear hv; go_simp; try with_reducible rfl
            try simp only [Act.put, List.setIfInBounds_toArray, List.set_cons_zero, List.set_cons_succ]
            refine org_pure (v := ?_) (by kernel_rfl) ?_ ?_
            rotate_left
            · intro w' hv; obtain ⟨cx, cy, cz⟩ : w'.cell? ⟨BX, 0, none⟩ = some (.string x) ∧ w'.cell? ⟨BX, 1, none⟩ = some (.bool d) ∧ w'.cell? ⟨BX, 2, none⟩ = some (.slice qb bb.length cb) := ⟨(HX.out.keep hv HX.out.lt).cellv rfl, (HX.out.keep hv HX.out.lt).cellv rfl, (HX.out.keep hv HX.out.lt).cellv rfl⟩; clear hv; go_simp; try with_reducible rfl
            try simp only [Act.put, List.setIfInBounds_toArray, List.set_cons_zero, List.set_cons_succ]
            refine org_step (by kernel_rfl) (fun K hK => ?_)
            go_wp2_with fail
            refine (HUI.out hxs _ (HSI.out _ HB.out)).mono ?_
            rintro e wz ⟨rfl, hb⟩
            have HE2 := Lib.hid hb
            replace HB := Lib.hid (HB.out.trans (hb.mono HB.out.size))
            replace HX := Lib.hid (HX.out.keep hb HX.out.lt)
            replace HT := Lib.hid (HT.out.keep hb HT.out.lt)
            clear hb
            refine hK _ _ ⟨HE2.out, ?_⟩
            clear hK HE2
            try simp only [Act.put, List.setIfInBounds_toArray, List.set_cons_zero, List.set_cons_succ]
            refine org_pure (v := ?_) (by kernel_rfl) ?_ ?_
            rotate_left
            · intro w' hv; clear hv; go_simp; try with_reducible rfl
            try simp only [Act.put, List.setIfInBounds_toArray, List.set_cons_zero, List.set_cons_succ]
            refine org_pure (v := ?_) (by kernel_rfl) ?_ ?_
            rotate_left
            · intro w' hv; clear hv; go_simp; try with_reducible rfl
            try simp only [Act.put, List.setIfInBounds_toArray, List.set_cons_zero, List.set_cons_succ]
            refine org_nil ?_
            go_wp2_with fail
            go_ret
            exact ⟨rfl, HB.out⟩
    · have hil : i = C.length := by omega
      subst hil
      have k0 : ¬ (C.length : Int) < (C.length : Int) := by omega
      have hv : V = true := by have h := HQ.out; rw [List.drop_length] at h; exact h.symm
      subst hv
      clear hlt HQ
      go_wp2_with fail
      go_ret
      exact ⟨rfl, HB.out⟩
end Go.Proofs.YthpendoblgndcaaDoor
/- Rows of entries in memory that a call owns: cloned, copied within, cleared. Contract: slices.Clone at entries. Condition: at most 10^6 entries. -/
namespace Go.Proofs.YthpendoblgndcaaDoor
open Go.RowKit
theorem ent_infoT : (Tryd.prog.info? 32).map (fun i => (i.zero, i.size, i.bytes)) = some (some (.agg #[.string ⟨#[]⟩, .bool false, .slice none 0 0]), 3, 48) := by kernel_rfl
/-- A row of entries of the call's own. -/
def OwnT (w : World) (base : Nat) (v : Value) (C : List Ent) : Prop := w.ownsRow base 32 3 v C.length (rowC C)
theorem OwnT.nil (w : World) (base : Nat) : OwnT w base (.slice none 0 0) [] := World.ownsRow_nil w base 32 3
theorem OwnT.tr {w : World} {base : Nat} {v : Value} {C : List Ent} (h : OwnT w base v C) : TrV w v C := by
  rcases h.2 with ⟨rfl, h0⟩ | ⟨g, cap, cur, rfl, hb, hg, h1, _⟩
  · have : C = [] := List.eq_nil_of_length_eq_zero h0
    subst this
    exact ⟨none, 0, rfl, Nat.le_refl _, fun _ => rfl, Sees.nil _ _ _⟩
  · refine ⟨_, cap, rfl, h1, fun e => by (cases e), fun _ => ⟨_, rfl, (Array.getElem?_eq_some_iff.1 hg).1, ?_⟩⟩
    exact World.ownsRow.cells h (g := g) rfl
theorem OwnT.keep {w w' : World} {base : Nat} {v : Value} {C : List Ent} (h : OwnT w base v C) (hb : Below w.heap.size w w') : OwnT w' base v C := own_below3 h hb
theorem OwnT.drew {w : World} {base : Nat} {v : Value} {C : List Ent} (h : OwnT w base v C) : OwnT w.drew base v C := World.ownsRow.drew h
/-- As a block whole. -/
theorem OwnT.has {w : World} {base : Nat} {v : Value} {C : List Ent} (h : OwnT w base v C) : (v = .slice none 0 0 ∧ C = []) ∨ ∃ g cap l, v = .slice (some ⟨g, 0, none⟩) C.length cap ∧ base ≤ g ∧ Has w g 32 (rowC C ++ l) ∧ C.length ≤ cap ∧ cap ≤ maxLen ∧ 3 * C.length + l.length = cap * 3 := by
  rcases h.2 with ⟨rfl, h0⟩ | ⟨g, cap, cur, rfl, hb, hg, h1, h2, h3, h4⟩
  · exact .inl ⟨rfl, List.eq_nil_of_length_eq_zero h0⟩
  · refine .inr ⟨g, cap, cur.toList.drop (C.length * 3), rfl, hb, ?_, h1, h2, ?_⟩
    · unfold Has
      rw [hg, ← h4, List.take_append_drop]
    · have h3' : cur.toList.length = cap * 3 := by rw [← h3]; exact Array.length_toList
      rw [List.length_drop, h3']
      have := Nat.mul_le_mul_right 3 h1
      omega
theorem OwnT.of {w : World} {base g cap : Nat} {C : List Ent} {l : List Value} (hb : base ≤ g) (hg : Has w g 32 (rowC C ++ l)) (h1 : C.length ≤ cap) (h2 : cap ≤ maxLen) (h3 : 3 * C.length + l.length = cap * 3) : OwnT w base (.slice (some ⟨g, 0, none⟩) C.length cap) C := by
  refine ⟨by rw [rowC_len, Nat.mul_comm], .inr ⟨g, cap, (rowC C ++ l).toArray, rfl, hb, hg, h1, h2, ?_, ?_⟩⟩
  · rw [List.size_toArray, List.length_append, rowC_len]; omega
  · simp only []
    rw [List.take_left' (by rw [rowC_len, Nat.mul_comm])]
theorem one_row {w : World} {C : List Ent} (h : Ents w C) : ∀ v ∈ rowC C, v.oneCell' = true := fun v hv => by
  obtain ⟨e, he, hv⟩ := List.mem_flatMap.1 hv
  obtain ⟨qb, cb, h1, _⟩ := h e he
  have h1' : e.2.2.1 = _ := h1
  simp only [entC, List.mem_cons, List.mem_nil_iff, or_false] at hv
  rcases hv with rfl | rfl | rfl
  · rfl
  · rfl
  · rw [h1']; rfl
set_option maxHeartbeats 1000000 in
set_option maxRecDepth 100000 in
theorem tclone_any (C : List Ent) (q : Option Addr) (c : Nat) (hm : C.length ≤ 1000000) (w : World) (hq : q = none → c = 0) (hs : Sees w w.heap.size q (rowC C)) (hE : Ents w C) :
    Calls Tryd.prog 37 #[.slice q C.length c] w fun e w' => (∃ v, e = .returned v ∧ OwnT w' w.heap.size v C) ∧ Below w.heap.size w w' := by
  have HS := Lib.hid hs
  have HO := Lib.hid (one_row hE)
  have hn := run_eql_slice_nil (P := Tryd.prog) w 23 32 q C.length c Tryd.underlying23
  clear hs hE
  rcases q with _ | a
  · have hx0 : C = [] := by
      rcases C with _ | ⟨y, l⟩
      · rfl
      · obtain ⟨a, h1, _⟩ := HS.out.get (by rw [rowC_len]; simp)
        cases h1
    subst hx0
    obtain rfl := hq rfl
    simp only [Option.isNone_none, List.length_nil] at hn
    clear hq
    go_enter Tryd.func37, Tryd.ntmps37
    go_wp2_with fail
    go_ret
    exact ⟨⟨_, rfl, OwnT.nil _ _⟩, Below.refl _ _⟩
  · clear hq
    simp only [Option.isNone_some] at hn
    obtain ⟨i0, hi, hz0, hz1, hz2⟩ := info_parts ent_infoT
    have ho : (w.alloc (.cells #[] 32)).ownsRow w.heap.size 32 3 (.slice (some ⟨w.heap.size, 0, none⟩) 0 0) 0 [] := World.ownsRow_made w #[] 0 (Nat.le_refl _) (by unfold maxLen; omega) (by simp)
    have HOW := Lib.hid ho
    have HB : Hid (Below w.heap.size w (w.alloc (.cells #[] 32))) := Lib.hid ((Below.refl _ _).alloc (Nat.le_refl _) _)
    clear ho
    by_cases hz : C = []
    · subst hz
      simp only [List.length_nil] at hn
      go_enter Tryd.func37, Tryd.ntmps37
      go_wp2_with (at_builtin; refine wpList_append_own _ rfl _ _ 23 rfl w.heap.size 32 i0 _ 3 48 Tryd.underlying23 hi hz0 hz1 hz2 rfl (by decide) _ 0 [] rfl HOW.out a 0 c [] rfl rfl (fun j u hj => by simp at hj) (by simp) (by unfold maxLen; omega) (by decide) HB.out.size ?_; intro v' w' h1 h2 _; have H1 := Lib.hid h1; have H2 := Lib.hid (HB.out.grown h2 HB.out.size (fun k hk => by have := HOW.out.lt k hk; omega)); clear h1 h2)
      go_ret
      exact ⟨⟨_, rfl, H1.out⟩, H2.out⟩
    · obtain ⟨a', e, _, hc⟩ := HS.out.get (by rw [rowC_len]; have := List.length_pos_iff.2 hz; omega)
      cases e
      have HC : Hid (∀ j u, (rowC C)[j]? = some u → (w.alloc (.cells #[] 32)).cell? (a.add j) = some u) := Lib.hid (fun j u hj => by
        obtain ⟨a', e, hb, hc⟩ := HS.out.get (by rw [rowC_len]; have := List.length_pos_iff.2 hz; omega)
        cases e
        exact (HB.out.cell (by rw [add_block]; exact hb)).trans (hc j u hj))
      clear hc hz
      go_enter Tryd.func37, Tryd.ntmps37
      go_wp2_with (at_builtin; refine wpList_append_own _ rfl _ _ 23 rfl w.heap.size 32 i0 _ 3 48 Tryd.underlying23 hi hz0 hz1 hz2 rfl (by decide) _ 0 [] rfl HOW.out a C.length c (rowC C) rfl (by rw [rowC_len, Nat.mul_comm]) HC.out HO.out (by unfold maxLen; omega) (by omega) HB.out.size ?_; intro v' w' h1 h2 _; rw [Nat.zero_add, List.nil_append] at h1; have H1 := Lib.hid h1; have H2 := Lib.hid (HB.out.grown h2 HB.out.size (fun k hk => by have := HOW.out.lt k hk; omega)); clear h1 h2)
      go_ret
      exact ⟨⟨_, rfl, H1.out⟩, H2.out⟩
/-- copy, at elements of k cells: all is read before anything is written. -/
theorem run_copy_cellsK {P : Program} (w : World) (dT sT ty elem : TypeId) (k b o dLen dCap : Nat) (a : Addr) (sLen sCap : Nat) (cs : List Value)
    (hu : P.underlying dT = some (.slice elem)) (hs : (P.info? elem).map (·.size) = some k) (hn : cs.length = Nat.min sLen dLen * k)
    (hsrc : ∀ j v, cs[j]? = some v → w.cell? (a.add j) = some v) (hc : ∀ j, j < cs.length → (w.cell? ⟨b, o + j, none⟩).isSome = true) (hf : ∀ j, j < cs.length → w.frozen? ⟨b, o + j, none⟩ = false) (h1 : ∀ v ∈ cs, v.oneCell' = true) :
    (Builtin.copy_ #[dT, sT] ty #[.slice (some ⟨b, o, none⟩) dLen dCap, .slice (some a) sLen sCap]).run P w = .ok (goInt (Nat.min sLen dLen)) (w.setCells b o cs) := by
  have hl := run_loadCells_list (P := P) w a cs hsrc
  have hst := run_storeCells_cells (P := P) b o cs 0 w (by simpa using hc) (by simpa using hf) h1
  cases hq : P.info? elem with
  | none => simp [hq] at hs
  | some i =>
    have hi : i.size = k := by simpa [hq] using hs
    simp [Builtin.copy_, run_underlying hu, Builtin.lenOf, Builtin.firstCells, sizeOf, typeInfo, hq, hi]
    simp only [Nat.min_def] at hn ⊢
    rw [← hn]
    simp [hl, hst]
end Go.Proofs.YthpendoblgndcaaDoor
/- Contract: slices.Insert of one entry into a row of entries that the call owns. Condition: at most 1000 entries. -/
namespace Go.Proofs.YthpendoblgndcaaDoor
open Go.RowKit
set_option maxHeartbeats 4000000 in
set_option maxRecDepth 100000 in
theorem tinsertEnd_any (C : List Ent) (e : Ent) (v : Value) (base g2 : Nat) (hm : C.length ≤ 1000) (w : World) (hO : OwnT w base v C) (hbase : base ≤ w.heap.size) (hg2 : Has w g2 32 (entC e)) (h1e : e.2.2.1.oneCell' = true) :
    Calls Tryd.prog 36 #[v, .int .i64 (C.length : Int), .slice (some ⟨g2, 0, none⟩) 1 1] w fun e' w' => (∃ v', e' = .returned v' ∧ OwnT w' base v' (C ++ [e])) ∧ Below base w w' := by
  obtain ⟨i0, hi, hz0, hz1, hz2⟩ := info_parts ent_infoT
  have HO := Lib.hid hO
  have HC : Hid (∀ j u, (entC e)[j]? = some u → w.cell? ((⟨g2, 0, none⟩ : Addr).add j) = some u) := Lib.hid (fun j u hj => by
    have e2 : (Addr.add ⟨g2, 0, none⟩ j) = ⟨g2, j, none⟩ := by unfold Addr.add; split <;> simp_all
    rw [e2]; exact hg2.cellv hj)
  have H1E : Hid (∀ u ∈ entC e, u.oneCell' = true) := Lib.hid (fun u hu => by
    simp only [entC, List.mem_cons, List.mem_nil_iff, or_false] at hu
    rcases hu with rfl | rfl | rfl
    · rfl
    · rfl
    · exact h1e)
  have HEL : Hid ((entC e).length = 1 * 3) := Lib.hid rfl
  have HR : ∀ v' w', w'.ownsRow base 32 3 v' (C.length + 1) (rowC C ++ entC e) → OwnT w' base v' (C ++ [e]) := fun v' w' h => by unfold OwnT; rw [rowC_add, List.length_append]; exact h
  have HRR := Lib.hid HR
  generalize entC e = ec at *
  rcases hO.has with ⟨rfl, rfl⟩ | ⟨g, cap, l, rfl, hb, hg, hcap, hcm, hl⟩
  · have H0 : Hid (w.ownsRow base 32 3 (.slice none 0 0) 0 []) := Lib.hid HO.out
    have HRR0 : Hid (∀ v' w', w'.ownsRow base 32 3 v' 1 ec → OwnT w' base v' [e]) := Lib.hid (fun v' w' h => HRR.out v' w' (by simpa [rowC] using h))
    have h0 : ([] : List Ent).length = 0 := rfl
    clear hO HO HR HRR hg2 h1e
    go_enter Tryd.func36, Tryd.ntmps36
    go_wp2_with (at_builtin; refine wpList_append_own _ rfl _ _ 23 rfl base 32 i0 _ 3 48 Tryd.underlying23 hi hz0 hz1 hz2 rfl (by decide) _ 0 [] rfl H0.out ⟨g2, 0, none⟩ 1 1 ec rfl HEL.out HC.out H1E.out (by unfold maxLen; omega) (by decide) hbase ?_; intro v' w' h1 h2 _; have H1 := Lib.hid (HRR0.out _ _ h1); have H2 := Lib.hid ((Below.refl base w).grown h2 hbase (fun k hk => (H0.out.lt k hk).1)); clear h1 h2)
    go_ret
    exact ⟨⟨_, rfl, H1.out⟩, H2.out⟩
  · have kc : (C.length : Int) ≤ (cap : Int) := by omega
    clear hO HR hg2 h1e hg
    have HOO : Hid (w.ownsRow base 32 3 (.slice (some ⟨g, 0, none⟩) C.length cap) C.length (rowC C)) := Lib.hid HO.out
    clear HO
    go_enter Tryd.func36, Tryd.ntmps36
    go_wp2_with (at_builtin; refine wpList_append_own _ rfl _ _ 23 rfl base 32 i0 _ 3 48 Tryd.underlying23 hi hz0 hz1 hz2 rfl (by decide) _ C.length (rowC C) rfl HOO.out ⟨g2, 0, none⟩ 1 1 ec rfl HEL.out HC.out H1E.out (by unfold maxLen; omega) (by omega) hbase ?_; intro v' w' h1 h2 _; have H1 := Lib.hid (HRR.out _ _ h1); have H2 := Lib.hid ((Below.refl base w).grown h2 hbase (fun k hk => (HOO.out.lt k hk).1)); clear h1 h2)
    all_goals (go_ret; exact ⟨⟨_, rfl, H1.out⟩, H2.out⟩)
theorem has_shape {w : World} {g : Nat} {t : TypeId} {l : List Value} (h : Has w g t l) : w.shape? g = some (t, l.length) := by
  unfold Has at h; simp [World.shape?, h]
set_option maxHeartbeats 8000000 in
set_option maxRecDepth 100000 in
theorem tinsertRoom_any (C : List Ent) (i g cap : Nat) (l ec : List Value) (g2 : Nat) (hi : i < C.length) (hm : C.length ≤ 1000) (w : World) (hg : Has w g 32 (rowC C ++ l)) (hcap : C.length + 1 ≤ cap) (hl : 3 * C.length + l.length = cap * 3) (h1C : ∀ v ∈ rowC C, v.oneCell' = true)
    (hg2 : Has w g2 32 ec) (hel : ec.length = 3) (h1e : ∀ v ∈ ec, v.oneCell' = true) (hne : g2 ≠ g) :
    Calls Tryd.prog 36 #[.slice (some ⟨g, 0, none⟩) C.length cap, .int .i64 (i : Int), .slice (some ⟨g2, 0, none⟩) 1 1] w fun e' w' => e' = .returned (.slice (some ⟨g, 0, none⟩) (C.length + 1) cap) ∧ w' = (w.drew.setCells g ((i + 1) * 3) (rowC (C.drop i))).setCells g (i * 3) ec := by
  have hlt : (rowC C ++ l).length = cap * 3 := by rw [List.length_append, rowC_len]; omega
  have hsz : (Tryd.prog.info? 32).map (·.size) = some 3 := by kernel_rfl
  have hdl : (rowC (C.drop i)).length = (C.length - i) * 3 := by rw [rowC_len, List.length_drop, Nat.mul_comm]
  have hov : ∀ lb cb, (callFunc 65 #[.slice (some ⟨g2, 0, none⟩) 1 1, .slice (some ⟨g, (i + 1) * 3, none⟩) lb cb]).run Tryd.prog w = .ok (.value (.bool false)) w := fun lb cb => by
    rw [run_callFunc_extern Tryd.func65 (by kernel_rfl) (by kernel_rfl) (by kernel_rfl) (e := Extern.SlicesOverlaps.overlaps #[23, 23] #[4]) (by kernel_rfl),
      Lib.run_overlaps_apart w 23 4 32 Tryd.underlying23 3 Tryd.sizeOf32 ⟨g2, 0, none⟩ ⟨g, (i + 1) * 3, none⟩ 1 1 lb cb hne 32 32 ec.length (rowC C ++ l).length (has_shape hg2) (has_shape hg) (by rw [hlt]; omega) (hg2.free _) (hg2.free _)]
    rfl
  have hw1 : IntKind.i64.wrap ((i : Int) + 1) = (i : Int) + 1 := by rw [IntWalk.i64_in _ (by omega)]
  have hw2 : IntKind.i64.wrap ((C.length : Int) + 1) = (C.length : Int) + 1 := by rw [IntWalk.i64_in _ (by omega)]
  have hz2 : ((i : Int) = (C.length : Int)) = False := eq_false (by omega)
  have hz3 : ((cap : Int) < (C.length : Int) + 1) = False := eq_false (by omega)
  have hz4 : (i : Int) ≤ (C.length : Int) := by omega
  have hz5 : (C.length : Int) + 1 ≤ (cap : Int) := by omega
  have hz6 : (i : Int) + 1 ≤ (C.length : Int) + 1 := by omega
  have hz7 : (i : Int) ≤ (C.length : Int) + 1 := by omega
  have hb2 : (cap = i + 1) = False := eq_false (by omega)
  have hb4 : (cap = i) = False := eq_false (by omega)
  have htn : ((i : Int) + 1).toNat = i + 1 := by omega
  have hb1 : (0 : Int) ≤ (i : Int) + 1 := by omega
  have mixed : Tryd.prog.follows .mixedOrders = true := by kernel_rfl
  have htn2 : ((C.length : Int) + 1).toNat = C.length + 1 := by omega
  have hcp1 : ∀ ty dc sc, (Builtin.copy_ #[23, 23] ty #[.slice (some ⟨g, (i + 1) * 3, none⟩) (C.length - i) dc, .slice (some ⟨g, i * 3, none⟩) (C.length + 1 - i) sc]).run Tryd.prog w.drew = .ok (goInt ((C.length - i : Nat) : Int)) (w.drew.setCells g ((i + 1) * 3) (rowC (C.drop i))) := fun ty dc sc => by
    have h := run_copy_cellsK (P := Tryd.prog) w.drew 23 23 ty 32 3 g ((i + 1) * 3) (C.length - i) dc ⟨g, i * 3, none⟩ (C.length + 1 - i) sc (rowC (C.drop i)) Tryd.underlying23 hsz
      (by rw [hdl]; simp only [Nat.min_def]; split <;> omega)
      (fun j v hj => by
        rw [Addr.add_lit]
        refine hg.drew.cellv ?_
        have h3 : rowC C = rowC (C.take i) ++ rowC (C.drop i) := by rw [← rowC_app, List.take_append_drop]
        have h4 : (rowC (C.take i)).length = i * 3 := by rw [rowC_len, List.length_take]; omega
        rw [List.getElem?_append_left (by have := (List.getElem?_eq_some_iff.1 hj).1; rw [rowC_len]; omega), h3, List.getElem?_append_right (by omega), h4, Nat.add_sub_cancel_left]
        exact hj)
      (fun j hj => by rw [hg.drew.cell, List.getElem?_eq_getElem (by rw [hlt]; omega)]; rfl)
      (fun j hj => hg.drew.free _) (fun v hv => h1C v (by
        obtain ⟨e, he, hv⟩ := List.mem_flatMap.1 hv
        exact List.mem_flatMap.2 ⟨e, List.mem_of_mem_drop he, hv⟩))
    rw [h]
    congr 2
    simp only [Nat.min_def]
    split <;> omega
  obtain ⟨W1, hW1⟩ : ∃ W1, W1 = w.drew.setCells g ((i + 1) * 3) (rowC (C.drop i)) := ⟨_, rfl⟩
  have hgW : Has W1 g 32 ((rowC C ++ l).take ((i + 1) * 3) ++ rowC (C.drop i) ++ (rowC C ++ l).drop ((i + 1) * 3 + (rowC (C.drop i)).length)) := by
    rw [hW1]; exact Has.mid _ _ _ _ hg.drew (by rw [hdl, hlt]; omega)
  have hgl : ((rowC C ++ l).take ((i + 1) * 3) ++ rowC (C.drop i) ++ (rowC C ++ l).drop ((i + 1) * 3 + (rowC (C.drop i)).length)).length = cap * 3 := by
    rw [List.length_append, List.length_append, List.length_take, List.length_drop, hdl, hlt]; omega
  have hg2W : Has W1 g2 32 ec := by rw [hW1]; exact Has.offMid hne _ _ _ hg2.drew
  generalize ((rowC C ++ l).take ((i + 1) * 3) ++ rowC (C.drop i) ++ (rowC C ++ l).drop ((i + 1) * 3 + (rowC (C.drop i)).length)) = LW at *
  have hcp2 : ∀ (W : World), (∀ x, W.cell? x = W1.cell? x) → (∀ x, W.frozen? x = W1.frozen? x) → ∀ ty dc, (Builtin.copy_ #[23, 23] ty #[.slice (some ⟨g, i * 3, none⟩) (C.length + 1 - i) dc, .slice (some ⟨g2, 0, none⟩) 1 1]).run Tryd.prog W = .ok (goInt 1) (W.setCells g (i * 3) ec) := fun W hWc hWf ty dc => by
    have h := run_copy_cellsK (P := Tryd.prog) W 23 23 ty 32 3 g (i * 3) (C.length + 1 - i) dc ⟨g2, 0, none⟩ 1 1 ec Tryd.underlying23 hsz
      (by rw [hel]; simp only [Nat.min_def]; split <;> omega)
      (fun j v hj => by
        rw [Addr.add_lit, Nat.zero_add, hWc]
        exact hg2W.cellv hj)
      (fun j hj => by rw [hWc, hgW.cell, List.getElem?_eq_getElem (by rw [hgl]; omega)]; rfl)
      (fun j hj => by rw [hWf]; exact hgW.free _) h1e
    rw [h]
    congr 2
    simp only [Nat.min_def]
    split <;> omega
  rw [← hW1] at hcp1
  clear hcap hl hgW hg2W hg hg2
  go_enter Tryd.func36, Tryd.ntmps36
  go_wp2_with (simp only [hov])
  go_region_law_o (refine step_copy_runI rfl _ _ 23 23 rfl _ _ (by simp [Act.eval, Act.put]) (by simp [Act.eval, Act.put]) (hcp1 _ _ _) ?_)
  go_wp2_with (at_builtin; refine wpList_copy_runI _ rfl _ _ 23 23 rfl _ _ rfl rfl (hcp2 _ (fun _ => rfl) (fun _ => rfl) _ _) ?_)
  go_ret
  first | exact ⟨rfl, rfl⟩ | exact ⟨rfl, by rw [hW1]⟩
theorem zeroC_len (n : Nat) : (Builtin.zeroCells (Value.agg #[.string ⟨#[]⟩, .bool false, .slice none 0 0]).cells n).size = n * 3 := by rw [size_zeroCells]; rfl
set_option maxHeartbeats 8000000 in
set_option maxRecDepth 100000 in
theorem tinsertGrow_any (C : List Ent) (i g : Nat) (ec : List Value) (g2 : Nat) (hi : i < C.length) (hm : C.length ≤ 1000) (w : World) (hg : Has w g 32 (rowC C)) (h1C : ∀ v ∈ rowC C, v.oneCell' = true)
    (hg2 : Has w g2 32 ec) (hel : ec.length = 3) (h1e : ∀ v ∈ ec, v.oneCell' = true) :
    Calls Tryd.prog 36 #[.slice (some ⟨g, 0, none⟩) C.length C.length, .int .i64 (i : Int), .slice (some ⟨g2, 0, none⟩) 1 1] w fun e' w' => ∃ (G : Nat) (ROW : Array Value), C.length + 1 ≤ G ∧ G ≤ maxLen ∧ ROW.size = G * 3 ∧ ROW.toList.take (i * 3) = rowC (C.take i) ∧ e' = .returned (.slice (some ⟨w.heap.size, 0, none⟩) (C.length + 1) G) ∧
      w' = (((w.alloc (.cells ROW 32)).drew.setCells w.heap.size (i * 3) ec).drew).setCells w.heap.size ((i + 1) * 3) (rowC (C.drop i)) := by
  obtain ⟨i0, hi0, hz0, hzs, hzb⟩ := info_parts ent_infoT
  have hsz : (Tryd.prog.info? 32).map (·.size) = some 3 := by kernel_rfl
  have hdl : (rowC (C.drop i)).length = (C.length - i) * 3 := by rw [rowC_len, List.length_drop, Nat.mul_comm]
  have htl : (rowC (C.take i)).length = i * 3 := by rw [rowC_len, List.length_take]; omega
  have hrs : rowC C = rowC (C.take i) ++ rowC (C.drop i) := by rw [← rowC_app, List.take_append_drop]
  have hbw := hg.lt
  have hvw := hg2.lt
  have hkk : (C.length : Int) + 1 - (i : Int) = ((C.length + 1 - i : Nat) : Int) := by omega
  have hik : i + (C.length + 1 - i) = C.length + 1 := by omega
  have hold : (Builtin.firstCells i0.size i (.slice (some ⟨g, 0, none⟩) i C.length)).run Tryd.prog w.drew = .ok (rowC (C.take i)).toArray w.drew := by
    rw [hzs]
    exact run_firstCells_some w.drew 3 i ⟨g, 0, none⟩ i C.length (rowC (C.take i)) htl (fun j v hj => by
      rw [Addr.add_lit, Nat.zero_add]
      refine hg.drew.cellv ?_
      rw [hrs, List.getElem?_append_left (List.getElem?_eq_some_iff.1 hj).1]
      exact hj)
  obtain ⟨z, hz⟩ : ∃ z : Value, z = .agg #[.string ⟨#[]⟩, .bool false, .slice none 0 0] := ⟨_, rfl⟩
  have hzl : ∀ n, (Builtin.zeroCells z.cells n).size = n * 3 := fun n => by rw [hz]; exact zeroC_len n
  rw [← hz] at hz0
  have hrz : ∀ ty, (Builtin.append_ #[23, 3] ty #[.slice (some ⟨g, 0, none⟩) i C.length, .int .i64 ((C.length : Int) + 1 - (i : Int))]).run Tryd.prog w =
      .ok (.slice (some ⟨w.heap.size, 0, none⟩) (C.length + 1) (grownCap w (C.length + 1) C.length 32)) (w.drew.alloc (.cells ((rowC (C.take i)).toArray ++ Builtin.zeroCells z.cells (C.length + 1 - i) ++ Builtin.zeroCells z.cells (grownCap w (C.length + 1) C.length 32 - (C.length + 1))) 32)) := fun ty => by
    have h := Lib.run_append_grow_zeros (P := Tryd.prog) w 23 3 ty 32 i0 _ .i64 .i64 Tryd.underlying23 Tryd.underlying3 hi0 hz0 (some ⟨g, 0, none⟩) i C.length (rowC (C.take i)) hold (C.length + 1 - i) (by omega) (by omega) (by omega) (by omega) (by rw [hzb]; omega) (by rw [hzb, hik]; exact growslice_fits (by omega) (by omega))
    rw [hik] at h
    rw [hkk]
    exact h
  obtain ⟨G, hG⟩ : ∃ G, G = grownCap w (C.length + 1) C.length 32 := ⟨_, rfl⟩
  obtain ⟨ROW, hROW⟩ : ∃ ROW : Array Value, ROW = (rowC (C.take i)).toArray ++ Builtin.zeroCells z.cells (C.length + 1 - i) ++ Builtin.zeroCells z.cells (G - (C.length + 1)) := ⟨_, rfl⟩
  rw [← hG] at hrz
  rw [← hROW] at hrz
  have hGn : C.length + 1 ≤ G := by rw [hG]; exact grownCap_ge w _ _ _
  have hGM : G ≤ maxLen := by rw [hG]; exact grownCap_le_maxLen w (C.length + 1) C.length 32 (by unfold maxLen; omega)
  have hG63 : G ≤ 9223372036854775807 := by have h := hGM; unfold maxLen at h; omega
  have hRs : ROW.size = G * 3 := by
    rw [hROW, Array.size_append, Array.size_append, hzl, hzl, List.size_toArray, htl]; omega
  have hRt : ROW.toList.take (i * 3) = rowC (C.take i) := by
    rw [hROW, Array.toList_append, Array.toList_append, List.append_assoc]
    exact List.take_left' htl
  have HRES : Hid (C.length + 1 ≤ G ∧ G ≤ maxLen ∧ ROW.size = G * 3 ∧ ROW.toList.take (i * 3) = rowC (C.take i)) := Lib.hid ⟨hGn, hGM, hRs, hRt⟩
  have hRl : (C.length + 1) * 3 ≤ ROW.size := by rw [hRs]; omega
  obtain ⟨W1, hW1⟩ : ∃ W1, W1 = w.drew.alloc (.cells ROW 32) := ⟨_, rfl⟩
  rw [← hW1] at hrz
  have hN : Has W1 w.heap.size 32 ROW.toList := by rw [hW1]; exact Has.made w.drew 32 ROW
  have hOb : Has W1 g 32 (rowC C) := by rw [hW1]; exact hg.drew.alloc _
  have hOv : Has W1 g2 32 ec := by rw [hW1]; exact hg2.drew.alloc _
  have hNl : ROW.toList.length = ROW.size := Array.length_toList
  have hcpA : ∀ (W : World), (∀ x, W.cell? x = W1.cell? x) → (∀ x, W.frozen? x = W1.frozen? x) → ∀ ty dc, (Builtin.copy_ #[23, 23] ty #[.slice (some ⟨w.heap.size, i * 3, none⟩) (C.length + 1 - i) dc, .slice (some ⟨g2, 0, none⟩) 1 1]).run Tryd.prog W = .ok (goInt 1) (W.setCells w.heap.size (i * 3) ec) := fun W hWc hWf ty dc => by
    have h := run_copy_cellsK (P := Tryd.prog) W 23 23 ty 32 3 w.heap.size (i * 3) (C.length + 1 - i) dc ⟨g2, 0, none⟩ 1 1 ec Tryd.underlying23 hsz (by rw [hel]; simp only [Nat.min_def]; split <;> omega)
      (fun j v hj => by rw [Addr.add_lit, Nat.zero_add, hWc]; exact hOv.cellv hj)
      (fun j hj => by rw [hWc, hN.cell, List.getElem?_eq_getElem (by omega)]; rfl) (fun j hj => by rw [hWf]; exact hN.free _) h1e
    rw [h]
    congr 2
    simp only [Nat.min_def]
    split <;> omega
  have hGi : (G = i) = False := eq_false (by omega)
  have hGim : (G = i + 1) = False := eq_false (by omega)
  have hci : (C.length = i) = False := eq_false (by omega)
  have hbN : g ≠ w.heap.size := by omega
  have hN2 : Has (W1.setCells w.heap.size (i * 3) ec) w.heap.size 32 (ROW.toList.take (i * 3) ++ ec ++ ROW.toList.drop (i * 3 + ec.length)) := Has.mid _ _ _ _ hN (by omega)
  have hN2l : (ROW.toList.take (i * 3) ++ ec ++ ROW.toList.drop (i * 3 + ec.length)).length = ROW.size := by
    rw [List.length_append, List.length_append, List.length_take, List.length_drop, hel, hNl]; omega
  have hOb2 : Has (W1.setCells w.heap.size (i * 3) ec) g 32 (rowC C) := Has.offMid hbN _ _ _ hOb
  have hcpB : ∀ (W : World), (∀ x, W.cell? x = (W1.setCells w.heap.size (i * 3) ec).cell? x) → (∀ x, W.frozen? x = (W1.setCells w.heap.size (i * 3) ec).frozen? x) → ∀ ty dc sc, (Builtin.copy_ #[23, 23] ty #[.slice (some ⟨w.heap.size, (i + 1) * 3, none⟩) (C.length - i) dc, .slice (some ⟨g, i * 3, none⟩) (C.length - i) sc]).run Tryd.prog W = .ok (goInt ((C.length - i : Nat) : Int)) (W.setCells w.heap.size ((i + 1) * 3) (rowC (C.drop i))) := fun W hWc hWf ty dc sc => by
    have h := run_copy_cellsK (P := Tryd.prog) W 23 23 ty 32 3 w.heap.size ((i + 1) * 3) (C.length - i) dc ⟨g, i * 3, none⟩ (C.length - i) sc (rowC (C.drop i)) Tryd.underlying23 hsz (by rw [hdl]; simp only [Nat.min_def]; split <;> omega)
      (fun j v hj => by
        rw [Addr.add_lit, hWc]
        refine hOb2.cellv ?_
        rw [hrs, List.getElem?_append_right (by omega), htl, Nat.add_sub_cancel_left]
        exact hj)
      (fun j hj => by rw [hWc, hN2.cell, List.getElem?_eq_getElem (by rw [hN2l]; omega)]; rfl)
      (fun j hj => by rw [hWf]; exact hN2.free _) (fun v hv => h1C v (by
        obtain ⟨e, he, hv⟩ := List.mem_flatMap.1 hv
        exact List.mem_flatMap.2 ⟨e, List.mem_of_mem_drop he, hv⟩))
    rw [h]
    congr 2
    simp only [Nat.min_def]
    split <;> omega
  subst hW1
  have hE1 : ∀ x, ((w.alloc (.cells ROW 32)).drew).cell? x = (w.drew.alloc (.cells ROW 32)).cell? x := fun x => rfl
  have hE2 : ∀ x, ((w.alloc (.cells ROW 32)).drew).frozen? x = (w.drew.alloc (.cells ROW 32)).frozen? x := fun x => rfl
  have hF1 : ∀ x, (((w.alloc (.cells ROW 32)).drew.setCells w.heap.size (i * 3) ec).drew).cell? x = ((w.drew.alloc (.cells ROW 32)).setCells w.heap.size (i * 3) ec).cell? x := fun x => rfl
  have hF2 : ∀ x, (((w.alloc (.cells ROW 32)).drew.setCells w.heap.size (i * 3) ec).drew).frozen? x = ((w.drew.alloc (.cells ROW 32)).setCells w.heap.size (i * 3) ec).frozen? x := fun x => rfl
  have hw1 : IntKind.i64.wrap ((i : Int) + 1) = (i : Int) + 1 := by rw [IntWalk.i64_in _ (by omega)]
  have hw2 : IntKind.i64.wrap ((C.length : Int) + 1) = (C.length : Int) + 1 := by rw [IntWalk.i64_in _ (by omega)]
  have hw3 : IntKind.i64.wrap ((C.length : Int) + 1 - (i : Int)) = (C.length : Int) + 1 - (i : Int) := by rw [IntWalk.i64_in _ (by omega)]
  have hz2 : ((i : Int) = (C.length : Int)) = False := eq_false (by omega)
  have hz3 : (C.length : Int) < (C.length : Int) + 1 := by omega
  have hb1 : (0 : Int) ≤ (i : Int) + 1 := by omega
  have hb3 : (i : Int) ≤ (C.length : Int) := by omega
  have hb5 : (i : Int) ≤ (C.length : Int) + 1 := by omega
  have hb6 : (i : Int) + 1 ≤ (C.length : Int) + 1 := by omega
  have htn : ((i : Int) + 1).toNat = i + 1 := by omega
  have mixed : Tryd.prog.follows .mixedOrders = true := by kernel_rfl
  clear hkk hik hold hROW hG hRl hN hOb hOv hN2 hN2l hOb2 hRs hRt hNl hrs hg hg2 hz0 hz hzl
  go_enter Tryd.func36, Tryd.ntmps36
  go_wp2_with (first
    | (at_builtin; refine Lib.wpList_append_run _ rfl _ _ _ _ rfl _ _ rfl rfl _ _ (hrz _) ?_)
    | (at_builtin; refine wpList_copy_runI _ rfl _ _ 23 23 rfl _ _ rfl rfl (hcpA _ hE1 hE2 _ _) ?_)
    | (at_builtin; refine wpList_copy_runI _ rfl _ _ 23 23 rfl _ _ rfl rfl (hcpB _ (fun _ => rfl) (fun _ => rfl) _ _ _) ?_))
  go_region_law_o (refine step_copy_runI rfl _ _ 23 23 rfl (.slice (some ⟨w.heap.size, (i + 1) * 3, none⟩) (C.length - i) (G - (i + 1))) (.slice (some ⟨g, i * 3, none⟩) (C.length - i) (C.length - i)) (by simp [Act.eval, Act.put]) (by simp [Act.eval, Act.put]) (hcpB _ hF1 hF2 3 (G - (i + 1)) (C.length - i)) ?_)
  go_wp2
  go_ret
  exact ⟨G, ROW, HRES.out.1, HRES.out.2.1, HRES.out.2.2.1, HRES.out.2.2.2, rfl, rfl⟩
end Go.Proofs.YthpendoblgndcaaDoor
/- Contract: slices.Insert of one entry into a row of entries that the call owns, whole. Condition: at most 1000 entries. -/
namespace Go.Proofs.YthpendoblgndcaaDoor
open Go.RowKit
theorem one_ent {e : Ent} (h : e.2.2.1.oneCell' = true) : ∀ u ∈ entC e, u.oneCell' = true := fun u hu => by
  simp only [entC, List.mem_cons, List.mem_nil_iff, or_false] at hu
  rcases hu with rfl | rfl | rfl
  · rfl
  · rfl
  · exact h
theorem below_drew {b : Nat} {a w : World} (h : Below b a w) : Below b a w.drew := ⟨h.os, h.tape, h.output, h.size, h.block⟩
theorem tinsert_any (C : List Ent) (e : Ent) (i : Nat) (v : Value) (base g2 : Nat) (hi : i ≤ C.length) (hm : C.length ≤ 1000) (w : World) (hO : OwnT w base v C) (hbase : base ≤ w.heap.size) (hg2 : Has w g2 32 (entC e)) (h1C : ∀ u ∈ rowC C, u.oneCell' = true) (h1e : e.2.2.1.oneCell' = true) (hne : ∀ k, Value.ownBlock v = some k → g2 ≠ k) :
    Calls Tryd.prog 36 #[v, .int .i64 (i : Int), .slice (some ⟨g2, 0, none⟩) 1 1] w fun e' w' => (∃ v', e' = .returned v' ∧ OwnT w' base v' (C.take i ++ e :: C.drop i)) ∧ Below base w w' := by
  by_cases hil : i = C.length
  · subst hil
    rw [List.take_length, List.drop_length]
    exact tinsertEnd_any C e v base g2 hm w hO hbase hg2 h1e
  · have hlt : i < C.length := by omega
    have hrow : rowC (C.take i ++ e :: C.drop i) = rowC (C.take i) ++ (entC e ++ rowC (C.drop i)) := by rw [rowC_app, rowC_cons]
    have hlen : (C.take i ++ e :: C.drop i).length = C.length + 1 := by rw [List.length_append, List.length_cons, List.length_take, List.length_drop]; omega
    have htl : (rowC (C.take i)).length = i * 3 := by rw [rowC_len, List.length_take]; omega
    have hdl : (rowC (C.drop i)).length = (C.length - i) * 3 := by rw [rowC_len, List.length_drop, Nat.mul_comm]
    have hel : (entC e).length = 3 := rfl
    have hrs : rowC C = rowC (C.take i) ++ rowC (C.drop i) := by rw [← rowC_app, List.take_append_drop]
    rcases hO.has with ⟨rfl, rfl⟩ | ⟨g, cap, l, rfl, hb, hg, hcap, hcm, hl⟩
    · exact absurd hlt (by simp)
    · by_cases hr : C.length + 1 ≤ cap
      · refine (tinsertRoom_any C i g cap l (entC e) g2 hlt hm w hg hr hl h1C hg2 rfl (one_ent h1e) (hne g rfl)).mono ?_
        rintro e' w' ⟨rfl, rfl⟩
        have hL : (rowC C ++ l).length = cap * 3 := by rw [List.length_append, rowC_len]; omega
        have h1 := Has.mid (rowC (C.drop i)) ((i + 1) * 3) _ _ hg.drew (by rw [hdl, hL]; omega)
        have h2 := Has.mid (entC e) (i * 3) _ _ h1 (by
          rw [hel, List.length_append, List.length_append, List.length_take, List.length_drop, hdl, hL]; omega)
        refine ⟨⟨_, rfl, ?_⟩, below_setCells hb _ _ _ (below_setCells hb _ _ _ (below_drew (Below.refl _ _)))⟩
        rw [← hlen]
        have e1 : (List.take ((i + 1) * 3) (rowC C ++ l) ++ rowC (C.drop i) ++ List.drop ((i + 1) * 3 + (rowC (C.drop i)).length) (rowC C ++ l)).take (i * 3) = rowC (C.take i) := by
          rw [List.append_assoc, List.take_append_of_le_length (by rw [List.length_take]; omega), List.take_take, Nat.min_eq_left (by omega), hrs, List.append_assoc]
          exact List.take_left' htl
        have e2 : (List.take ((i + 1) * 3) (rowC C ++ l) ++ rowC (C.drop i) ++ List.drop ((i + 1) * 3 + (rowC (C.drop i)).length) (rowC C ++ l)).drop (i * 3 + (entC e).length) = rowC (C.drop i) ++ List.drop ((i + 1) * 3 + (rowC (C.drop i)).length) (rowC C ++ l) := by
          rw [List.append_assoc]
          exact List.drop_left' (by rw [List.length_take, hel]; omega)
        rw [e1, e2] at h2
        refine OwnT.of (l := List.drop ((i + 1) * 3 + (rowC (C.drop i)).length) (rowC C ++ l)) hb ?_ (by omega) hcm ?_
        · rw [hrow]; simpa [List.append_assoc] using h2
        · rw [List.length_drop, hdl, hL, hlen]; omega
      · have hce : cap = C.length := by omega
        subst hce
        have hl0 : l = [] := List.eq_nil_of_length_eq_zero (by omega)
        subst hl0
        rw [List.append_nil] at hg
        refine (tinsertGrow_any C i g (entC e) g2 hlt hm w hg h1C hg2 rfl (one_ent h1e)).mono ?_
        rintro e' w' ⟨G, ROW, hG1, hG2, hR1, hR2, rfl, rfl⟩
        have hR : ROW.toList.length = G * 3 := by rw [← hR1]; exact Array.length_toList
        have hb0 : Below base w (w.alloc (.cells ROW 32)).drew := below_drew (((Below.refl _ _).alloc (Nat.le_refl _) _).mono hbase)
        have h1 := Has.mid (entC e) (i * 3) _ _ (Has.made w 32 ROW).drew (by rw [hR, hel]; omega)
        have hl1 : (List.take (i * 3) ROW.toList ++ entC e ++ List.drop (i * 3 + (entC e).length) ROW.toList).length = G * 3 := by
          rw [List.length_append, List.length_append, List.length_take, List.length_drop, hel, hR]; omega
        have h2 := Has.mid (rowC (C.drop i)) ((i + 1) * 3) _ _ h1.drew (by rw [hdl, hl1]; omega)
        refine ⟨⟨_, rfl, ?_⟩, below_setCells hbase _ _ _ (below_drew (below_setCells hbase _ _ _ hb0))⟩
        rw [← hlen]
        have e1 : (List.take (i * 3) ROW.toList ++ entC e ++ List.drop (i * 3 + (entC e).length) ROW.toList).take ((i + 1) * 3) = rowC (C.take i) ++ entC e := by
          rw [hR2]
          exact List.take_left' (by rw [List.length_append, htl, hel]; omega)
        rw [e1] at h2
        refine OwnT.of (l := List.drop ((i + 1) * 3 + (rowC (C.drop i)).length) (List.take (i * 3) ROW.toList ++ entC e ++ List.drop (i * 3 + (entC e).length) ROW.toList)) hbase ?_ (by omega) hG2 ?_
        · rw [hrow]; simpa [List.append_assoc] using h2
        · rw [List.length_drop, hdl, hl1, hlen]; omega
end Go.Proofs.YthpendoblgndcaaDoor
/- Contract: slices.Delete of one entry out of a row of entries that the call owns. Condition: at most 1000 entries. -/
namespace Go.Proofs.YthpendoblgndcaaDoor
open Go.RowKit
theorem run_clear_cells {P : Program} (w : World) (t e ty : TypeId) (z : Value) (ht : P.underlying t = some (.slice e)) (hv : ∀ w, (zeroValue e).run P w = .ok z w) (zs : List Value) (n b o c : Nat) (hn : 0 < n) (hz : (Builtin.zeroCells z.cells n).toList = zs) (h1 : ∀ v ∈ zs, v.oneCell' = true)
    (hc : ∀ j, j < zs.length → (w.cell? ⟨b, o + j, none⟩).isSome = true) (hf : ∀ j, j < zs.length → w.frozen? ⟨b, o + j, none⟩ = false) :
    (Builtin.clear_ #[t] ty #[.slice (some ⟨b, o, none⟩) n c]).run P w = .ok (.tuple #[]) (w.setCells b o zs) := by
  have hst := run_storeCells_cells (P := P) b o zs 0 w (by simpa using hc) (by simpa using hf) h1
  simp only [Nat.add_zero] at hst
  obtain ⟨m, rfl⟩ : ∃ m, n = m + 1 := ⟨n - 1, by omega⟩
  simp [Builtin.clear_, run_underlying ht, hv, hz, hst]
def zeroE : List Value := [.string ⟨#[]⟩, .bool false, .slice none 0 0]
theorem zeroE_eq : (Builtin.zeroCells (Value.agg #[.string ⟨#[]⟩, .bool false, .slice none 0 0]).cells 1).toList = zeroE := by kernel_rfl
set_option maxHeartbeats 8000000 in
set_option maxRecDepth 100000 in
theorem tdelete_any (C : List Ent) (i g cap : Nat) (l : List Value) (hi : i < C.length) (hm : C.length ≤ 1000) (w : World) (hg : Has w g 32 (rowC C ++ l)) (hcap : C.length ≤ cap) (hl : 3 * C.length + l.length = cap * 3) (h1C : ∀ v ∈ rowC C, v.oneCell' = true) :
    Calls Tryd.prog 67 #[.slice (some ⟨g, 0, none⟩) C.length cap, .int .i64 (i : Int), .int .i64 ((i : Int) + 1)] w fun e' w' => e' = .returned (.slice (some ⟨g, 0, none⟩) (C.length - 1) cap) ∧ w' = (w.drew.setCells g (i * 3) (rowC (C.drop (i + 1)))).setCells g ((C.length - 1) * 3) zeroE := by
  obtain ⟨i0, hi0, hz0, hzs, hzb⟩ := info_parts ent_infoT
  have hL : (rowC C ++ l).length = cap * 3 := by rw [List.length_append, rowC_len]; omega
  have hdl : (rowC (C.drop (i + 1))).length = (C.length - (i + 1)) * 3 := by rw [rowC_len, List.length_drop, Nat.mul_comm]
  have htl : (rowC (C.take (i + 1))).length = (i + 1) * 3 := by rw [rowC_len, List.length_take]; omega
  have hrs : rowC C = rowC (C.take (i + 1)) ++ rowC (C.drop (i + 1)) := by rw [← rowC_app, List.take_append_drop]
  obtain ⟨news, hnews⟩ : ∃ news, news = rowC (C.drop (i + 1)) := ⟨_, rfl⟩
  rw [← hnews] at hdl hrs ⊢
  obtain ⟨A, hA, hsrc⟩ : ∃ A : Addr, (if cap = i + 1 then some (⟨g, 0, none⟩ : Addr) else some ⟨g, (i + 1) * 3, none⟩) = some A ∧ Hid (∀ t u, news[t]? = some u → w.drew.cell? (A.add t) = some u) := by
    by_cases h : cap = i + 1
    · refine ⟨⟨g, 0, none⟩, by simp [h], fun t u hu => ?_⟩
      have h0 : news.length = 0 := by omega
      rw [List.length_eq_zero_iff.1 h0] at hu
      simp at hu
    · refine ⟨⟨g, (i + 1) * 3, none⟩, by simp [h], fun t u hu => ?_⟩
      rw [Addr.add_lit]
      refine hg.drew.cellv ?_
      have ht := (List.getElem?_eq_some_iff.1 hu).1
      rw [List.getElem?_append_left (by rw [rowC_len]; omega), hrs, List.getElem?_append_right (by omega), htl, Nat.add_sub_cancel_left]
      exact hu
  have s1 : Hid (news.length = (C.length - (i + 1)) * 3) := hdl
  have s2 : Hid (∀ u ∈ news, u.oneCell' = true) := fun u hu => h1C u (by rw [hrs]; exact List.mem_append_right _ hu)
  have s3 : Hid (∀ t, t < news.length → (w.drew.cell? ⟨g, 0 + i * 3 + t, none⟩).isSome = true ∧ w.drew.frozen? ⟨g, 0 + i * 3 + t, none⟩ = false) := fun t ht =>
    ⟨by rw [hg.drew.cell, List.getElem?_eq_getElem (by omega)]; rfl, hg.drew.free _⟩
  obtain ⟨W1, hW1⟩ : ∃ W1, W1 = w.drew.setCells g (0 + i * 3) news := ⟨_, rfl⟩
  have hgW : Has W1 g 32 ((rowC C ++ l).take (0 + i * 3) ++ news ++ (rowC C ++ l).drop (0 + i * 3 + news.length)) := by
    rw [hW1]; exact Has.mid _ _ _ _ hg.drew (by omega)
  have hgl : ((rowC C ++ l).take (0 + i * 3) ++ news ++ (rowC C ++ l).drop (0 + i * 3 + news.length)).length = cap * 3 := by
    rw [List.length_append, List.length_append, List.length_take, List.length_drop, hL]; omega
  have hcl : ∀ ty, (Builtin.clear_ #[23] ty #[.slice (some ⟨g, (C.length - 1) * 3, none⟩) 1 (cap - (C.length - 1))]).run Tryd.prog W1 = .ok (.tuple #[]) (W1.setCells g ((C.length - 1) * 3) zeroE) :=
    fun ty => run_clear_cells (P := Tryd.prog) W1 23 32 ty _ Tryd.underlying23 Tryd.zeroValue32 zeroE 1 g ((C.length - 1) * 3) _ (by omega) zeroE_eq (fun v hv => by
      simp only [zeroE, List.mem_cons, List.mem_nil_iff, or_false] at hv
      rcases hv with rfl | rfl | rfl <;> rfl)
      (fun j hj => by rw [hgW.cell, List.getElem?_eq_getElem (by rw [hgl]; have : zeroE.length = 3 := rfl; omega)]; rfl) (fun j hj => hgW.free _)
  have hW : Hid (W1 = w.drew.setCells g (0 + i * 3) news) := hW1
  have hWr : Hid (W1 = w.drew.setCells g (i * 3) news) := by have h := hW1; rw [Nat.zero_add] at h; exact h
  have hic : (i : Int) ≤ (cap : Int) := by omega
  have hjc : (i : Int) + 1 ≤ (cap : Int) := by omega
  have hjl : (i : Int) + 1 ≤ (C.length : Int) := by omega
  have hil : (i : Int) ≤ (C.length : Int) := by omega
  have hii : (i : Int) ≤ (i : Int) + 1 := by omega
  have hi1 : (0 : Int) ≤ (i : Int) + 1 := by omega
  have htn : ((i : Int) + 1).toNat = i + 1 := by omega
  have hne : ((i : Int) = (i : Int) + 1) = False := eq_false (by omega)
  have hn1 : i + (C.length - (i + 1)) = C.length - 1 := by omega
  have hn2 : C.length - (C.length - 1) = 1 := by omega
  have hcc : ((cap = C.length - 1)) = False := eq_false (by omega)
  have mixed : Tryd.prog.follows .mixedOrders = true := by kernel_rfl
  clear hW1 hgW hgl hg hnews hrs htl hdl h1C hL
  go_enter Tryd.func67, Tryd.ntmps67
  go_wp2_with fail
  go_region_law_o (refine step_append_room rfl (.tmp 22) (.tmp 25) 23 rfl 32 i0 3 Tryd.underlying23 hi0 hzs g 0 i cap (by simp [Act.eval, Act.put]) A (C.length - (i + 1)) (cap - (i + 1)) news (by simp [Act.eval, Act.put]) s1.out hsrc.out s2.out (by omega) s3.out ?_; rw [← hW.out])
  go_wp2
  go_ret
  exact ⟨rfl, by rw [hWr.out]⟩
theorem tdel_any (C : List Ent) (i : Nat) (v : Value) (base : Nat) (hi : i < C.length) (hm : C.length ≤ 1000) (w : World) (hO : OwnT w base v C) (h1C : ∀ u ∈ rowC C, u.oneCell' = true) :
    Calls Tryd.prog 67 #[v, .int .i64 (i : Int), .int .i64 ((i : Int) + 1)] w fun e' w' => (∃ v', e' = .returned v' ∧ OwnT w' base v' (C.take i ++ C.drop (i + 1))) ∧ Below base w w' := by
  rcases hO.has with ⟨rfl, rfl⟩ | ⟨g, cap, l, rfl, hb, hg, hcap, hcm, hl⟩
  · exact absurd hi (by simp)
  · refine (tdelete_any C i g cap l hi hm w hg hcap hl h1C).mono ?_
    rintro e' w' ⟨rfl, rfl⟩
    have hL : (rowC C ++ l).length = cap * 3 := by rw [List.length_append, rowC_len]; omega
    have hdl : (rowC (C.drop (i + 1))).length = (C.length - (i + 1)) * 3 := by rw [rowC_len, List.length_drop, Nat.mul_comm]
    have htl : (rowC (C.take i)).length = i * 3 := by rw [rowC_len, List.length_take]; omega
    have hzl : zeroE.length = 3 := rfl
    generalize zeroE = Z at *
    have hrs : rowC C = rowC (C.take i) ++ rowC (C.drop i) := by rw [← rowC_app, List.take_append_drop]
    have hlen : (C.take i ++ C.drop (i + 1)).length = C.length - 1 := by rw [List.length_append, List.length_take, List.length_drop]; omega
    have h1 := Has.mid (rowC (C.drop (i + 1))) (i * 3) _ _ hg.drew (by rw [hdl, hL]; omega)
    have hl1 : (List.take (i * 3) (rowC C ++ l) ++ rowC (C.drop (i + 1)) ++ List.drop (i * 3 + (rowC (C.drop (i + 1))).length) (rowC C ++ l)).length = cap * 3 := by
      rw [List.length_append, List.length_append, List.length_take, List.length_drop, hdl, hL]; omega
    have h2 := Has.mid Z ((C.length - 1) * 3) _ _ h1 (by rw [hzl, hl1]; omega)
    refine ⟨⟨_, rfl, ?_⟩, below_setCells hb _ _ _ (below_setCells hb _ _ _ (below_drew (Below.refl _ _)))⟩
    generalize (w.drew.setCells g (i * 3) (rowC (C.drop (i + 1)))).setCells g ((C.length - 1) * 3) Z = WF at *
    rw [← hlen]
    have e0 : List.take (i * 3) (rowC C ++ l) = rowC (C.take i) := by rw [hrs, List.append_assoc]; exact List.take_left' htl
    rw [e0] at h2 hl1
    have e1 : (rowC (C.take i) ++ rowC (C.drop (i + 1)) ++ List.drop (i * 3 + (rowC (C.drop (i + 1))).length) (rowC C ++ l)).take ((C.length - 1) * 3) = rowC (C.take i) ++ rowC (C.drop (i + 1)) :=
      List.take_left' (by rw [List.length_append, htl, hdl]; omega)
    rw [e1] at h2
    refine OwnT.of (l := Z ++ List.drop ((C.length - 1) * 3 + Z.length) (rowC (C.take i) ++ rowC (C.drop (i + 1)) ++ List.drop (i * 3 + (rowC (C.drop (i + 1))).length) (rowC C ++ l))) hb ?_ (by omega) hcm ?_
    · rw [rowC_app]; simpa [List.append_assoc] using h2
    · rw [hlen, List.length_append, List.length_drop, hl1, hzl]; omega
end Go.Proofs.YthpendoblgndcaaDoor
/- Contract: package path's Under. Condition: a text shorter than 2^63 bytes. -/
namespace Go.Proofs.YthpendoblgndcaaDoor
open Go.RowKit Go.Shelf
theorem has_slash (n : ByteArray) : decide (0 ≤ Lib.indexByte n.data.toList 47) = n.data.toList.contains 47 := by
  rcases idx_cases n.data.toList with ⟨h1, h2⟩ | ⟨i, h0, h1, h2, h3⟩
  · rw [h1]
    have : n.data.toList.contains 47 = false := by simpa using h2
    rw [this]; rfl
  · rw [h1, decide_eq_true (by omega)]
    have : n.data.toList.contains 47 = true := by rw [h2]; simp
    rw [this]
theorem under_eq (p d : Tx) : underL p d = (Lib.hasPrefix p d && Lib.hasPrefix (Lib.trimPrefix p d) [47] && okPath p) := by
  unfold underL
  congr 1
  rw [Bool.eq_iff_iff, Bool.and_eq_true]
  unfold Lib.trimPrefix Lib.hasPrefix
  constructor
  · intro h
    obtain ⟨r, rfl⟩ := List.isPrefixOf_iff_prefix.1 h
    have h1 : d.isPrefixOf (d ++ [47] ++ r) = true := List.isPrefixOf_iff_prefix.2 ⟨47 :: r, by simp⟩
    refine ⟨h1, ?_⟩
    rw [if_pos h1]
    exact List.isPrefixOf_iff_prefix.2 ⟨r, by simp⟩
  · rintro ⟨h1, h⟩
    rw [if_pos h1] at h
    obtain ⟨t, rfl⟩ := List.isPrefixOf_iff_prefix.1 h1
    rw [List.drop_left] at h
    obtain ⟨r, rfl⟩ := List.isPrefixOf_iff_prefix.1 h
    exact List.isPrefixOf_iff_prefix.2 ⟨r, by simp⟩
set_option maxHeartbeats 1600000 in
theorem under_any (p d : ByteArray) (hp : p.size < 9223372036854775808) (w : World) :
    Calls Tryd.prog 70 #[.string p, .string d] w fun e w' => e = .returned (.bool (underL p.data.toList d.data.toList)) ∧ Below w.heap.size w w' := by
  rw [under_eq]
  have H1 := Lib.hid (fun w1 => good_any p (by omega) w1)
  have H2 := Lib.hid (fun w1 => cutPrefix_any p d w1)
  have H3 := Lib.hid (fun w1 => hasPrefix_any ⟨(Lib.trimPrefix p.data.toList d.data.toList).toArray⟩ ⟨#[47]⟩ w1)
  simp only at H3
  cases h1 : Lib.hasPrefix p.data.toList d.data.toList with
  | false =>
    rw [h1] at H2
    go_enter Tryd.func70, Tryd.ntmps70
    go_wp2_with (first | ((with_reducible refine (H2.out _).mono ?_); rintro e w1 ⟨rfl, rfl⟩))
    go_ret
    exact ⟨rfl, Below.refl _ _⟩
  | true =>
    rw [h1] at H2
    cases h2 : Lib.hasPrefix (Lib.trimPrefix p.data.toList d.data.toList) [47] with
    | false =>
      rw [h2] at H3
      go_enter Tryd.func70, Tryd.ntmps70
      go_wp2_with (first | ((with_reducible refine (H2.out _).mono ?_); rintro e w1 ⟨rfl, rfl⟩) | ((with_reducible refine (H3.out _).mono ?_); rintro e w1 ⟨rfl, rfl⟩))
      go_ret
      exact ⟨rfl, Below.refl _ _⟩
    | true =>
      rw [h2] at H3
      cases h3 : okPath p.data.toList with
      | false =>
        rw [h3] at H1
        go_enter Tryd.func70, Tryd.ntmps70
        go_wp2_with (first | ((with_reducible refine (H2.out _).mono ?_); rintro e w1 ⟨rfl, rfl⟩) | ((with_reducible refine (H3.out _).mono ?_); rintro e w1 ⟨rfl, rfl⟩) | ((with_reducible refine (H1.out _).mono ?_); rintro e w1 ⟨rfl, hb1⟩))
        go_ret
        exact ⟨rfl, hb1⟩
      | true =>
        rw [h3] at H1
        go_enter Tryd.func70, Tryd.ntmps70
        go_wp2_with (first | ((with_reducible refine (H2.out _).mono ?_); rintro e w1 ⟨rfl, rfl⟩) | ((with_reducible refine (H3.out _).mono ?_); rintro e w1 ⟨rfl, rfl⟩) | ((with_reducible refine (H1.out _).mono ?_); rintro e w1 ⟨rfl, hb1⟩))
        go_ret
        exact ⟨rfl, hb1⟩
end Go.Proofs.YthpendoblgndcaaDoor
/- Contract: package path's Inside. Condition: a text shorter than 2^63 bytes. -/
namespace Go.Proofs.YthpendoblgndcaaDoor
open Go.RowKit Go.Shelf
set_option maxHeartbeats 800000 in
theorem inside_any (p : ByteArray) (hp : p.size < 9223372036854775808) (w : World) :
    Calls Tryd.prog 46 #[.string p] w fun e w' => e = .returned (.bool (insideL p.data.toList)) ∧ Below w.heap.size w w' := by
  have H1 := Lib.hid (fun w1 => under_any p ⟨#[46, 119, 111, 114, 107]⟩ hp w1)
  have hl : p.toList = p.data.toList := Lib.toList_data p
  unfold insideL
  cases h1 : (p.data.toList == [46, 119, 111, 114, 107]) with
  | true =>
    go_enter Tryd.func46, Tryd.ntmps46
    go_wp2_with fail
    go_ret
    exact ⟨rfl, Below.refl _ _⟩
  | false =>
    cases h2 : underL p.data.toList [46, 119, 111, 114, 107] with
    | true =>
      simp only [h2] at H1
      go_enter Tryd.func46, Tryd.ntmps46
      go_wp2_with (first | ((with_reducible refine (H1.out _).mono ?_); rintro e w1 ⟨rfl, hb1⟩))
      go_ret
      exact ⟨rfl, hb1⟩
    | false =>
      simp only [h2] at H1
      go_enter Tryd.func46, Tryd.ntmps46
      go_wp2_with (first | ((with_reducible refine (H1.out _).mono ?_); rintro e w1 ⟨rfl, hb1⟩))
      go_ret
      exact ⟨rfl, hb1⟩
end Go.Proofs.YthpendoblgndcaaDoor
/- Contract: the document's own Under. Condition: texts of at most 2^20 bytes. -/
namespace Go.Proofs.YthpendoblgndcaaDoor
open Go.RowKit
set_option maxHeartbeats 4000000 in
theorem runder_any (p d : ByteArray) (hp : p.size ≤ 1048576) (hd : d.size ≤ 1048576) (w : World) :
    Calls Tryd.prog 53 #[.string p, .string d] w fun e w' => e = .returned (.bool (underL p.data.toList d.data.toList)) ∧ Below w.heap.size w w' := by
  have HG := Lib.hid (fun w1 => rgood_any p hp w1)
  have HD := Lib.hid (fun w1 => rgood_any d hd w1)
  have hpl : p.data.toList.length = p.size := rfl
  have hdl : d.data.toList.length = d.size := rfl
  have hld : d.toList = d.data.toList := Lib.toList_data d
  cases hg : okPath p.data.toList with
  | false =>
    rw [hg] at HG
    rw [under_no (.inl hg)]
    clear hg
    go_enter Tryd.func53, Tryd.ntmps53
    go_wp2_with fail
    refine (HG.out _).mono ?_
    rintro e w1 ⟨rfl, hb⟩
    go_wp2_with fail
    go_ret
    exact ⟨rfl, hb⟩
  | true =>
    rw [hg] at HG
    cases hgd : okPath d.data.toList with
    | false =>
      rw [hgd] at HD
      rw [under_no (.inr (.inl hgd))]
      clear hg hgd
      go_enter Tryd.func53, Tryd.ntmps53
      go_wp2_with fail
      refine (HG.out _).mono ?_
      rintro e w1 ⟨rfl, hb⟩
      have HB := Lib.hid hb
      clear hb
      go_wp2_with fail
      refine (HD.out _).mono ?_
      rintro e w2 ⟨rfl, hb⟩
      replace HB := Lib.hid (HB.out.trans (hb.mono HB.out.size))
      clear hb
      go_wp2_with fail
      go_ret
      exact ⟨rfl, HB.out⟩
    | true =>
      rw [hgd] at HD
      by_cases hlt : d.size < p.size
      · have hex : (p.extract 0 d.size).toList = p.data.toList.take d.size := by rw [Lib.extract_toList]; simp
        have k1 : (d.size : Int) < (p.size : Int) := by omega
        by_cases heq : p.data.toList.take d.size = d.data.toList
        · have hu := under_at (p := p.data.toList) (d := d.data.toList) hg (by rw [hpl, hdl]; exact hlt) (by rw [hdl]; exact heq)
          have hget : p.data.toList[d.data.toList.length]'(by rw [hpl, hdl]; exact hlt) = p[d.size]'hlt := by
            have h1 := byte_at p d.size hlt
            exact (List.getElem?_eq_some_iff.1 h1).2
          rw [hu, hget]
          have k2 : ((p.extract 0 d.size).toList == d.data.toList) = true := by rw [hex, beq_iff_eq]; exact heq
          have k3 : (((p[d.size]'hlt).toNat : Int) == 47) = (p[d.size]'hlt == 47) := by
            rw [Bool.eq_iff_iff, beq_iff_eq, beq_iff_eq, ← UInt8.toNat_inj]
            show _ ↔ (p[d.size]'hlt).toNat = 47
            omega
          have HK := Lib.hid k3
          clear hu hget heq hex hg hgd k3
          go_enter Tryd.func53, Tryd.ntmps53
          go_wp2_with fail
          refine (HG.out _).mono ?_
          rintro e w1 ⟨rfl, hb⟩
          have HB := Lib.hid hb
          clear hb
          go_wp2_with fail
          refine (HD.out _).mono ?_
          rintro e w2 ⟨rfl, hb⟩
          replace HB := Lib.hid (HB.out.trans (hb.mono HB.out.size))
          clear hb
          go_wp2_with fail
          go_ret
          exact ⟨congrArg (fun b => Ending.returned (.bool b)) HK.out, HB.out⟩
        · rw [under_no (.inr (.inr (.inr (by rw [hdl]; exact heq))))]
          have k2 : ((p.extract 0 d.size).toList == d.data.toList) = false := by rw [hex, beq_eq_false_iff_ne]; exact heq
          clear heq hex hg hgd
          go_enter Tryd.func53, Tryd.ntmps53
          go_wp2_with fail
          refine (HG.out _).mono ?_
          rintro e w1 ⟨rfl, hb⟩
          have HB := Lib.hid hb
          clear hb
          go_wp2_with fail
          refine (HD.out _).mono ?_
          rintro e w2 ⟨rfl, hb⟩
          replace HB := Lib.hid (HB.out.trans (hb.mono HB.out.size))
          clear hb
          go_wp2_with fail
          go_ret
          exact ⟨rfl, HB.out⟩
      · rw [under_no (.inr (.inr (.inl (by rw [hpl, hdl]; exact hlt))))]
        have k1 : ¬ (d.size : Int) < (p.size : Int) := by omega
        clear hg hgd
        go_enter Tryd.func53, Tryd.ntmps53
        go_wp2_with fail
        refine (HG.out _).mono ?_
        rintro e w1 ⟨rfl, hb⟩
        have HB := Lib.hid hb
        clear hb
        go_wp2_with fail
        refine (HD.out _).mono ?_
        rintro e w2 ⟨rfl, hb⟩
        replace HB := Lib.hid (HB.out.trans (hb.mono HB.out.size))
        clear hb
        go_wp2_with fail
        go_ret
        exact ⟨rfl, HB.out⟩
end Go.Proofs.YthpendoblgndcaaDoor
/- Contract: the document's own Inside. Condition: a text of at most 2^20 bytes. -/
namespace Go.Proofs.YthpendoblgndcaaDoor
open Go.RowKit
set_option maxHeartbeats 1000000 in
theorem rinside_any (p : ByteArray) (hp : p.size ≤ 1048576) (w : World) :
    Calls Tryd.prog 59 #[.string p] w fun e w' => e = .returned (.bool (insideL p.data.toList)) ∧ Below w.heap.size w w' := by
  have H1 := Lib.hid (fun w1 => runder_any p ⟨#[46, 119, 111, 114, 107]⟩ hp (by decide) w1)
  have hl : p.toList = p.data.toList := Lib.toList_data p
  unfold insideL
  cases h1 : (p.data.toList == [46, 119, 111, 114, 107]) with
  | true =>
    go_enter Tryd.func59, Tryd.ntmps59
    go_wp2_with fail
    go_ret
    exact ⟨rfl, Below.refl _ _⟩
  | false =>
    cases h2 : underL p.data.toList [46, 119, 111, 114, 107] with
    | true =>
      simp only [h2] at H1
      go_enter Tryd.func59, Tryd.ntmps59
      go_wp2_with (first | ((with_reducible refine (H1.out _).mono ?_); rintro e w1 ⟨rfl, hb1⟩))
      go_ret
      exact ⟨rfl, hb1⟩
    | false =>
      simp only [h2] at H1
      go_enter Tryd.func59, Tryd.ntmps59
      go_wp2_with (first | ((with_reducible refine (H1.out _).mono ?_); rintro e w1 ⟨rfl, hb1⟩))
      go_ret
      exact ⟨rfl, hb1⟩
end Go.Proofs.YthpendoblgndcaaDoor
/- Contract: the document's own Clean. Conditions: at most 50000 entries, paths of at most 2^20 bytes, all bytes together at most 2^61. -/
namespace Go.Proofs.YthpendoblgndcaaDoor
open Go.RowKit
def outT (C : List Ent) : List Ent := C.filter fun e => !(insideL e.pa)
def cleanT (C : List Ent) : List Ent := if goodT C = true then outT C else C
set_option maxHeartbeats 4000000 in
set_option maxRecDepth 100000 in
theorem rclean_any (C : List Ent) (q : Option Addr) (c : Nat) (hm : C.length ≤ 50000) (hcap : C.length ≤ c) (hq : q = none → c = 0) (hb : bytesT C ≤ 2305843009213693952) (hn : ∀ e ∈ C, e.1.size ≤ 1048576) (w : World) (hs : Sees w w.heap.size q (rowC C)) (hE : Ents w C) :
    Calls Tryd.prog 30 #[.slice q C.length c] w fun e w' => (∃ v, e = .returned v ∧ TrV w' v (cleanT C)) ∧ Below w.heap.size w w' := by
  have HT : Hid (∀ w', Below w.heap.size w w' → TrV w' (.slice q C.length c) C) := Lib.hid (fun w' h => ⟨q, c, rfl, hcap, hq, (hs.keep h).more h.size⟩)
  have HS := Lib.hid hs
  have HE := Lib.hid hE
  have HN := Lib.hid hn
  have HGT := Lib.hid (fun w1 h1 h2 => rgt_any C q c (by omega) (by omega) hn w1 h1 h2)
  clear hs hE hcap hq hn
  unfold cleanT
  generalize goodT C = G at *
  go_enter Tryd.func30, Tryd.ntmps30
  go_wp2_with fail
  refine (HGT.out _ HS.out HE.out).mono ?_
  rintro e w1 ⟨rfl, hb1⟩
  have HB1 := Lib.hid hb1
  clear hb1
  cases G with
  | false =>
    go_wp2_with fail
    go_ret
    first | exact ⟨⟨_, rfl, HT.out _ HB1.out⟩, HB1.out⟩ | exact ⟨HT.out _ HB1.out, HB1.out⟩
  | true =>
    have HNIL := Lib.hid (OwnE.nil w1 w1.heap.size)
    go_wp2_with fail
    go_loopw [3, 4] (fun v vi wr => ∃ i : Nat, i ≤ C.length ∧ vi = .int .i64 i ∧ OwnE wr w1.heap.size v (outT (C.take i)) ∧ Below w1.heap.size w1 wr) (fun _ vi _ => C.length - (intOf vi).toNat)
    case atStart => exact ⟨0, by omega, rfl, HNIL.out, Below.refl _ _⟩
    case round =>
      rename_i wr
      obtain ⟨i, hi, rfl, hrow, hB⟩ := hrel
      have HROW := Lib.hid hrow
      have HB := Lib.hid hB
      clear hrow hB
      by_cases hlt : i < C.length
      · obtain ⟨a, rfl, ha, hc⟩ := HS.out.ent hlt
        have HC3 : Hid (∀ w', Below w1.heap.size w1 w' → _) := Lib.hid (fun w' h => hc w' (HB1.out.trans (h.mono HB1.out.size)))
        obtain ⟨qb, cb, hv, _, _, _⟩ := HE.out C[i] (List.getElem_mem hlt)
        have hsz := HN.out C[i] (List.getElem_mem hlt)
        have kk : (i : Int) < (C.length : Int) := by omega
        have hgl : (outT (C.take i)).length ≤ i := Nat.le_trans (List.length_filter_le _ _) (List.length_take_le _ _)
        have htk : outT (C.take (i + 1)) = outT (C.take i) ++ (if insideL C[i].pa = true then [] else [C[i]]) := by
          unfold outT
          rw [List.take_add_one, List.getElem?_eq_getElem hlt, List.filter_append]
          cases hk : insideL C[i].pa <;> simp [hk]
        have HTK := Lib.hid htk
        obtain ⟨e, he⟩ : ∃ e, C[i] = e := ⟨_, rfl⟩
        rw [he] at hv HTK HC3 hsz
        obtain ⟨x, d, bv, bb⟩ := e
        simp only [] at HC3
        have hv' : bv = .slice qb (List.length bb) cb := hv
        have h1 : bv.oneCell' = true := by rw [hv']; rfl
        have hxz : x.size ≤ 1048576 := hsz
        have HIN := Lib.hid (fun w2 => rinside_any x hxz w2)
        have HLEN : Hid ((outT (C.take i)).length ≤ 1000000) := Lib.hid (by omega)
        obtain ⟨c1, c2, c3⟩ := HC3.out wr HB.out
        clear hc ha hv hv' htk he hsz
        cases hin : insideL x.data.toList with
        | true =>
          rw [hin] at HIN
          have HNX : Hid (outT (C.take (i + 1)) = outT (C.take i)) := Lib.hid (by rw [HTK.out, if_pos (show insideL (Ent.pa (x, d, bv, bb)) = true from hin), List.append_nil])
          clear hin
          go_wp2_with fail
          refine (HIN.out _).mono ?_
          rintro e w2 ⟨rfl, hb2⟩
          replace HROW := Lib.hid (own_below3 HROW.out hb2)
          replace HB := Lib.hid (HB.out.trans (hb2.mono HB.out.size))
          clear hb2 c1 c2 c3
          go_wp2_with fail
          go_roundw
          case rel => exact ⟨i + 1, by omega, by go_num, by rw [HNX.out]; exact HROW.out, HB.out⟩
          case measure => simp [intOf]; omega
        | false =>
          rw [hin] at HIN
          have HNX : Hid (outT (C.take (i + 1)) = outT (C.take i) ++ [(x, d, bv, bb)]) := Lib.hid (by rw [HTK.out, if_neg (by rw [show insideL (Ent.pa (x, d, bv, bb)) = false from hin]; simp)])
          clear hin
          go_wp2_with fail
          refine (HIN.out _).mono ?_
          rintro e w2 ⟨rfl, hb2⟩
          replace HROW := Lib.hid (own_below3 HROW.out hb2)
          replace HB := Lib.hid (HB.out.trans (hb2.mono HB.out.size))
          clear hb2 c1 c2 c3
          obtain ⟨c1, c2, c3⟩ := HC3.out w2 HB.out
          go_wp2_with (refine wp_addE rfl (.tmp 22) (.tmp 27) rfl (base := w1.heap.size) (World.ownsRow.alloc HROW.out (.cells #[.string x, .bool d, bv] 51)) (by have := HB.out.size; simp; omega) rfl w2.heap.size (x, d, bv, bb) rfl (Has.made' w2 51 #[.string x, .bool d, bv] _ rfl) h1 HLEN.out ?_; intro v3 w3 ho3 hb3; have HROW2 := Lib.hid ho3; have HB5 := Lib.hid hb3; clear ho3 hb3 HROW)
          go_roundw
          case rel => exact ⟨i + 1, by omega, by go_num, by rw [HNX.out]; exact HROW2.out, (HB.out.alloc HB.out.size _).trans HB5.out⟩
          case measure => simp [intOf]; omega
      · have hil : i = C.length := by omega
        subst hil
        have k0 : ¬ (C.length : Int) < (C.length : Int) := by omega
        rw [List.take_length] at HROW
        have HTR := Lib.hid (OwnE.tr HROW.out)
        clear hlt HROW
        go_wp2_with fail
        go_ret
        first | exact ⟨⟨_, rfl, HTR.out⟩, HB1.out.trans (HB.out.mono HB1.out.size)⟩ | exact ⟨HTR.out, HB1.out.trans (HB.out.mono HB1.out.size)⟩
end Go.Proofs.YthpendoblgndcaaDoor
/- Contracts: the predicate of package tree's Clean, slices.IndexFunc with it. Condition: paths shorter than 2^63 bytes. -/
namespace Go.Proofs.YthpendoblgndcaaDoor
open Go.RowKit
set_option maxHeartbeats 4000000 in
theorem tcleanF_any (x : ByteArray) (d : Bool) (bv : Value) (hx : x.size < 9223372036854775808) (w : World) :
    Calls Tryd.prog 45 #[.agg #[.string x, .bool d, bv]] w fun e w' => e = .returned (.bool (insideL x.data.toList)) ∧ Below w.heap.size w w' := by
  have HC := Lib.hid (fun w1 => inside_any x hx w1)
  go_enter Tryd.func45, Tryd.ntmps45
  go_wp2_with (first | ((with_reducible refine (HC.out _).mono ?_); rintro e w1 ⟨rfl, hb1⟩; have HB := Lib.hid (((Below.refl _ w).alloc (Nat.le_refl _) (.cells #[.string x, .bool d, bv] 32)).trans (hb1.mono (by simp))); clear hb1))
  go_ret
  exact ⟨rfl, HB.out⟩
theorem outT_add (C : List Ent) (i : Nat) (h : i < C.length) : outT (C.take (i + 1)) = outT (C.take i) ++ (if insideL C[i].pa = true then [] else [C[i]]) := by
  unfold outT
  rw [List.take_add_one, List.getElem?_eq_getElem h, List.filter_append]
  cases hk : insideL C[i].pa <;> simp [hk]
set_option maxHeartbeats 8000000 in
set_option maxRecDepth 100000 in
theorem tindexF_any (C : List Ent) (q : Option Addr) (c : Nat) (hm : C.length ≤ 100000) (hn : ∀ e ∈ C, e.1.size < 9223372036854775808) (w : World) (hs : Sees w w.heap.size q (rowC C)) :
    Calls Tryd.prog 69 #[.slice q C.length c, .func (.func 45) #[] #[]] w fun e w' => ((e = .returned (.int .i64 (-1)) ∧ outT C = C) ∨ ∃ k : Nat, ∃ h : k < C.length, e = .returned (.int .i64 (k : Int)) ∧ outT (C.take k) = C.take k ∧ insideL C[k].pa = true) ∧ Below w.heap.size w w' := by
  have HS := Lib.hid hs
  have HN := Lib.hid hn
  clear hs hn
  go_enter Tryd.func69, Tryd.ntmps69
  go_wp2_with fail
  go_loopw [5, 8] (fun _ vi wr => ∃ i : Nat, i ≤ C.length ∧ vi = .int .i64 i ∧ outT (C.take i) = C.take i ∧ Below w.heap.size w wr) (fun _ vi _ => C.length - (intOf vi).toNat)
  case atStart => exact ⟨0, by omega, rfl, rfl, Below.refl _ _⟩
  case round =>
    rename_i wr
    obtain ⟨i, hi, rfl, hout, hB⟩ := hrel
    have HB := Lib.hid hB
    have HO := Lib.hid hout
    clear hB hout
    by_cases hlt : i < C.length
    · obtain ⟨a, rfl, ha, hc⟩ := HS.out.ent hlt
      obtain ⟨c1, c2, c3⟩ := hc wr HB.out
      have kk : (i : Int) < (C.length : Int) := by omega
      have hsz := HN.out C[i] (List.getElem_mem hlt)
      have HNX := Lib.hid (outT_add C i hlt)
      have HTK : Hid (C.take (i + 1) = C.take i ++ [C[i]]) := Lib.hid (by rw [List.take_add_one, List.getElem?_eq_getElem hlt]; rfl)
      have HIN : Hid (∀ h : insideL C[i].pa = true, ∃ k : Nat, ∃ h : k < C.length, (Ending.returned (.int .i64 (i : Int)) : Ending) = .returned (.int .i64 (k : Int)) ∧ outT (C.take k) = C.take k ∧ insideL C[k].pa = true) := Lib.hid (fun h => ⟨i, hlt, rfl, HO.out, h⟩)
      have hpa : C[i].pa = C[i].1.data.toList := rfl
      rw [hpa] at HNX HIN
      have HC := Lib.hid (fun w1 => tcleanF_any C[i].1 C[i].2.1 C[i].2.2.1 hsz w1)
      obtain ⟨e, he⟩ : ∃ e, C[i] = e := ⟨_, rfl⟩
      rw [he] at c1 c2 c3 HNX HTK HIN HC
      obtain ⟨x, d, bv, bb⟩ := e
      simp only [] at c1 c2 c3 HNX HC HIN
      clear hc ha hpa hsz he
      generalize insideL x.data.toList = IN at *
      cases IN with
      | true =>
        go_wp2_with (first | ((with_reducible refine (HC.out _).mono ?_); rintro e w1 ⟨rfl, hb1⟩; replace HB := Lib.hid (HB.out.trans (hb1.mono HB.out.size)); clear hb1))
        go_ret
        exact ⟨.inr (HIN.out trivial), HB.out⟩
      | false =>
        go_wp2_with (first | ((with_reducible refine (HC.out _).mono ?_); rintro e w1 ⟨rfl, hb1⟩; replace HB := Lib.hid (HB.out.trans (hb1.mono HB.out.size)); clear hb1))
        go_roundw
        case rel => exact ⟨i + 1, by omega, by go_num, by rw [HNX.out, HTK.out, HO.out]; rfl, HB.out⟩
        case measure => simp [intOf]; omega
    · have hil : i = C.length := by omega
      subst hil
      have k0 : ¬ (C.length : Int) < (C.length : Int) := by omega
      rw [List.take_length] at HO
      clear hlt
      go_wp2_with fail
      go_ret
      exact ⟨.inl ⟨rfl, HO.out⟩, HB.out⟩
end Go.Proofs.YthpendoblgndcaaDoor
/- Contract: slices.DeleteFunc with the predicate of package tree's Clean, over a row of entries that the call owns. Conditions: at most 1000 entries, paths shorter than 2^63 bytes. -/
namespace Go.Proofs.YthpendoblgndcaaDoor
open Go.RowKit
theorem Has.swap {w : World} {g : Nat} {t : TypeId} {A X B Y : List Value} (h : Has w g t (A ++ (X ++ B))) (hl : X.length = Y.length) : Has (w.setCells g A.length Y) g t (A ++ (Y ++ B)) := by
  have h1 := Has.mid Y A.length _ _ h (by rw [List.length_append, List.length_append]; omega)
  rw [List.take_left' rfl, ← List.append_assoc, List.drop_left' (by rw [List.length_append, hl]), List.append_assoc] at h1
  exact h1
theorem zeroC_one (n : Nat) : ∀ v ∈ (Builtin.zeroCells (Value.agg #[.string ⟨#[]⟩, .bool false, .slice none 0 0]).cells n).toList, v.oneCell' = true := fun v hv => by
  have hv' := Array.mem_toList_iff.1 hv
  obtain ⟨i, hi, rfl⟩ := Array.getElem_of_mem hv'
  have hc : (Value.agg #[.string ⟨#[]⟩, .bool false, .slice none 0 0]).cells = #[.string ⟨#[]⟩, .bool false, .slice none 0 0] := by kernel_rfl
  unfold Builtin.zeroCells
  simp only [hc]
  have h3 : i % 3 = 0 ∨ i % 3 = 1 ∨ i % 3 = 2 := by omega
  rcases h3 with h | h | h <;> simp [h] <;> rfl
/-- The row between two rounds. -/
def MidR (w : World) (g : Nat) (C : List Ent) (l : List Value) (i j : Nat) : Prop := ∃ M, M.length = 3 * (j - i) ∧ i ≤ j ∧ i = (outT (C.take j)).length ∧ Has w g 32 (rowC (outT (C.take j)) ++ (M ++ (rowC (C.drop j) ++ l)))
theorem MidR.keep {w w' : World} {g : Nat} {C : List Ent} {l : List Value} {i j : Nat} (h : MidR w g C l i j) (hb : Below w.heap.size w w') : MidR w' g C l i j := by
  obtain ⟨M, h1, h2, h3, h4⟩ := h
  exact ⟨M, h1, h2, h3, h4.keep hb h4.lt⟩
theorem MidR.cells {w : World} {g : Nat} {C : List Ent} {l : List Value} {i j : Nat} (h : MidR w g C l i j) (hj : j < C.length) :
    w.cell? ⟨g, j * 3, none⟩ = some (.string C[j].1) ∧ w.cell? ⟨g, j * 3 + 1, none⟩ = some (.bool C[j].2.1) ∧ w.cell? ⟨g, j * 3 + 2, none⟩ = some C[j].2.2.1 := by
  obtain ⟨M, h1, h2, h3, h4⟩ := h
  have hr : (rowC (outT (C.take j))).length = 3 * i := by rw [rowC_len, ← h3]
  have key : ∀ t, t < 3 → ∀ u, (entC C[j])[t]? = some u → w.cell? ⟨g, j * 3 + t, none⟩ = some u := fun t ht u hu => by
    refine h4.cellv ?_
    rw [List.getElem?_append_right (by omega), List.getElem?_append_right (by omega), hr, h1, show j * 3 + t - 3 * i - 3 * (j - i) = t by omega, List.drop_eq_getElem_cons hj, rowC_cons, List.append_assoc, List.getElem?_append_left (by show t < 3; exact ht)]
    exact hu
  exact ⟨key 0 (by omega) _ rfl, key 1 (by omega) _ rfl, key 2 (by omega) _ rfl⟩
theorem MidR.skip {w : World} {g : Nat} {C : List Ent} {l : List Value} {i j : Nat} (h : MidR w g C l i j) (hj : j < C.length) (hin : insideL C[j].pa = true) : MidR w g C l i (j + 1) := by
  obtain ⟨M, h1, h2, h3, h4⟩ := h
  have ho : outT (C.take (j + 1)) = outT (C.take j) := by rw [outT_add C j hj, if_pos hin, List.append_nil]
  refine ⟨M ++ entC C[j], by rw [List.length_append, h1]; show _ + 3 = _; omega, by omega, by rw [ho]; exact h3, ?_⟩
  rw [List.drop_eq_getElem_cons hj, rowC_cons] at h4
  rw [ho]
  simpa [List.append_assoc] using h4
theorem MidR.there {w : World} {g : Nat} {C : List Ent} {l : List Value} {i j : Nat} (h : MidR w g C l i j) (hij : i < j) : w.there g (i * 3) 3 := by
  obtain ⟨M, h1, h2, h3, h4⟩ := h
  refine h4.there _ _ ?_
  have hr : (rowC (outT (C.take j))).length = 3 * i := by rw [rowC_len, ← h3]
  rw [List.length_append, List.length_append, hr, h1]; omega
theorem MidR.put {w : World} {g : Nat} {C : List Ent} {l : List Value} {i j : Nat} (h : MidR w g C l i j) (hj : j < C.length) (hij : i < j) (hin : insideL C[j].pa = false) : MidR (w.setCells g (i * 3) (entC C[j])) g C l (i + 1) (j + 1) := by
  obtain ⟨M, h1, h2, h3, h4⟩ := h
  have ho : outT (C.take (j + 1)) = outT (C.take j) ++ [C[j]] := by rw [outT_add C j hj, if_neg (by rw [hin]; simp)]
  have hr : (rowC (outT (C.take j))).length = i * 3 := by rw [rowC_len, ← h3, Nat.mul_comm]
  have he : (entC C[j]).length = 3 := rfl
  have h5 : Has w g 32 (rowC (outT (C.take j)) ++ (M.take 3 ++ (M.drop 3 ++ (rowC (C.drop j) ++ l)))) := by rw [← List.append_assoc (M.take 3), List.take_append_drop]; exact h4
  have h6 := h5.swap (Y := entC C[j]) (by rw [List.length_take, h1, he]; omega)
  rw [hr] at h6
  refine ⟨M.drop 3 ++ entC C[j], by rw [List.length_append, List.length_drop, h1, he]; omega, by omega, by rw [ho, List.length_append, ← h3]; rfl, ?_⟩
  rw [List.drop_eq_getElem_cons hj, rowC_cons] at h6
  rw [ho, rowC_add]
  simpa [List.append_assoc] using h6
set_option maxHeartbeats 8000000 in
set_option maxRecDepth 100000 in
theorem tdeleteF_any (C : List Ent) (v : Value) (base : Nat) (hm : C.length ≤ 1000) (hn : ∀ e ∈ C, e.1.size < 9223372036854775808) (w : World) (hbase : base ≤ w.heap.size) (hO : OwnT w base v C) (hE : Ents w C) :
    Calls Tryd.prog 44 #[v, .func (.func 45) #[] #[]] w fun e w' => (∃ v', e = .returned v' ∧ OwnT w' base v' (outT C)) ∧ Below base w w' := by
  have HO := Lib.hid hO
  have HBB := Lib.hid hbase
  rcases hO.has with ⟨rfl, rfl⟩ | ⟨g, cap, l, rfl, hb, hg, hcap, hcm, hl⟩
  · have HI := Lib.hid (fun w1 => tindexF_any [] none 0 (by simp) hn w1 (Sees.nil _ _ _))
    have hout : outT [] = [] := rfl
    clear hn hE hO
    go_enter Tryd.func44, Tryd.ntmps44
    go_wp2_with fail
    refine (HI.out _).mono ?_
    rintro e w1 ⟨he, hb1⟩
    have HB := Lib.hid (hb1.mono HBB.out)
    replace HO := Lib.hid (HO.out.keep hb1)
    have he2 : e = .returned (.int .i64 (-1)) := by
      rcases he with ⟨h, _⟩ | ⟨k, hk, _⟩
      · exact h
      · exact absurd hk (by simp)
    subst he2
    clear he hb1 HI
    go_wp2_with fail
    go_ret
    exact ⟨⟨_, rfl, HO.out⟩, HB.out⟩
  · have hsee : ∀ w', Below w.heap.size w w' → Sees w' w'.heap.size (some ⟨g, 0, none⟩) (rowC C) := fun w' h => by
      obtain ⟨q, c, e, _, _, hs⟩ := (hO.keep h).tr
      cases e
      exact hs
    have HI := Lib.hid (fun w1 h => tindexF_any C (some ⟨g, 0, none⟩) cap (by omega) hn w1 (hsee w1 h))
    have HG := Lib.hid hg
    have HN := Lib.hid hn
    have HE := Lib.hid hE
    have HL := Lib.hid hl
    have HCM := Lib.hid hcm
    clear hO hg hsee hn hE hl hcm hbase
    go_enter Tryd.func44, Tryd.ntmps44
    go_wp2_with fail
    refine (HI.out _ (Below.refl _ _)).mono ?_
    rintro e w1 ⟨he, hb1⟩
    have HB := Lib.hid (hb1.mono HBB.out)
    replace HO := Lib.hid (HO.out.keep hb1)
    replace HG := Lib.hid (HG.out.keep hb1 HG.out.lt)
    have HSZ := Lib.hid (Nat.le_trans HBB.out hb1.size)
    clear hb1 HI
    rcases he with ⟨rfl, h⟩ | ⟨k, hk, rfl, h1, h2⟩
    · have HH := Lib.hid h
      clear h
      go_wp2_with fail
      go_ret
      exact ⟨⟨_, rfl, by rw [HH.out]; exact HO.out⟩, HB.out⟩
    · have kneg : ((k : Int) = -1) = False := eq_false (by omega)
      have kw : IntKind.i64.wrap ((k : Int) + 1) = (k : Int) + 1 := by rw [IntWalk.i64_in _ (by omega)]
      have HM : Hid (MidR w1 g C l k (k + 1)) := Lib.hid (by
        have hkl : (outT (C.take k)).length = k := by rw [h1, List.length_take]; omega
        have h0 : MidR w1 g C l k k := ⟨[], by simp, Nat.le_refl _, hkl.symm, by rw [h1, List.nil_append, ← List.append_assoc, ← rowC_app, List.take_append_drop]; exact HG.out⟩
        exact h0.skip hk h2)
      clear h1 h2 HO HG
      go_wp2_with fail
      go_loopw [5, 6, 7] (fun vi vj _ wr => ∃ i j : Nat, i < j ∧ j ≤ C.length ∧ vi = .int .i64 i ∧ vj = .int .i64 j ∧ MidR wr g C l i j ∧ base ≤ wr.heap.size ∧ Below base w wr) (fun _ vj _ _ => C.length - (intOf vj).toNat)
      case atStart => exact ⟨k, k + 1, by omega, by omega, rfl, by go_num, HM.out, HSZ.out, HB.out⟩
      case round =>
        rename_i wr
        clear HM HB HSZ
        obtain ⟨i, j, hij, hj, rfl, rfl, hM, hS, hB⟩ := hrel
        have HM := Lib.hid hM
        have HB := Lib.hid hB
        have HSZ := Lib.hid hS
        clear hM hB hS
        by_cases hlt : j < C.length
        · obtain ⟨c1, c2, c3⟩ := HM.out.cells hlt
          have kk : (j : Int) < (C.length : Int) := by omega
          have hsz := HN.out C[j] (List.getElem_mem hlt)
          have HC := Lib.hid (fun w1 => tcleanF_any C[j].1 C[j].2.1 C[j].2.2.1 hsz w1)
          have HSK : Hid (insideL C[j].1.data.toList = true → ∀ w', MidR w' g C l i j → MidR w' g C l i (j + 1)) := Lib.hid (fun h w' h' => h'.skip hlt h)
          have HPU : Hid (insideL C[j].1.data.toList = false → ∀ w', MidR w' g C l i j → MidR (w'.setCells g (i * 3) [.string C[j].1, .bool C[j].2.1, C[j].2.2.1]) g C l (i + 1) (j + 1)) := Lib.hid (fun h w' h' => h'.put hlt hij h)
          obtain ⟨qb, cb, hv, _, _, _⟩ := HE.out C[j] (List.getElem_mem hlt)
          have hv2 : C[j].2.2.1 = .slice qb C[j].2.2.2.length cb := hv
          rw [hv2] at c3 HC HPU
          generalize C[j].2.2.2.length = nb at *
          clear hv hv2
          generalize C[j].1 = x at *
          generalize C[j].2.1 = d at *
          clear hsz
          generalize insideL x.data.toList = IN at *
          have HTH : Hid (∀ w', MidR w' g C l i j → w'.there g (i * 3) 3) := Lib.hid (fun w' h => h.there hij)
          have kwi : IntKind.i64.wrap ((i : Int) + 1) = (i : Int) + 1 := by rw [IntWalk.i64_in _ (by omega)]
          have kwj : IntKind.i64.wrap ((j : Int) + 1) = (j : Int) + 1 := by rw [IntWalk.i64_in _ (by omega)]
          have kki : (i : Int) < (C.length : Int) := by omega
          go_wp2_with fail
          refine (HC.out _).mono ?_
          rintro e w2 ⟨rfl, hb2⟩
          have hx := (boxed hb2)
          have q0 := hx.cellv (i := 0) (v := .string x) rfl
          have q1 := hx.cellv (i := 1) (v := .bool d) rfl
          have q2 := hx.cellv (i := 2) (v := .slice qb nb cb) rfl
          have hba : Below wr.heap.size wr w2 := ((Below.refl _ wr).alloc (Nat.le_refl _) _).trans (hb2.mono (by simp))
          replace HM := Lib.hid (HM.out.keep hba)
          replace HB := Lib.hid (HB.out.trans (hba.mono HSZ.out))
          replace HSZ := Lib.hid (Nat.le_trans HSZ.out hba.size)
          generalize wr.heap.size = BX at *
          clear hx hb2 hba c1 c2 c3
          cases IN with
          | true =>
            replace HM := Lib.hid (HSK.out rfl _ HM.out)
            clear HPU
            go_wp2_with fail
            go_roundw
            case rel => exact ⟨_, _, _, _, _, _, _, _, _, _, _, _, _, _, _, _, _, _, _, _, _, _, _, ⟨i, j + 1, by omega, by omega, rfl, by go_num, HM.out, HSZ.out, HB.out⟩, rfl⟩
            case measure => simp [intOf]; omega
          | false =>
            have HM2 := Lib.hid (HPU.out rfl _ HM.out)
            have HB2 := Lib.hid (below_setCells hb [.string x, .bool d, .slice qb nb cb] (i * 3) _ HB.out)
            have HS2 : Hid (base ≤ (w2.setCells g (i * 3) [.string x, .bool d, .slice qb nb cb]).heap.size) := Lib.hid (Nat.le_trans HSZ.out (below_setCells (Nat.zero_le g) [.string x, .bool d, .slice qb nb cb] (i * 3) _ (Below.refl 0 w2)).size)
            clear HSK HPU
            have ht := HTH.out _ HM.out
            obtain ⟨u0, hu0⟩ := Option.isSome_iff_exists.1 (ht 0 (by omega)).1
            obtain ⟨u1, hu1⟩ := Option.isSome_iff_exists.1 (ht 1 (by omega)).1
            obtain ⟨u2, hu2⟩ := Option.isSome_iff_exists.1 (ht 2 (by omega)).1
            have hf0 := (ht 0 (by omega)).2
            have hf1 := (ht 1 (by omega)).2
            have hf2 := (ht 2 (by omega)).2
            rw [Nat.add_zero] at hu0 hf0
            clear ht HM HB HSZ
            go_wp2_with fail
            go_roundw
            case rel => exact ⟨_, _, _, _, _, _, _, _, _, _, _, _, _, _, _, _, _, _, _, _, _, _, _, ⟨i + 1, j + 1, by omega, by omega, by go_num, by go_num, HM2.out, HS2.out, HB2.out⟩, rfl⟩
            case measure => simp [intOf]; omega
        · have hjl : j = C.length := by omega
          subst hjl
          have k0 : ¬ (C.length : Int) < (C.length : Int) := by omega
          have kic : (i : Int) ≤ (cap : Int) := by omega
          have kil : (i : Int) ≤ (C.length : Int) := by omega
          have kci : (cap = i) = False := eq_false (by omega)
          obtain ⟨M, hM1, hM2, hM3, hM4⟩ := HM.out
          rw [List.take_length] at hM3 hM4
          rw [List.drop_length, rowC_nil, List.nil_append] at hM4
          obtain ⟨Z, hZ⟩ : ∃ Z, (Builtin.zeroCells (Value.agg #[.string ⟨#[]⟩, .bool false, .slice none 0 0]).cells (C.length - i)).toList = Z := ⟨_, rfl⟩
          have hZl : Z.length = 3 * (C.length - i) := by rw [← hZ, Array.length_toList, zeroC_len, Nat.mul_comm]
          have hZ1 : ∀ v ∈ Z, v.oneCell' = true := fun v hv => by
            rw [← hZ] at hv
            exact zeroC_one _ v hv
          have hr : (rowC (outT C)).length = i * 3 := by rw [rowC_len, ← hM3, Nat.mul_comm]
          have hcl : ∀ ty, (Builtin.clear_ #[23] ty #[.slice (some ⟨g, i * 3, none⟩) (C.length - i) (cap - i)]).run Tryd.prog wr = .ok (.tuple #[]) (wr.setCells g (i * 3) Z) :=
            fun ty => run_clear_cells (P := Tryd.prog) wr 23 32 ty _ Tryd.underlying23 Tryd.zeroValue32 Z (C.length - i) g (i * 3) _ (by omega) hZ hZ1
              (fun t ht => by rw [hM4.cell, List.getElem?_eq_getElem (by rw [List.length_append, List.length_append, hr, hM1]; omega)]; rfl) (fun t ht => hM4.free _)
          have HB2 := Lib.hid (below_setCells hb Z (i * 3) _ HB.out)
          have h6 := hM4.swap (Y := Z) (by rw [hM1, hZl])
          rw [hr] at h6
          have HF : Hid (OwnT (wr.setCells g (i * 3) Z) base (.slice (some ⟨g, 0, none⟩) i cap) (outT C)) := Lib.hid (by
            have h7 := OwnT.of (cap := cap) hb h6 (by omega) HCM.out (by rw [← hM3, List.length_append, hZl]; have := HL.out; omega)
            rw [← hM3] at h7
            exact h7)
          clear hM1 hM2 hM3 hM4 hZ hZl hZ1 hr h6 HM HB HSZ hlt
          go_wp2_with fail
          go_ret
          exact ⟨⟨_, rfl, HF.out⟩, HB2.out⟩
end Go.Proofs.YthpendoblgndcaaDoor
/- Contracts: package tree's Bytes, Clean. Conditions: at most 1000 entries, all bytes together at most 2^62, paths shorter than 2^63 bytes. -/
namespace Go.Proofs.YthpendoblgndcaaDoor
open Go.RowKit
theorem own_slice' {w : World} {base n size : Nat} {e : TypeId} {v : Value} {xs : List Value} (h : w.ownsRow base e size v n xs) : ∃ x m c, v = .slice x m c := by
  rcases h.2 with ⟨rfl, _⟩ | ⟨g, cap, cur, rfl, _⟩
  · exact ⟨_, _, _, rfl⟩
  · exact ⟨_, _, _, rfl⟩
theorem OwnT.set {w : World} {base : Nat} {v : Value} {C : List Ent} (h : OwnT w base v C) {p : Addr} (hp : p.block < base) (u : Value) : OwnT (w.setCell p u) base v C := by
  rcases h.has with ⟨rfl, rfl⟩ | ⟨g, cap, l, rfl, hb, hg, h1, h2, h3⟩
  · exact OwnT.nil _ _
  · exact OwnT.of hb (hg.off (by omega) u) h1 h2 h3
def bytesP (C : List Ent) : Nat := if goodP C = true then bytesT C else 0
set_option maxHeartbeats 4000000 in
set_option maxRecDepth 100000 in
theorem tbytes_any (C : List Ent) (q : Option Addr) (c : Nat) (hm : C.length ≤ 100000) (hcap : C.length ≤ c) (hb : bytesT C ≤ 4611686018427387904) (hn : ∀ e ∈ C, e.1.size < 9223372036854775808) (w : World) (hs : Sees w w.heap.size q (rowC C)) (hE : Ents w C) :
    Calls Tryd.prog 19 #[.agg #[.slice q C.length c]] w fun e w' => e = .returned (.int .i64 (bytesP C : Int)) ∧ Below w.heap.size w w' := by
  have HG := Lib.hid (fun w1 (h : Below w.heap.size w w1) => tgood_any C q c hm hcap hb hn w1 ((hs.keep h).more h.size) (hE.keep h))
  have HZ := Lib.hid (fun w1 (h : Below w.heap.size w w1) => tsize_any C q c hm hb w1 ((hs.keep h).more h.size) (hE.keep h))
  have HB : Hid (Below w.heap.size w (w.alloc (.cells #[.slice q C.length c] 25))) := Lib.hid ((Below.refl _ _).alloc (Nat.le_refl _) _)
  have HX : Hid (Has (w.alloc (.cells #[.slice q C.length c] 25)) w.heap.size 25 [.slice q C.length c]) := Lib.hid (Has.made w _ _)
  unfold bytesP
  clear hs hE
  generalize goodP C = GC at *
  generalize bytesT C = N at *
  go_enter Tryd.func19, Tryd.ntmps19
  go_wp2_with fail
  refine (HG.out _ HB.out).mono ?_
  rintro e w1 ⟨rfl, hb⟩
  replace HB := Lib.hid (HB.out.trans (hb.mono HB.out.size))
  replace HX := Lib.hid (HX.out.keep hb HX.out.lt)
  clear hb
  cases GC with
  | false =>
    go_wp2_with fail
    go_ret
    exact ⟨rfl, HB.out⟩
  | true =>
    have cx := HX.out.cellv (i := 0) (v := .slice q C.length c) rfl
    go_wp2_with fail
    refine (HZ.out _ HB.out).mono ?_
    rintro e w2 ⟨rfl, hb⟩
    replace HB := Lib.hid (HB.out.trans (hb.mono HB.out.size))
    clear hb
    go_wp2_with fail
    go_ret
    exact ⟨rfl, HB.out⟩
def cleanP (C : List Ent) : List Ent := if goodP C = true then outT C else C
set_option maxHeartbeats 4000000 in
set_option maxRecDepth 100000 in
theorem tclean_any (C : List Ent) (q : Option Addr) (c : Nat) (hm : C.length ≤ 1000) (hcap : C.length ≤ c) (hq : q = none → c = 0) (hb : bytesT C ≤ 4611686018427387904) (hn : ∀ e ∈ C, e.1.size < 9223372036854775808) (w : World) (hs : Sees w w.heap.size q (rowC C)) (hE : Ents w C) :
    Calls Tryd.prog 16 #[.agg #[.slice q C.length c]] w fun e w' => (∃ v, e = .returned (.agg #[v]) ∧ TrV w' v (cleanP C)) ∧ Below w.heap.size w w' := by
  have HG := Lib.hid (fun w1 (h : Below w.heap.size w w1) => tgood_any C q c (by omega) hcap hb hn w1 ((hs.keep h).more h.size) (hE.keep h))
  have HCL := Lib.hid (fun w1 (h : Below w.heap.size w w1) => tclone_any C q c (by omega) w1 hq ((hs.keep h).more h.size) (hE.keep h))
  have HDF := Lib.hid (fun v w1 base (h : Below w.heap.size w w1) (hO : OwnT w1 base v C) (h2 : base ≤ w1.heap.size) => tdeleteF_any C v base hm hn w1 h2 hO (hE.keep h))
  have HTR : Hid (∀ w', Below w.heap.size w w' → TrV w' (.slice q C.length c) C) := Lib.hid (fun w' h => ⟨q, c, rfl, hcap, hq, (hs.keep h).more h.size⟩)
  have HB : Hid (Below w.heap.size w ((w.alloc (.cells #[.slice q C.length c] 25)).alloc (.cells #[.slice none 0 0] 25))) := Lib.hid (((Below.refl _ _).alloc (Nat.le_refl _) _).alloc (by simp) _)
  have HX : Hid (Has ((w.alloc (.cells #[.slice q C.length c] 25)).alloc (.cells #[.slice none 0 0] 25)) w.heap.size 25 [.slice q C.length c]) := Lib.hid ((Has.made w _ _).alloc _)
  have HY : Hid (Has ((w.alloc (.cells #[.slice q C.length c] 25)).alloc (.cells #[.slice none 0 0] 25)) (w.heap.size + 1) 25 [.slice none 0 0]) := Lib.hid (Has.made1 w _ _ _ _ rfl)
  unfold cleanP
  clear hs hE hq
  generalize goodP C = GC at *
  go_enter Tryd.func16, Tryd.ntmps16
  go_wp2_with fail
  refine (HG.out _ HB.out).mono ?_
  rintro e w1 ⟨rfl, hb⟩
  replace HB := Lib.hid (HB.out.trans (hb.mono HB.out.size))
  replace HX := Lib.hid (HX.out.keep hb HX.out.lt)
  replace HY := Lib.hid (HY.out.keep hb HY.out.lt)
  clear hb
  cases GC with
  | false =>
    have cx := HX.out.cellv (i := 0) (v := .slice q C.length c) rfl
    have cy := HY.out.cellv (i := 0) (v := .slice none 0 0) rfl
    have fy := HY.out.free 0
    go_wp2_with fail
    have cz : (w1.setCell ⟨w.heap.size + 1, 0, none⟩ (.slice q C.length c)).cell? ⟨w.heap.size + 1, 0, none⟩ = some (.slice q C.length c) := World.cell?_setCell_same' _ _ _ (by rw [cy]; rfl)
    refine bodyPost_ret (by simp [results, Tryd.results16, go_sem, cz]; try rfl) rfl ?_
    exact ⟨⟨_, rfl, HTR.out _ (HB.out.setCell (p := ⟨w.heap.size + 1, 0, none⟩) (by show w.heap.size ≤ w.heap.size + 1; omega) _)⟩, HB.out.setCell (p := ⟨w.heap.size + 1, 0, none⟩) (by show w.heap.size ≤ w.heap.size + 1; omega) _⟩
  | true =>
    have cx := HX.out.cellv (i := 0) (v := .slice q C.length c) rfl
    go_wp2_with fail
    have HYL0 := Lib.hid HY.out.lt
    refine (HCL.out _ HB.out).mono ?_
    rintro e w2 ⟨⟨v2, rfl, hO2⟩, hb⟩
    have HO2 := Lib.hid hO2
    have HZ2 := Lib.hid (HB.out.size)
    replace HB := Lib.hid (HB.out.trans (hb.mono HB.out.size))
    replace HY := Lib.hid (HY.out.keep hb HY.out.lt)
    have HS2 := Lib.hid hb.size
    have HYL := Lib.hid HYL0.out
    clear hb hO2 cx HYL0
    go_wp2_with fail
    refine (HDF.out _ _ _ HB.out HO2.out HS2.out).mono ?_
    rintro e w3 ⟨⟨v3, rfl, hO3⟩, hb⟩
    replace HY := Lib.hid (HY.out.keep hb HYL.out)
    replace HB := Lib.hid (HB.out.trans (hb.mono HZ2.out))
    obtain ⟨x5, m5, k5, rfl⟩ := own_slice' hO3
    have HO3 := Lib.hid hO3
    clear hb hO3 HO2
    have cy := HY.out.cellv (i := 0) (v := .slice none 0 0) rfl
    have fy := HY.out.free 0
    go_wp2_with fail
    have cz : (w3.setCell ⟨w.heap.size + 1, 0, none⟩ (.slice x5 m5 k5)).cell? ⟨w.heap.size + 1, 0, none⟩ = some (.slice x5 m5 k5) := World.cell?_setCell_same' _ _ _ (by rw [cy]; rfl)
    refine bodyPost_ret (by simp [results, Tryd.results16, go_sem, cz]; try rfl) rfl ?_
    refine ⟨⟨_, rfl, ?_⟩, HB.out.setCell (p := ⟨w.heap.size + 1, 0, none⟩) (by show w.heap.size ≤ w.heap.size + 1; omega) _⟩
    exact (HO3.out.set (p := ⟨w.heap.size + 1, 0, none⟩) HYL.out _).tr
end Go.Proofs.YthpendoblgndcaaDoor
