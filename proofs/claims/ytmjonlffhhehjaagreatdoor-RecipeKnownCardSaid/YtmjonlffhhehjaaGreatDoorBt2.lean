/- Contract: package tree's upIn. Conditions: the entries are in order; texts shorter than 2^61 bytes. -/
import Derived.Test.YtmjonlffhhehjaaGreatDoorBt1
import Derived.Lib.Overlaps
import Derived.Lib.SliceRun
import Derived.Laws.IdiomCopy
import Derived.Lib.AppendZerosOnto
import Derived.Shelf.Spec.SlicesInsert
import Derived.Shelf.Slices.Delete
import Derived.Handy
import Derived.Test.YtmjonlffhhehjaaGreatDoorBa1
namespace Go.Proofs.YtmjonlffhhehjaaGreatDoor
open Go.RowKit
/-- Entries in path's order. -/
def AscE (C : List Ent) : Prop := C.Pairwise fun a b => cmpT a.pa b.pa < 0
theorem cmpL_lt_le {p q r : Tx} (h1 : cmpT p q < 0) (h2 : cmpT q r ≤ 0) : cmpT p r < 0 := by
  have h3 := cmpT_trans (Int.le_of_lt h1) h2
  rcases Int.lt_or_le (cmpT p r) 0 with h | h
  · exact h
  · exfalso
    have h0 : cmpT p r = 0 := by omega
    have e := cmpT_zero.1 h0
    subst e
    rw [cmpT_neg] at h2
    omega
theorem cmpL_le_lt {p q r : Tx} (h1 : cmpT p q ≤ 0) (h2 : cmpT q r < 0) : cmpT p r < 0 := by
  have h3 := cmpT_trans h1 (Int.le_of_lt h2)
  rcases Int.lt_or_le (cmpT p r) 0 with h | h
  · exact h
  · exfalso
    have h0 : cmpT p r = 0 := by omega
    have e := cmpT_zero.1 h0
    subst e
    rw [cmpT_neg] at h1
    omega
theorem AscE.lt {C : List Ent} (h : AscE C) {i j : Nat} (hi : i < C.length) (hj : j < C.length) (hij : i < j) : cmpT C[i].pa C[j].pa < 0 :=
  List.pairwise_iff_getElem.1 h i j hi hj hij
theorem AscE.up {C : List Ent} (h : AscE C) (p : Tx) : ∀ i j (hi : i < C.length) (hj : j < C.length), i ≤ j → cmpT C[j].pa p < 0 → cmpT C[i].pa p < 0 := fun i j hi hj hij hl => by
  rcases Nat.lt_or_eq_of_le hij with h1 | rfl
  · exact cmpL_lt_le (h.lt hi hj h1) (Int.le_of_lt hl)
  · exact hl
theorem AscE.take {C : List Ent} (h : AscE C) (k : Nat) : AscE (C.take k) := h.sublist (List.take_sublist k C)
/-- Found by halving is found at all. -/
theorem asc_atT : ∀ {C : List Ent}, AscE C → ∀ p, (hasT C p = true ∧ atT C p = (posT C p : Int) ∧ posT C p < C.length) ∨ (hasT C p = false ∧ atT C p = -1)
  | [], _, p => .inr ⟨rfl, rfl⟩
  | e :: C, h, p => by
    have h' := List.pairwise_cons.1 h
    by_cases hl : cmpT e.pa p < 0
    · have hp : posT (e :: C) p = posT C p + 1 := by unfold posT; rw [List.takeWhile_cons, if_pos (by simp [hl])]; rfl
      have hh : hasT (e :: C) p = hasT C p := by unfold hasT; rw [hp, List.getElem?_cons_succ]
      have hne : e.pa ≠ p := fun k => by rw [k, cmpT_self] at hl; omega
      rcases asc_atT h'.2 p with ⟨h1, h2, h3⟩ | ⟨h1, h2⟩
      · refine .inl ⟨hh.trans h1, ?_, by rw [hp, List.length_cons]; omega⟩
        unfold atT; rw [if_neg hne, if_neg (by rw [h2]; omega), h2, hp]; rfl
      · refine .inr ⟨hh.trans h1, ?_⟩
        unfold atT; rw [if_neg hne, if_pos (by rw [h2]; decide)]
    · have hp : posT (e :: C) p = 0 := by unfold posT; rw [List.takeWhile_cons, if_neg (by simp [hl])]; rfl
      have hh : hasT (e :: C) p = decide (cmpT e.pa p = 0) := by unfold hasT; rw [hp]; rfl
      by_cases h0 : cmpT e.pa p = 0
      · refine .inl ⟨by rw [hh]; simp [h0], ?_, by rw [hp]; simp⟩
        unfold atT; rw [if_pos (cmpT_zero.1 h0), hp]; rfl
      · refine .inr ⟨by rw [hh]; simp [h0], atT_no fun x hx => ?_⟩
        rcases List.mem_cons.1 hx with rfl | hx
        · exact fun k => h0 (cmpT_zero.2 k)
        · intro k
          have := h'.1 x hx
          rw [k] at this
          exact hl this
theorem upV_len (p : Tx) : (upV p).length ≤ p.length := by
  unfold upV
  split
  · exact (up_less p).1
  · simp
set_option maxHeartbeats 4000000 in
set_option maxRecDepth 100000 in
theorem tupIn_any (C : List Ent) (q : Option Addr) (c : Nat) (p : ByteArray) (hm : C.length ≤ 100000) (hn : ∀ e ∈ C, e.1.size < 9223372036854775808) (hA : AscE C) (hp : p.size < 2305843009213693952) (w : World) (hs : Sees w w.heap.size q (rowC C)) :
    Calls Tryz.prog 70 #[.slice q C.length c, .string p] w fun e w' => e = .returned (.int .i64 (roomT C p.data.toList)) ∧ Below w.heap.size w w' := by
  have HS := Lib.hid hs
  have HU := Lib.hid (fun w1 => up_any p hp w1)
  clear hs
  obtain ⟨U, hU⟩ : ∃ U : ByteArray, (⟨(upV p.data.toList).toArray⟩ : ByteArray) = U := ⟨_, rfl⟩
  rw [hU] at HU
  have hUt : upV p.data.toList = U.data.toList := by rw [← hU]
  have hUs : U.size < 9223372036854775808 := by
    have h1 := upV_len p.data.toList
    rw [hUt] at h1
    have h2 : U.size = U.data.toList.length := rfl
    have h3 : p.size = p.data.toList.length := rfl
    omega
  obtain ⟨V, hV⟩ : ∃ V, roomT C p.data.toList = V := ⟨_, rfl⟩
  rw [hV]
  unfold roomT at hV
  rw [hUt] at hV
  have HV := Lib.hid hV
  have HWH := Lib.hid (fun w1 h => twhere_any C q c U hm hn hUs (hA.up _) w1 h)
  have HAT := Lib.hid (asc_atT hA U.data.toList)
  generalize okPath p.data.toList = G at *
  clear hV hU hUt hn hA hUs hp
  go_enter Tryz.func70, Tryz.ntmps70
  go_wp2_with fail
  refine (HU.out _).mono ?_
  rintro e w1 ⟨rfl, hb⟩
  have HB := Lib.hid hb
  clear hb
  by_cases hU : U.data = #[]
  · have hv : V = 0 := by rw [← HV.out, hU]; rfl
    subst hv
    have k1 := no_text hU
    clear hU
    go_wp2_with fail
    go_ret
    exact ⟨rfl, HB.out⟩
  · have k1 := some_text hU
    have hne : U.data.toList ≠ [] := fun e => hU (by simpa using e)
    have hv := HV.out
    rw [if_neg hne] at hv
    have HV2 := Lib.hid hv
    clear hne hU hv
    go_wp2_with fail
    refine (HWH.out _ ((HS.out.keep HB.out).more HB.out.size)).mono ?_
    rintro e w2 ⟨rfl, hb⟩
    replace HB := Lib.hid (HB.out.trans (hb.mono HB.out.size))
    clear hb
    rcases HAT.out with ⟨h1, h2, h3⟩ | ⟨h1, h2⟩
    · rw [h1]
      have hv := HV2.out
      rw [h2, if_neg (by omega)] at hv
      have hv2 : (if dirT C (posT C U.data.toList) = true then (0 : Int) else 7) = V := by simpa using hv
      obtain ⟨a, rfl, ha, hc⟩ := HS.out.ent h3
      obtain ⟨c1, c2, c3⟩ := hc w2 HB.out
      have hd : dirT C (posT C U.data.toList) = C[posT C U.data.toList].2.1 := by unfold dirT; rw [List.getElem?_eq_getElem h3]; rfl
      rw [hd] at hv2
      generalize C[posT C U.data.toList].2.1 = D at *
      generalize C[posT C U.data.toList].1 = x at *
      generalize C[posT C U.data.toList].2.2.1 = bv at *
      generalize posT C U.data.toList = K at *
      have kk : (K : Int) < (C.length : Int) := by omega
      clear hv hc ha HWH h1 h2 HAT HV2 HV
      subst hv2
      cases D with
      | true =>
        go_wp2_with fail
        go_ret
        exact ⟨rfl, HB.out⟩
      | false =>
        go_wp2_with fail
        go_ret
        exact ⟨rfl, HB.out⟩
    · rw [h1]
      have hv := HV2.out
      rw [h2] at hv
      have hv2 : (5 : Int) = V := by simpa using hv
      clear hv HWH h1 h2 HAT HV2 HV
      subst hv2
      go_wp2_with fail
      go_ret
      exact ⟨rfl, HB.out⟩
end Go.Proofs.YtmjonlffhhehjaaGreatDoor
/- Contract: the document's own 'with': a tree with one more entry, in its place. Conditions: at most 10^5 entries, paths of at most 2^20 bytes. -/
namespace Go.Proofs.YtmjonlffhhehjaaGreatDoor
open Go.RowKit
def withT : List Ent → Ent → Bool → List Ent
  | [], e, done => if done then [] else [e]
  | y :: r, e, done => (if !done && decide (0 ≤ cmpT y.pa e.pa) then [e] else []) ++ ((if y.pa == e.pa then [] else [y]) ++ withT r e (done || decide (0 ≤ cmpT y.pa e.pa)))
theorem withT_cons (y e : Ent) (r : List Ent) (done b1 b2 : Bool) (h1 : (y.pa == e.pa) = b1) (h2 : decide (0 ≤ cmpT y.pa e.pa) = b2) : withT (y :: r) e done = (if !done && b2 then [e] else []) ++ ((if b1 then [] else [y]) ++ withT r e (done || b2)) := by rw [withT, h1, h2]
end Go.Proofs.YtmjonlffhhehjaaGreatDoor
/- Contract: the document's own GoodTree. -/
namespace Go.Proofs.YtmjonlffhhehjaaGreatDoor
open Go.RowKit
def prevB (prev : Option Ent) (x : Tx) : Bool := match prev with | none => true | some y => decide (cmpT y.pa x < 0)
def upB (C : List Ent) (x : Tx) : Bool := decide (upV x = []) || (decide (0 ≤ atT C (upV x)) && dirT C (atT C (upV x)).toNat)
/-- One entry may stand there, behind that one. -/
def okE (C : List Ent) (prev : Option Ent) (e : Ent) : Bool :=
  okPath e.pa && (prevB prev e.pa && (!(e.dir && decide (0 < e.by.length)) && (decide (e.by.length ≤ 2048) && upB C e.pa)))
def goodR (C : List Ent) : List Ent → Option Ent → Bool
  | [], _ => true
  | e :: r, prev => okE C prev e && goodR C r (some e)
def goodT (C : List Ent) : Bool := goodR C C none && (decide (C.length ≤ 40) && decide (bytesT C ≤ 16384))
def prevOf (C : List Ent) (i : Nat) : Option Ent := if i = 0 then none else C[i - 1]?
end Go.Proofs.YtmjonlffhhehjaaGreatDoor
/- Contract: package tree's behind. Condition: paths shorter than 2^63 bytes. -/
namespace Go.Proofs.YtmjonlffhhehjaaGreatDoor
open Go.RowKit
set_option maxHeartbeats 4000000 in
set_option maxRecDepth 100000 in
theorem tbehind_any (C : List Ent) (q : Option Addr) (c : Nat) (x : ByteArray) (d : Bool) (bv : Value) (hn : ∀ e ∈ C, e.1.size < 9223372036854775808) (hx : x.size < 9223372036854775808) (w : World) (hs : Sees w w.heap.size q (rowC C)) (h64 : C.length ≤ 100000) :
    Calls Tryz.prog 69 #[.slice q C.length c, .agg #[.string x, .bool d, bv]] w fun e w' => e = .returned (.bool (prevB C.getLast? x.data.toList)) ∧ Below w.heap.size w w' := by
  have HS := Lib.hid hs
  have HN := Lib.hid hn
  have HX : Hid (Has (w.alloc (.cells #[.string x, .bool d, bv] 47)) w.heap.size 47 [.string x, .bool d, bv]) := Lib.hid (Has.made w 47 #[.string x, .bool d, bv])
  have HB : Hid (Below w.heap.size w (w.alloc (.cells #[.string x, .bool d, bv] 47))) := Lib.hid ((Below.refl _ w).alloc (Nat.le_refl _) _)
  obtain ⟨V, hV⟩ : ∃ V, prevB C.getLast? x.data.toList = V := ⟨_, rfl⟩
  rw [hV]
  clear hs hn
  go_enter Tryz.func69, Tryz.ntmps69
  go_wp2_with fail
  by_cases h0 : C = []
  · subst h0
    have hv : V = true := hV.symm
    subst hv
    clear hV
    have k0 : ([] : List Ent).length = 0 := rfl
    refine wp_region_org [(0, true), (1, true), (2, true), (3, true), (4, true), (5, true), (6, true), (7, true), (8, true), (9, true), (10, true), (11, true), (12, true), (13, false), (14, true), (15, true), (16, true)] (by kernel_rfl) (by kernel_rfl) (by kernel_rfl) ?_
    replace HB := Lib.hid (HB.out.drew)
    replace HX := Lib.hid (HX.out.drew)
    generalize (w.alloc (.cells #[.string x, .bool d, bv] 47)).drew = wd at *
    simp only [pickOrs, List.getElem?_cons_zero, List.getElem?_cons_succ]
    refine org_pure (v := ?_) (by kernel_rfl) ?_ ?_
    rotate_left
    · intro w' hv; clear hv; go_simp; try with_reducible rfl
    try simp only [Act.put, List.setIfInBounds_toArray, List.set_cons_zero, List.set_cons_succ]
    refine org_pure (v := ?_) (by kernel_rfl) ?_ ?_
    rotate_left
    · intro w' hv; clear hv; go_simp; try with_reducible rfl
    try simp only [Act.put, List.setIfInBounds_toArray, List.set_cons_zero, List.set_cons_succ]
    refine org_pure (v := ?_) (by kernel_rfl) ?_ ?_
    rotate_left
    · intro w' hv; clear hv; go_simp; try with_reducible rfl
    try simp only [Act.put, List.setIfInBounds_toArray, List.set_cons_zero, List.set_cons_succ]
    refine org_pure (v := ?_) (by kernel_rfl) ?_ ?_
    rotate_left
    · intro w' hv; clear hv; go_simp; try with_reducible rfl
    try simp only [Act.put, List.setIfInBounds_toArray, List.set_cons_zero, List.set_cons_succ]
    refine org_skip (by kernel_rfl) ?_
    try simp only [Act.put, List.setIfInBounds_toArray, List.set_cons_zero, List.set_cons_succ]
    refine org_skip (by kernel_rfl) ?_
    try simp only [Act.put, List.setIfInBounds_toArray, List.set_cons_zero, List.set_cons_succ]
    refine org_skip (by kernel_rfl) ?_
    try simp only [Act.put, List.setIfInBounds_toArray, List.set_cons_zero, List.set_cons_succ]
    refine org_skip (by kernel_rfl) ?_
    try simp only [Act.put, List.setIfInBounds_toArray, List.set_cons_zero, List.set_cons_succ]
    refine org_skip (by kernel_rfl) ?_
    try simp only [Act.put, List.setIfInBounds_toArray, List.set_cons_zero, List.set_cons_succ]
    refine org_skip (by kernel_rfl) ?_
    try simp only [Act.put, List.setIfInBounds_toArray, List.set_cons_zero, List.set_cons_succ]
    refine org_skip (by kernel_rfl) ?_
    try simp only [Act.put, List.setIfInBounds_toArray, List.set_cons_zero, List.set_cons_succ]
    refine org_skip (by kernel_rfl) ?_
    try simp only [Act.put, List.setIfInBounds_toArray, List.set_cons_zero, List.set_cons_succ]
    refine org_skip (by kernel_rfl) ?_
    try simp only [Act.put, List.setIfInBounds_toArray, List.set_cons_zero, List.set_cons_succ]
    refine org_pass (by kernel_rfl) ?_
    try simp only [Act.put, List.setIfInBounds_toArray, List.set_cons_zero, List.set_cons_succ]
    refine org_skip (by kernel_rfl) ?_
    try simp only [Act.put, List.setIfInBounds_toArray, List.set_cons_zero, List.set_cons_succ]
    refine org_pure (v := ?_) (by kernel_rfl) ?_ ?_
    rotate_left
    · intro w' hv; clear hv; go_simp; try with_reducible rfl
    try simp only [Act.put, List.setIfInBounds_toArray, List.set_cons_zero, List.set_cons_succ]
    refine org_pure (v := ?_) (by kernel_rfl) ?_ ?_
    rotate_left
    · intro w' hv; clear hv; go_simp; try with_reducible rfl
    try simp only [Act.put, List.setIfInBounds_toArray, List.set_cons_zero, List.set_cons_succ]
    refine org_nil ?_
    go_wp2_with fail
    go_ret
    exact ⟨rfl, HB.out⟩
  · obtain ⟨n1, hn1⟩ : ∃ n1, C.length = n1 + 1 := ⟨C.length - 1, by have := List.length_pos_iff.2 h0; omega⟩
    have hl : n1 < C.length := by omega
    have kl : (C.length : Int) - 1 = (n1 : Int) := by omega
    have kne : ((C.length : Int) = 0) = False := eq_false (by omega)
    have kbe : ((C.length : Int) == 0) = false := by simp; exact h0
    have kk : (n1 : Int) < (C.length : Int) := by omega
    obtain ⟨a, rfl, ha, hc⟩ := HS.out.ent hl
    have HCX : Hid (∀ w', Below w.heap.size w w' → w'.cell? (a.add (n1 * 3)) = some (.string C[n1].1)) := Lib.hid (fun w' h => (hc w' h).1)
    have hsz := HN.out C[n1] (List.getElem_mem hl)
    have hlast : C.getLast? = some C[n1] := by rw [List.getLast?_eq_getElem?, hn1, Nat.add_sub_cancel, List.getElem?_eq_getElem hl]
    rw [hlast] at hV
    have hpb : prevB (some C[n1]) x.data.toList = decide (cmpT C[n1].1.data.toList x.data.toList < 0) := rfl
    rw [hpb] at hV
    have kw : IntKind.i64.wrap (n1 : Int) = (n1 : Int) := IntWalk.i64_in _ (by omega)
    clear hc ha hlast hpb h0 hn1
    generalize C[n1].1 = y at *
    have HCM := Lib.hid (fun w1 => pcmp_any y x hsz hx w1)
    clear hsz
    generalize cmpT y.data.toList x.data.toList = KK at *
    by_cases hneg : KK < 0
    · have kK : (KK < 0) = True := eq_true hneg
      rw [decide_eq_true hneg] at hV
      subst hV
      refine wp_region_org [(0, true), (1, true), (2, true), (3, true), (4, true), (5, true), (6, true), (7, true), (8, true), (9, true), (10, true), (11, true), (12, true), (13, false), (14, true), (15, true), (16, true)] (by kernel_rfl) (by kernel_rfl) (by kernel_rfl) ?_
      replace HB := Lib.hid (HB.out.drew)
      replace HX := Lib.hid (HX.out.drew)
      generalize (w.alloc (.cells #[.string x, .bool d, bv] 47)).drew = wd at *
      simp only [pickOrs, List.getElem?_cons_zero, List.getElem?_cons_succ]
      refine org_pure (v := ?_) (by kernel_rfl) ?_ ?_
      rotate_left
      · intro w' hv; clear hv; go_simp; try with_reducible rfl
      try simp only [Act.put, List.setIfInBounds_toArray, List.set_cons_zero, List.set_cons_succ]
      refine org_pure (v := ?_) (by kernel_rfl) ?_ ?_
      rotate_left
      · intro w' hv; clear hv; go_simp; try with_reducible rfl
      try simp only [Act.put, List.setIfInBounds_toArray, List.set_cons_zero, List.set_cons_succ]
      refine org_pure (v := ?_) (by kernel_rfl) ?_ ?_
      rotate_left
      · intro w' hv; clear hv; go_simp; try with_reducible rfl
      try simp only [Act.put, List.setIfInBounds_toArray, List.set_cons_zero, List.set_cons_succ]
      refine org_pure (v := ?_) (by kernel_rfl) ?_ ?_
      rotate_left
      · intro w' hv; clear hv; go_simp; try with_reducible rfl
      try simp only [Act.put, List.setIfInBounds_toArray, List.set_cons_zero, List.set_cons_succ]
      refine org_pure (v := ?_) (by kernel_rfl) ?_ ?_
      rotate_left
      · intro w' hv; clear hv; go_simp; try with_reducible rfl
      try simp only [Act.put, List.setIfInBounds_toArray, List.set_cons_zero, List.set_cons_succ]
      refine org_pure (v := ?_) (by kernel_rfl) ?_ ?_
      rotate_left
      · intro w' hv; clear hv; go_simp; try with_reducible rfl
      try simp only [Act.put, List.setIfInBounds_toArray, List.set_cons_zero, List.set_cons_succ]
      refine org_pure (v := ?_) (by kernel_rfl) ?_ ?_
      rotate_left
      · intro w' hv; clear hv; go_simp; try with_reducible rfl
      try simp only [Act.put, List.setIfInBounds_toArray, List.set_cons_zero, List.set_cons_succ]
      refine org_pure (v := ?_) (by kernel_rfl) ?_ ?_
      rotate_left
      · intro w' hv; clear hv; go_simp; try with_reducible rfl
      try simp only [Act.put, List.setIfInBounds_toArray, List.set_cons_zero, List.set_cons_succ]
      refine org_pure (v := ?_) (by kernel_rfl) ?_ ?_
      rotate_left
      · intro w' hv; clear hv; go_simp; try with_reducible rfl
      try simp only [Act.put, List.setIfInBounds_toArray, List.set_cons_zero, List.set_cons_succ]
      refine org_pure (v := ?_) (by kernel_rfl) ?_ ?_
      rotate_left
      · intro w' hv; clear hv; go_simp; try with_reducible rfl
      try simp only [Act.put, List.setIfInBounds_toArray, List.set_cons_zero, List.set_cons_succ]
      refine org_pure (v := ?_) (by kernel_rfl) ?_ ?_
      rotate_left
      · intro w' hv; have cp := HCX.out w' (HB.out.trans (Below.mono hv HB.out.size)); clear hv; go_simp; try with_reducible rfl
      try simp only [Act.put, List.setIfInBounds_toArray, List.set_cons_zero, List.set_cons_succ]
      refine org_pure (v := ?_) (by kernel_rfl) ?_ ?_
      rotate_left
      · intro w' hv; clear hv; go_simp; try with_reducible rfl
      try simp only [Act.put, List.setIfInBounds_toArray, List.set_cons_zero, List.set_cons_succ]
      refine org_pure (v := ?_) (by kernel_rfl) ?_ ?_
      rotate_left
      · intro w' hv; have cq := (HX.out.keep hv HX.out.lt).cellv (i := 0) (v := .string x) rfl; clear hv; go_simp; try with_reducible rfl
      try simp only [Act.put, List.setIfInBounds_toArray, List.set_cons_zero, List.set_cons_succ]
      refine org_step (by kernel_rfl) (fun K hK => ?_)
      go_wp2_with fail
      refine (HCM.out _).mono ?_
      rintro e wx ⟨rfl, nq, hq⟩
      have hb : Below wd.heap.size wd wx := by rw [hq]; exact below_drewN (Below.refl _ _) _
      clear hq
      have HE2 := Lib.hid hb
      replace HB := Lib.hid (HB.out.trans (hb.mono HB.out.size))
      replace HX := Lib.hid (HX.out.keep hb HX.out.lt)
      clear hb
      refine hK _ _ ⟨HE2.out, ?_⟩
      clear hK HE2
      try simp only [Act.put, List.setIfInBounds_toArray, List.set_cons_zero, List.set_cons_succ]
      refine org_pure (v := ?_) (by kernel_rfl) ?_ ?_
      rotate_left
      · intro w' hv; clear hv; go_simp; try with_reducible rfl
      try simp only [Act.put, List.setIfInBounds_toArray, List.set_cons_zero, List.set_cons_succ]
      refine org_pure (v := ?_) (by kernel_rfl) ?_ ?_
      rotate_left
      · intro w' hv; clear hv; go_simp; try with_reducible rfl
      try simp only [Act.put, List.setIfInBounds_toArray, List.set_cons_zero, List.set_cons_succ]
      refine org_pure (v := ?_) (by kernel_rfl) ?_ ?_
      rotate_left
      · intro w' hv; clear hv; go_simp; try with_reducible rfl
      try simp only [Act.put, List.setIfInBounds_toArray, List.set_cons_zero, List.set_cons_succ]
      refine org_nil ?_
      go_wp2_with fail
      go_ret
      exact ⟨rfl, HB.out⟩
    · have kK : (KK < 0) = False := eq_false hneg
      rw [decide_eq_false hneg] at hV
      subst hV
      refine wp_region_org [(0, true), (1, true), (2, true), (3, true), (4, true), (5, true), (6, true), (7, true), (8, true), (9, true), (10, true), (11, true), (12, true), (13, false), (14, true), (15, true), (16, true)] (by kernel_rfl) (by kernel_rfl) (by kernel_rfl) ?_
      replace HB := Lib.hid (HB.out.drew)
      replace HX := Lib.hid (HX.out.drew)
      generalize (w.alloc (.cells #[.string x, .bool d, bv] 47)).drew = wd at *
      simp only [pickOrs, List.getElem?_cons_zero, List.getElem?_cons_succ]
      refine org_pure (v := ?_) (by kernel_rfl) ?_ ?_
      rotate_left
      · intro w' hv; clear hv; go_simp; try with_reducible rfl
      try simp only [Act.put, List.setIfInBounds_toArray, List.set_cons_zero, List.set_cons_succ]
      refine org_pure (v := ?_) (by kernel_rfl) ?_ ?_
      rotate_left
      · intro w' hv; clear hv; go_simp; try with_reducible rfl
      try simp only [Act.put, List.setIfInBounds_toArray, List.set_cons_zero, List.set_cons_succ]
      refine org_pure (v := ?_) (by kernel_rfl) ?_ ?_
      rotate_left
      · intro w' hv; clear hv; go_simp; try with_reducible rfl
      try simp only [Act.put, List.setIfInBounds_toArray, List.set_cons_zero, List.set_cons_succ]
      refine org_pure (v := ?_) (by kernel_rfl) ?_ ?_
      rotate_left
      · intro w' hv; clear hv; go_simp; try with_reducible rfl
      try simp only [Act.put, List.setIfInBounds_toArray, List.set_cons_zero, List.set_cons_succ]
      refine org_pure (v := ?_) (by kernel_rfl) ?_ ?_
      rotate_left
      · intro w' hv; clear hv; go_simp; try with_reducible rfl
      try simp only [Act.put, List.setIfInBounds_toArray, List.set_cons_zero, List.set_cons_succ]
      refine org_pure (v := ?_) (by kernel_rfl) ?_ ?_
      rotate_left
      · intro w' hv; clear hv; go_simp; try with_reducible rfl
      try simp only [Act.put, List.setIfInBounds_toArray, List.set_cons_zero, List.set_cons_succ]
      refine org_pure (v := ?_) (by kernel_rfl) ?_ ?_
      rotate_left
      · intro w' hv; clear hv; go_simp; try with_reducible rfl
      try simp only [Act.put, List.setIfInBounds_toArray, List.set_cons_zero, List.set_cons_succ]
      refine org_pure (v := ?_) (by kernel_rfl) ?_ ?_
      rotate_left
      · intro w' hv; clear hv; go_simp; try with_reducible rfl
      try simp only [Act.put, List.setIfInBounds_toArray, List.set_cons_zero, List.set_cons_succ]
      refine org_pure (v := ?_) (by kernel_rfl) ?_ ?_
      rotate_left
      · intro w' hv; clear hv; go_simp; try with_reducible rfl
      try simp only [Act.put, List.setIfInBounds_toArray, List.set_cons_zero, List.set_cons_succ]
      refine org_pure (v := ?_) (by kernel_rfl) ?_ ?_
      rotate_left
      · intro w' hv; clear hv; go_simp; try with_reducible rfl
      try simp only [Act.put, List.setIfInBounds_toArray, List.set_cons_zero, List.set_cons_succ]
      refine org_pure (v := ?_) (by kernel_rfl) ?_ ?_
      rotate_left
      · intro w' hv; have cp := HCX.out w' (HB.out.trans (Below.mono hv HB.out.size)); clear hv; go_simp; try with_reducible rfl
      try simp only [Act.put, List.setIfInBounds_toArray, List.set_cons_zero, List.set_cons_succ]
      refine org_pure (v := ?_) (by kernel_rfl) ?_ ?_
      rotate_left
      · intro w' hv; clear hv; go_simp; try with_reducible rfl
      try simp only [Act.put, List.setIfInBounds_toArray, List.set_cons_zero, List.set_cons_succ]
      refine org_pure (v := ?_) (by kernel_rfl) ?_ ?_
      rotate_left
      · intro w' hv; have cq := (HX.out.keep hv HX.out.lt).cellv (i := 0) (v := .string x) rfl; clear hv; go_simp; try with_reducible rfl
      try simp only [Act.put, List.setIfInBounds_toArray, List.set_cons_zero, List.set_cons_succ]
      refine org_step (by kernel_rfl) (fun K hK => ?_)
      go_wp2_with fail
      refine (HCM.out _).mono ?_
      rintro e wx ⟨rfl, nq, hq⟩
      have hb : Below wd.heap.size wd wx := by rw [hq]; exact below_drewN (Below.refl _ _) _
      clear hq
      have HE2 := Lib.hid hb
      replace HB := Lib.hid (HB.out.trans (hb.mono HB.out.size))
      replace HX := Lib.hid (HX.out.keep hb HX.out.lt)
      clear hb
      refine hK _ _ ⟨HE2.out, ?_⟩
      clear hK HE2
      try simp only [Act.put, List.setIfInBounds_toArray, List.set_cons_zero, List.set_cons_succ]
      refine org_pure (v := ?_) (by kernel_rfl) ?_ ?_
      rotate_left
      · intro w' hv; clear hv; go_simp; try with_reducible rfl
      try simp only [Act.put, List.setIfInBounds_toArray, List.set_cons_zero, List.set_cons_succ]
      refine org_pure (v := ?_) (by kernel_rfl) ?_ ?_
      rotate_left
      · intro w' hv; clear hv; go_simp; try with_reducible rfl
      try simp only [Act.put, List.setIfInBounds_toArray, List.set_cons_zero, List.set_cons_succ]
      refine org_pure (v := ?_) (by kernel_rfl) ?_ ?_
      rotate_left
      · intro w' hv; clear hv; go_simp; try with_reducible rfl
      try simp only [Act.put, List.setIfInBounds_toArray, List.set_cons_zero, List.set_cons_succ]
      refine org_nil ?_
      go_wp2_with fail
      go_ret
      exact ⟨rfl, HB.out⟩
end Go.Proofs.YtmjonlffhhehjaaGreatDoor
/- Contract: package tree's Good. Conditions: at most 10^5 entries, all bytes together at most 2^62, paths shorter than 2^63 bytes. -/
namespace Go.Proofs.YtmjonlffhhehjaaGreatDoor
open Go.RowKit
theorem rowC_app (A B : List Ent) : rowC (A ++ B) = rowC A ++ rowC B := by unfold rowC; exact List.flatMap_append ..
theorem rowC_take (C : List Ent) (i : Nat) : rowC (C.take i) = (rowC C).take (3 * i) := by
  have h := congrArg rowC (List.take_append_drop i C)
  rw [rowC_app] at h
  by_cases hi : i ≤ C.length
  · rw [← h, List.take_left' (by rw [rowC_len, List.length_take, Nat.min_eq_left hi])]
  · rw [List.take_of_length_le (by omega), List.take_of_length_le (by rw [rowC_len]; omega)]
theorem Sees.headE {w : World} {b : Nat} {q : Option Addr} {C : List Ent} (h : Sees w b q (rowC C)) (i : Nat) : Sees w b q (rowC (C.take i)) := by
  rw [rowC_take]; exact h.head _
theorem AscE.snoc {C : List Ent} {e : Ent} (h : AscE C) (hp : prevB C.getLast? e.pa = true) : AscE (C ++ [e]) := by
  refine List.pairwise_append.2 ⟨h, List.pairwise_singleton .., fun a ha b hb => ?_⟩
  rw [List.mem_singleton.1 hb]
  obtain ⟨i, hi, rfl⟩ := List.getElem_of_mem ha
  have hl : C.length - 1 < C.length := by omega
  rw [List.getLast?_eq_getElem?, List.getElem?_eq_getElem hl] at hp
  have h1 : cmpT C[C.length - 1].pa e.pa < 0 := of_decide_eq_true hp
  rcases Nat.lt_or_ge i (C.length - 1) with h2 | h2
  · exact cmpL_lt_le (h.lt hi hl h2) (Int.le_of_lt h1)
  · have : i = C.length - 1 := by omega
    subst this
    exact h1
/-- Good, entry by entry, as package tree looks. -/
def goodQ : List Ent → List Ent → Bool
  | _, [] => true
  | pre, e :: r => okEnt e && (prevB pre.getLast? e.pa && (decide (roomT pre e.pa = 0) && goodQ (pre ++ [e]) r))
def goodP (C : List Ent) : Bool := fitsT C && goodQ [] C
theorem ok_size {p : ByteArray} (h : okPath p.data.toList = true) : p.size ≤ 68 := by
  have hj := jn_nms p.data.toList
  unfold okPath at h
  rw [Bool.and_eq_true, decide_eq_true_eq, List.all_eq_true] at h
  have hl := jn_len (T := nms p.data.toList) (fun n hn => ⟨h.2 n hn, nms_no _ n hn⟩)
  rw [hj] at hl
  have : p.size = p.data.toList.length := rfl
  omega
set_option maxHeartbeats 16000000 in
set_option maxRecDepth 100000 in
theorem tgood_any (C : List Ent) (q : Option Addr) (c : Nat) (hm : C.length ≤ 100000) (hcap : C.length ≤ c) (hb : bytesT C ≤ 4611686018427387904) (hn : ∀ e ∈ C, e.1.size < 9223372036854775808) (w : World) (hs : Sees w w.heap.size q (rowC C)) (hE : Ents w C) :
    Calls Tryz.prog 32 #[.agg #[.slice q C.length c]] w fun e w' => e = .returned (.bool (goodP C)) ∧ Below w.heap.size w w' := by
  have HFT := Lib.hid (fun w1 h1 h2 => tfits_any C q c hm hb w1 h1 h2)
  have HS := Lib.hid hs
  have HE := Lib.hid hE
  have HN := Lib.hid hn
  obtain ⟨V, hV⟩ : ∃ V, goodP C = V := ⟨_, rfl⟩
  rw [hV]
  unfold goodP at hV
  have HV := Lib.hid hV
  clear hs hE hn hV
  generalize fitsT C = F at *
  go_enter Tryz.func32, Tryz.ntmps32
  go_wp2_with fail
  refine (HFT.out _ ((HS.out.keep ((Below.refl _ w).alloc (Nat.le_refl _) _)).more (by simp)) (HE.out.keep ((Below.refl _ w).alloc (Nat.le_refl _) _))).mono ?_
  rintro e w1 ⟨rfl, hb1⟩
  have HT : Hid (Has w1 w.heap.size 28 [.slice q C.length c]) := Lib.hid (boxed hb1)
  have HB := Lib.hid (((Below.refl _ w).alloc (Nat.le_refl _) (.cells #[.slice q C.length c] 28)).trans (hb1.mono (by simp)))
  clear hb1 HFT
  cases F with
  | false =>
    have hv : V = false := HV.out.symm
    subst hv
    go_wp2_with fail
    go_ret
    exact ⟨rfl, HB.out⟩
  | true =>
  have HQ : Hid (goodQ [] C = V) := Lib.hid HV.out
  clear HV
  have ct := HT.out.cellv (i := 0) (v := .slice q C.length c) rfl
  go_wp2_with fail
  clear ct
  go_loopw [3, 4, 12, 14, 15, 16] (fun _ _ vi _ _ _ wr => ∃ i : Nat, i ≤ C.length ∧ vi = .int .i64 i ∧ goodQ (C.take i) (C.drop i) = V ∧ AscE (C.take i) ∧ Has wr w.heap.size 28 [.slice q C.length c] ∧ Below w.heap.size w wr) (fun _ _ vi _ _ _ _ => C.length - (intOf vi).toNat)
  case atStart => exact ⟨0, by omega, rfl, HQ.out, List.Pairwise.nil, HT.out, HB.out⟩
  case round =>
    rename_i wr
    clear HQ HT HB
    obtain ⟨i, hi, rfl, hq, hasc, hT, hB⟩ := hrel
    have HQ := Lib.hid hq
    have HA := Lib.hid hasc
    have HT := Lib.hid hT
    have HB := Lib.hid hB
    clear hq hasc hT hB
    by_cases hlt : i < C.length
    · obtain ⟨a, rfl, ha, hc⟩ := HS.out.ent hlt
      obtain ⟨c1, c2, c3⟩ := hc wr HB.out
      obtain ⟨qb, cb, hv, _, _, _⟩ := HE.out C[i] (List.getElem_mem hlt)
      have hsz := HN.out C[i] (List.getElem_mem hlt)
      have kk : (i : Int) < (C.length : Int) := by omega
      have kw : IntKind.i64.wrap (i : Int) = (i : Int) := IntWalk.i64_in _ (by omega)
      have kc : (i : Int) ≤ (c : Int) := by omega
      have kc2 : i ≤ c := by omega
      have hq := HQ.out
      have hdr : C.drop i = C[i] :: C.drop (i + 1) := List.drop_eq_getElem_cons hlt
      have htk : C.take (i + 1) = C.take i ++ [C[i]] := by rw [List.take_add_one, List.getElem?_eq_getElem hlt]; rfl
      rw [hdr, goodQ, ← htk] at hq
      have HNX : Hid (prevB (C.take i).getLast? C[i].pa = true → AscE (C.take (i + 1))) := Lib.hid (fun h => by rw [htk]; exact HA.out.snoc h)
      have HSI : Hid (∀ w', Below w.heap.size w w' → Sees w' w'.heap.size (some a) (rowC (C.take i))) := Lib.hid (fun w' h => ((HS.out.keep h).more h.size).headE i)
      obtain ⟨e, he⟩ : ∃ e, C[i] = e := ⟨_, rfl⟩
      rw [he] at c1 c2 c3 hv hsz hq HNX
      obtain ⟨x, d, bv, bb⟩ := e
      have hv' : bv = .slice qb (List.length bb) cb := hv
      subst hv'
      simp only [] at c1 c2 c3 hsz
      have hlen : (C.take i).length = i := by rw [List.length_take]; omega
      have HGE := Lib.hid (fun w1 => tgoodEntry_any x d qb cb bb hsz w1)
      have HBH := Lib.hid (fun w1 h => tbehind_any (C.take i) (some a) c x d (.slice qb bb.length cb) (fun e he => HN.out e (List.mem_of_mem_take he)) hsz w1 h (by omega))
      rw [hlen] at HBH
      have hpa : Ent.pa (x, d, Value.slice qb (List.length bb) cb, bb) = x.data.toList := rfl
      rw [hpa] at hq HNX
      have HSM : Hid (okEnt (x, d, .slice qb bb.length cb, bb) = true → x.size < 2305843009213693952) := Lib.hid (fun h => by
        unfold okEnt at h
        rw [Bool.and_eq_true, Bool.and_eq_true] at h
        have := ok_size (p := x) h.2.1
        omega)
      have HUI : Hid (x.size < 2305843009213693952 → ∀ w1 (_ : Sees w1 w1.heap.size (some a) (rowC (C.take i))), Calls Tryz.prog 70 #[.slice (some a) i c, .string x] w1 fun e w' => e = .returned (.int .i64 (roomT (C.take i) x.data.toList)) ∧ Below w1.heap.size w1 w') := Lib.hid (fun hxs w1 h => by
        have := tupIn_any (C.take i) (some a) c x (by omega) (fun e he => HN.out e (List.mem_of_mem_take he)) HA.out hxs w1 h
        rw [hlen] at this
        exact this)
      have HQ2 := Lib.hid hq
      clear hc ha he hv hdr htk hlen hpa hq HQ
      generalize okEnt (x, d, .slice qb bb.length cb, bb) = OK at *
      generalize prevB (C.take i).getLast? x.data.toList = PB at *
      generalize roomT (C.take i) x.data.toList = RM at *
      go_wp2_with fail
      have HX : Hid (Has (wr.alloc (.cells #[.string x, .bool d, .slice qb bb.length cb] 47)) wr.heap.size 47 [.string x, .bool d, .slice qb bb.length cb]) := Lib.hid (Has.made wr 47 #[.string x, .bool d, .slice qb bb.length cb])
      replace HT : Hid (Has (wr.alloc (.cells #[.string x, .bool d, .slice qb bb.length cb] 47)) w.heap.size 28 [.slice (some a) C.length c]) := Lib.hid (HT.out.alloc _)
      replace HB : Hid (Below w.heap.size w (wr.alloc (.cells #[.string x, .bool d, .slice qb bb.length cb] 47))) := Lib.hid (HB.out.alloc HB.out.size _)
      clear c1 c2 c3
      generalize wr.alloc (.cells #[.string x, .bool d, .slice qb bb.length cb] 47) = W1 at *
      generalize wr.heap.size = BX at *
      cases OK with
      | false =>
        have hv : V = false := HQ2.out.symm
        subst hv
        clear HNX HUI HBH HSM
        refine wp_region_org [(0, true), (1, false), (2, true), (3, true), (4, true), (5, true), (6, true), (7, true), (8, true), (9, false), (10, true), (11, true), (12, true), (13, true), (14, true), (15, true), (16, true), (17, true), (18, true), (19, false), (20, true), (21, true)] (by kernel_rfl) (by kernel_rfl) (by kernel_rfl) ?_
        replace HB := Lib.hid (HB.out.drew)
        replace HX := Lib.hid (HX.out.drew)
        replace HT := Lib.hid (HT.out.drew)
        generalize W1.drew = wd at *
        simp only [pickOrs, List.getElem?_cons_zero, List.getElem?_cons_succ]
        refine org_pure (v := ?_) (by kernel_rfl) ?_ ?_
        rotate_left
        · intro w' hv; obtain ⟨cx, cy, cz⟩ : w'.cell? ⟨BX, 0, none⟩ = some (.string x) ∧ w'.cell? ⟨BX, 1, none⟩ = some (.bool d) ∧ w'.cell? ⟨BX, 2, none⟩ = some (.slice qb bb.length cb) := ⟨(HX.out.keep hv HX.out.lt).cellv rfl, (HX.out.keep hv HX.out.lt).cellv rfl, (HX.out.keep hv HX.out.lt).cellv rfl⟩; clear hv; go_simp; try with_reducible rfl
        try simp only [Act.put, List.setIfInBounds_toArray, List.set_cons_zero, List.set_cons_succ]
        refine org_step (by kernel_rfl) (fun K hK => ?_)
        go_wp2_with fail
        refine (HGE.out _).mono ?_
        rintro e wx ⟨rfl, hb⟩
        have HE2 := Lib.hid hb
        replace HB := Lib.hid (HB.out.trans (hb.mono HB.out.size))
        replace HX := Lib.hid (HX.out.keep hb HX.out.lt)
        replace HT := Lib.hid (HT.out.keep hb HT.out.lt)
        clear hb
        refine hK _ _ ⟨HE2.out, ?_⟩
        clear hK HE2
        try simp only [Act.put, List.setIfInBounds_toArray, List.set_cons_zero, List.set_cons_succ]
        refine org_pure (v := ?_) (by kernel_rfl) ?_ ?_
        rotate_left
        · intro w' hv; clear hv; go_simp; try with_reducible rfl
        try simp only [Act.put, List.setIfInBounds_toArray, List.set_cons_zero, List.set_cons_succ]
        refine org_pure (v := ?_) (by kernel_rfl) ?_ ?_
        rotate_left
        · intro w' hv; clear hv; go_simp; try with_reducible rfl
        try simp only [Act.put, List.setIfInBounds_toArray, List.set_cons_zero, List.set_cons_succ]
        refine org_skip (by kernel_rfl) ?_
        try simp only [Act.put, List.setIfInBounds_toArray, List.set_cons_zero, List.set_cons_succ]
        refine org_skip (by kernel_rfl) ?_
        try simp only [Act.put, List.setIfInBounds_toArray, List.set_cons_zero, List.set_cons_succ]
        refine org_skip (by kernel_rfl) ?_
        try simp only [Act.put, List.setIfInBounds_toArray, List.set_cons_zero, List.set_cons_succ]
        refine org_skip (by kernel_rfl) ?_
        try simp only [Act.put, List.setIfInBounds_toArray, List.set_cons_zero, List.set_cons_succ]
        refine org_skip (by kernel_rfl) ?_
        try simp only [Act.put, List.setIfInBounds_toArray, List.set_cons_zero, List.set_cons_succ]
        refine org_pass (by kernel_rfl) ?_
        try simp only [Act.put, List.setIfInBounds_toArray, List.set_cons_zero, List.set_cons_succ]
        refine org_skip (by kernel_rfl) ?_
        try simp only [Act.put, List.setIfInBounds_toArray, List.set_cons_zero, List.set_cons_succ]
        refine org_pure (v := ?_) (by kernel_rfl) ?_ ?_
        rotate_left
        · intro w' hv; clear hv; go_simp; try with_reducible rfl
        try simp only [Act.put, List.setIfInBounds_toArray, List.set_cons_zero, List.set_cons_succ]
        refine org_pure (v := ?_) (by kernel_rfl) ?_ ?_
        rotate_left
        · intro w' hv; clear hv; go_simp; try with_reducible rfl
        try simp only [Act.put, List.setIfInBounds_toArray, List.set_cons_zero, List.set_cons_succ]
        refine org_skip (by kernel_rfl) ?_
        try simp only [Act.put, List.setIfInBounds_toArray, List.set_cons_zero, List.set_cons_succ]
        refine org_skip (by kernel_rfl) ?_
        try simp only [Act.put, List.setIfInBounds_toArray, List.set_cons_zero, List.set_cons_succ]
        refine org_skip (by kernel_rfl) ?_
        try simp only [Act.put, List.setIfInBounds_toArray, List.set_cons_zero, List.set_cons_succ]
        refine org_skip (by kernel_rfl) ?_
        try simp only [Act.put, List.setIfInBounds_toArray, List.set_cons_zero, List.set_cons_succ]
        refine org_skip (by kernel_rfl) ?_
        try simp only [Act.put, List.setIfInBounds_toArray, List.set_cons_zero, List.set_cons_succ]
        refine org_skip (by kernel_rfl) ?_
        try simp only [Act.put, List.setIfInBounds_toArray, List.set_cons_zero, List.set_cons_succ]
        refine org_pass (by kernel_rfl) ?_
        try simp only [Act.put, List.setIfInBounds_toArray, List.set_cons_zero, List.set_cons_succ]
        refine org_skip (by kernel_rfl) ?_
        try simp only [Act.put, List.setIfInBounds_toArray, List.set_cons_zero, List.set_cons_succ]
        refine org_pure (v := ?_) (by kernel_rfl) ?_ ?_
        rotate_left
        · intro w' hv; clear hv; go_simp; try with_reducible rfl
        try simp only [Act.put, List.setIfInBounds_toArray, List.set_cons_zero, List.set_cons_succ]
        refine org_nil ?_
        go_wp2_with fail
        go_ret
        exact ⟨rfl, HB.out⟩
      | true =>
        have hxs := HSM.out rfl
        clear HSM
        cases PB with
        | false =>
          have hv : V = false := HQ2.out.symm
          subst hv
          clear HNX HUI
          refine wp_region_org [(0, true), (1, false), (2, true), (3, true), (4, true), (5, true), (6, true), (7, true), (8, true), (9, false), (10, true), (11, true), (12, true), (13, true), (14, true), (15, true), (16, true), (17, true), (18, true), (19, false), (20, true), (21, true)] (by kernel_rfl) (by kernel_rfl) (by kernel_rfl) ?_
          replace HB := Lib.hid (HB.out.drew)
          replace HX := Lib.hid (HX.out.drew)
          replace HT := Lib.hid (HT.out.drew)
          generalize W1.drew = wd at *
          simp only [pickOrs, List.getElem?_cons_zero, List.getElem?_cons_succ]
          refine org_pure (v := ?_) (by kernel_rfl) ?_ ?_
          rotate_left
          · intro w' hv; obtain ⟨cx, cy, cz⟩ : w'.cell? ⟨BX, 0, none⟩ = some (.string x) ∧ w'.cell? ⟨BX, 1, none⟩ = some (.bool d) ∧ w'.cell? ⟨BX, 2, none⟩ = some (.slice qb bb.length cb) := ⟨(HX.out.keep hv HX.out.lt).cellv rfl, (HX.out.keep hv HX.out.lt).cellv rfl, (HX.out.keep hv HX.out.lt).cellv rfl⟩; clear hv; go_simp; try with_reducible rfl
          try simp only [Act.put, List.setIfInBounds_toArray, List.set_cons_zero, List.set_cons_succ]
          refine org_step (by kernel_rfl) (fun K hK => ?_)
          go_wp2_with fail
          refine (HGE.out _).mono ?_
          rintro e wx ⟨rfl, hb⟩
          have HE2 := Lib.hid hb
          replace HB := Lib.hid (HB.out.trans (hb.mono HB.out.size))
          replace HX := Lib.hid (HX.out.keep hb HX.out.lt)
          replace HT := Lib.hid (HT.out.keep hb HT.out.lt)
          clear hb
          refine hK _ _ ⟨HE2.out, ?_⟩
          clear hK HE2
          try simp only [Act.put, List.setIfInBounds_toArray, List.set_cons_zero, List.set_cons_succ]
          refine org_pure (v := ?_) (by kernel_rfl) ?_ ?_
          rotate_left
          · intro w' hv; clear hv; go_simp; try with_reducible rfl
          try simp only [Act.put, List.setIfInBounds_toArray, List.set_cons_zero, List.set_cons_succ]
          refine org_pure (v := ?_) (by kernel_rfl) ?_ ?_
          rotate_left
          · intro w' hv; clear hv; go_simp; try with_reducible rfl
          try simp only [Act.put, List.setIfInBounds_toArray, List.set_cons_zero, List.set_cons_succ]
          refine org_pure (v := ?_) (by kernel_rfl) ?_ ?_
          rotate_left
          · intro w' hv; clear hv; go_simp; try with_reducible rfl
          try simp only [Act.put, List.setIfInBounds_toArray, List.set_cons_zero, List.set_cons_succ]
          refine org_pure (v := ?_) (by kernel_rfl) ?_ ?_
          rotate_left
          · intro w' hv; have cx := (HT.out.keep hv HT.out.lt).cellv (i := 0) (v := .slice (some a) C.length c) rfl; clear hv; go_simp; try with_reducible rfl
          try simp only [Act.put, List.setIfInBounds_toArray, List.set_cons_zero, List.set_cons_succ]
          refine org_pure (v := ?_) (by kernel_rfl) ?_ ?_
          rotate_left
          · intro w' hv; clear hv; go_simp; try with_reducible rfl
          try simp only [Act.put, List.setIfInBounds_toArray, List.set_cons_zero, List.set_cons_succ]
          refine org_pure (v := ?_) (by kernel_rfl) ?_ ?_
          rotate_left
          · intro w' hv; clear hv; go_simp; try with_reducible rfl
          try simp only [Act.put, List.setIfInBounds_toArray, List.set_cons_zero, List.set_cons_succ]
          refine org_pure (v := ?_) (by kernel_rfl) ?_ ?_
          rotate_left
          · intro w' hv; obtain ⟨cx, cy, cz⟩ : w'.cell? ⟨BX, 0, none⟩ = some (.string x) ∧ w'.cell? ⟨BX, 1, none⟩ = some (.bool d) ∧ w'.cell? ⟨BX, 2, none⟩ = some (.slice qb bb.length cb) := ⟨(HX.out.keep hv HX.out.lt).cellv rfl, (HX.out.keep hv HX.out.lt).cellv rfl, (HX.out.keep hv HX.out.lt).cellv rfl⟩; clear hv; go_simp; try with_reducible rfl
          try simp only [Act.put, List.setIfInBounds_toArray, List.set_cons_zero, List.set_cons_succ]
          refine org_step (by kernel_rfl) (fun K hK => ?_)
          go_wp2_with fail
          refine (HBH.out _ (HSI.out _ HB.out)).mono ?_
          rintro e wy ⟨rfl, hb⟩
          have HE2 := Lib.hid hb
          replace HB := Lib.hid (HB.out.trans (hb.mono HB.out.size))
          replace HX := Lib.hid (HX.out.keep hb HX.out.lt)
          replace HT := Lib.hid (HT.out.keep hb HT.out.lt)
          clear hb
          refine hK _ _ ⟨HE2.out, ?_⟩
          clear hK HE2
          try simp only [Act.put, List.setIfInBounds_toArray, List.set_cons_zero, List.set_cons_succ]
          refine org_pure (v := ?_) (by kernel_rfl) ?_ ?_
          rotate_left
          · intro w' hv; clear hv; go_simp; try with_reducible rfl
          try simp only [Act.put, List.setIfInBounds_toArray, List.set_cons_zero, List.set_cons_succ]
          refine org_pure (v := ?_) (by kernel_rfl) ?_ ?_
          rotate_left
          · intro w' hv; clear hv; go_simp; try with_reducible rfl
          try simp only [Act.put, List.setIfInBounds_toArray, List.set_cons_zero, List.set_cons_succ]
          refine org_pure (v := ?_) (by kernel_rfl) ?_ ?_
          rotate_left
          · intro w' hv; clear hv; go_simp; try with_reducible rfl
          try simp only [Act.put, List.setIfInBounds_toArray, List.set_cons_zero, List.set_cons_succ]
          refine org_skip (by kernel_rfl) ?_
          try simp only [Act.put, List.setIfInBounds_toArray, List.set_cons_zero, List.set_cons_succ]
          refine org_skip (by kernel_rfl) ?_
          try simp only [Act.put, List.setIfInBounds_toArray, List.set_cons_zero, List.set_cons_succ]
          refine org_skip (by kernel_rfl) ?_
          try simp only [Act.put, List.setIfInBounds_toArray, List.set_cons_zero, List.set_cons_succ]
          refine org_skip (by kernel_rfl) ?_
          try simp only [Act.put, List.setIfInBounds_toArray, List.set_cons_zero, List.set_cons_succ]
          refine org_skip (by kernel_rfl) ?_
          try simp only [Act.put, List.setIfInBounds_toArray, List.set_cons_zero, List.set_cons_succ]
          refine org_skip (by kernel_rfl) ?_
          try simp only [Act.put, List.setIfInBounds_toArray, List.set_cons_zero, List.set_cons_succ]
          refine org_pass (by kernel_rfl) ?_
          try simp only [Act.put, List.setIfInBounds_toArray, List.set_cons_zero, List.set_cons_succ]
          refine org_skip (by kernel_rfl) ?_
          try simp only [Act.put, List.setIfInBounds_toArray, List.set_cons_zero, List.set_cons_succ]
          refine org_pure (v := ?_) (by kernel_rfl) ?_ ?_
          rotate_left
          · intro w' hv; clear hv; go_simp; try with_reducible rfl
          try simp only [Act.put, List.setIfInBounds_toArray, List.set_cons_zero, List.set_cons_succ]
          refine org_nil ?_
          go_wp2_with fail
          go_ret
          exact ⟨rfl, HB.out⟩
        | true =>
          by_cases hr : RM = 0
          · subst hr
            have hq3 : goodQ (C.take (i + 1)) (C.drop (i + 1)) = V := HQ2.out
            have HQ3 := Lib.hid hq3
            clear hq3 HQ2
            refine wp_region_org [(0, true), (1, false), (2, true), (3, true), (4, true), (5, true), (6, true), (7, true), (8, true), (9, false), (10, true), (11, true), (12, true), (13, true), (14, true), (15, true), (16, true), (17, true), (18, true), (19, false), (20, true), (21, true)] (by kernel_rfl) (by kernel_rfl) (by kernel_rfl) ?_
            replace HB := Lib.hid (HB.out.drew)
            replace HX := Lib.hid (HX.out.drew)
            replace HT := Lib.hid (HT.out.drew)
            generalize W1.drew = wd at *
            simp only [pickOrs, List.getElem?_cons_zero, List.getElem?_cons_succ]
            refine org_pure (v := ?_) (by kernel_rfl) ?_ ?_
            rotate_left
            · intro w' hv; obtain ⟨cx, cy, cz⟩ : w'.cell? ⟨BX, 0, none⟩ = some (.string x) ∧ w'.cell? ⟨BX, 1, none⟩ = some (.bool d) ∧ w'.cell? ⟨BX, 2, none⟩ = some (.slice qb bb.length cb) := ⟨(HX.out.keep hv HX.out.lt).cellv rfl, (HX.out.keep hv HX.out.lt).cellv rfl, (HX.out.keep hv HX.out.lt).cellv rfl⟩; clear hv; go_simp; try with_reducible rfl
            try simp only [Act.put, List.setIfInBounds_toArray, List.set_cons_zero, List.set_cons_succ]
            refine org_step (by kernel_rfl) (fun K hK => ?_)
            go_wp2_with fail
            refine (HGE.out _).mono ?_
            rintro e wx ⟨rfl, hb⟩
            have HE2 := Lib.hid hb
            replace HB := Lib.hid (HB.out.trans (hb.mono HB.out.size))
            replace HX := Lib.hid (HX.out.keep hb HX.out.lt)
            replace HT := Lib.hid (HT.out.keep hb HT.out.lt)
            clear hb
            refine hK _ _ ⟨HE2.out, ?_⟩
            clear hK HE2
            try simp only [Act.put, List.setIfInBounds_toArray, List.set_cons_zero, List.set_cons_succ]
            refine org_pure (v := ?_) (by kernel_rfl) ?_ ?_
            rotate_left
            · intro w' hv; clear hv; go_simp; try with_reducible rfl
            try simp only [Act.put, List.setIfInBounds_toArray, List.set_cons_zero, List.set_cons_succ]
            refine org_pure (v := ?_) (by kernel_rfl) ?_ ?_
            rotate_left
            · intro w' hv; clear hv; go_simp; try with_reducible rfl
            try simp only [Act.put, List.setIfInBounds_toArray, List.set_cons_zero, List.set_cons_succ]
            refine org_pure (v := ?_) (by kernel_rfl) ?_ ?_
            rotate_left
            · intro w' hv; clear hv; go_simp; try with_reducible rfl
            try simp only [Act.put, List.setIfInBounds_toArray, List.set_cons_zero, List.set_cons_succ]
            refine org_pure (v := ?_) (by kernel_rfl) ?_ ?_
            rotate_left
            · intro w' hv; have cx := (HT.out.keep hv HT.out.lt).cellv (i := 0) (v := .slice (some a) C.length c) rfl; clear hv; go_simp; try with_reducible rfl
            try simp only [Act.put, List.setIfInBounds_toArray, List.set_cons_zero, List.set_cons_succ]
            refine org_pure (v := ?_) (by kernel_rfl) ?_ ?_
            rotate_left
            · intro w' hv; clear hv; go_simp; try with_reducible rfl
            try simp only [Act.put, List.setIfInBounds_toArray, List.set_cons_zero, List.set_cons_succ]
            refine org_pure (v := ?_) (by kernel_rfl) ?_ ?_
            rotate_left
            · intro w' hv; clear hv; go_simp; try with_reducible rfl
            try simp only [Act.put, List.setIfInBounds_toArray, List.set_cons_zero, List.set_cons_succ]
            refine org_pure (v := ?_) (by kernel_rfl) ?_ ?_
            rotate_left
            · intro w' hv; obtain ⟨cx, cy, cz⟩ : w'.cell? ⟨BX, 0, none⟩ = some (.string x) ∧ w'.cell? ⟨BX, 1, none⟩ = some (.bool d) ∧ w'.cell? ⟨BX, 2, none⟩ = some (.slice qb bb.length cb) := ⟨(HX.out.keep hv HX.out.lt).cellv rfl, (HX.out.keep hv HX.out.lt).cellv rfl, (HX.out.keep hv HX.out.lt).cellv rfl⟩; clear hv; go_simp; try with_reducible rfl
            try simp only [Act.put, List.setIfInBounds_toArray, List.set_cons_zero, List.set_cons_succ]
            refine org_step (by kernel_rfl) (fun K hK => ?_)
            go_wp2_with fail
            refine (HBH.out _ (HSI.out _ HB.out)).mono ?_
            rintro e wy ⟨rfl, hb⟩
            have HE2 := Lib.hid hb
            replace HB := Lib.hid (HB.out.trans (hb.mono HB.out.size))
            replace HX := Lib.hid (HX.out.keep hb HX.out.lt)
            replace HT := Lib.hid (HT.out.keep hb HT.out.lt)
            clear hb
            refine hK _ _ ⟨HE2.out, ?_⟩
            clear hK HE2
            try simp only [Act.put, List.setIfInBounds_toArray, List.set_cons_zero, List.set_cons_succ]
            refine org_pure (v := ?_) (by kernel_rfl) ?_ ?_
            rotate_left
            · intro w' hv; clear hv; go_simp; try with_reducible rfl
            try simp only [Act.put, List.setIfInBounds_toArray, List.set_cons_zero, List.set_cons_succ]
            refine org_pure (v := ?_) (by kernel_rfl) ?_ ?_
            rotate_left
            · intro w' hv; clear hv; go_simp; try with_reducible rfl
            try simp only [Act.put, List.setIfInBounds_toArray, List.set_cons_zero, List.set_cons_succ]
            refine org_pure (v := ?_) (by kernel_rfl) ?_ ?_
            rotate_left
            · intro w' hv; clear hv; go_simp; try with_reducible rfl
            try simp only [Act.put, List.setIfInBounds_toArray, List.set_cons_zero, List.set_cons_succ]
            refine org_pure (v := ?_) (by kernel_rfl) ?_ ?_
            rotate_left
            · intro w' hv; clear hv; go_simp; try with_reducible rfl
            try simp only [Act.put, List.setIfInBounds_toArray, List.set_cons_zero, List.set_cons_succ]
            refine org_pure (v := ?_) (by kernel_rfl) ?_ ?_
            rotate_left
            · intro w' hv; have cx := (HT.out.keep hv HT.out.lt).cellv (i := 0) (v := .slice (some a) C.length c) rfl; clear hv; go_simp; try with_reducible rfl
            try simp only [Act.put, List.setIfInBounds_toArray, List.set_cons_zero, List.set_cons_succ]
            refine org_pure (v := ?_) (by kernel_rfl) ?_ ?_
            rotate_left
            · intro w' hv; clear hv; go_simp; try with_reducible rfl
            try simp only [Act.put, List.setIfInBounds_toArray, List.set_cons_zero, List.set_cons_succ]
            refine org_pure (v := ?_) (by kernel_rfl) ?_ ?_
            rotate_left
            · intro w' hv; clear hv; go_simp; try with_reducible rfl
            try simp only [Act.put, List.setIfInBounds_toArray, List.set_cons_zero, List.set_cons_succ]
            refine org_pure (v := ?_) (by kernel_rfl) ?_ ?_
            rotate_left
            · intro w' hv; clear hv; go_simp; try with_reducible rfl
            try simp only [Act.put, List.setIfInBounds_toArray, List.set_cons_zero, List.set_cons_succ]
            refine org_pure (v := ?_) (by kernel_rfl) ?_ ?_
            rotate_left
            · intro w' hv; obtain ⟨cx, cy, cz⟩ : w'.cell? ⟨BX, 0, none⟩ = some (.string x) ∧ w'.cell? ⟨BX, 1, none⟩ = some (.bool d) ∧ w'.cell? ⟨BX, 2, none⟩ = some (.slice qb bb.length cb) := ⟨(HX.out.keep hv HX.out.lt).cellv rfl, (HX.out.keep hv HX.out.lt).cellv rfl, (HX.out.keep hv HX.out.lt).cellv rfl⟩; clear hv; go_simp; try with_reducible rfl
            try simp only [Act.put, List.setIfInBounds_toArray, List.set_cons_zero, List.set_cons_succ]
            refine org_step (by kernel_rfl) (fun K hK => ?_)
            go_wp2_with fail
            refine (HUI.out hxs _ (HSI.out _ HB.out)).mono ?_
            rintro e wz ⟨rfl, hb⟩
            have HE2 := Lib.hid hb
            replace HB := Lib.hid (HB.out.trans (hb.mono HB.out.size))
            replace HX := Lib.hid (HX.out.keep hb HX.out.lt)
            replace HT := Lib.hid (HT.out.keep hb HT.out.lt)
            clear hb
            refine hK _ _ ⟨HE2.out, ?_⟩
            clear hK HE2
            try simp only [Act.put, List.setIfInBounds_toArray, List.set_cons_zero, List.set_cons_succ]
            refine org_pure (v := ?_) (by kernel_rfl) ?_ ?_
            rotate_left
            · intro w' hv; clear hv; go_simp; try with_reducible rfl
            try simp only [Act.put, List.setIfInBounds_toArray, List.set_cons_zero, List.set_cons_succ]
            refine org_pure (v := ?_) (by kernel_rfl) ?_ ?_
            rotate_left
            · intro w' hv; clear hv; go_simp; try with_reducible rfl
            try simp only [Act.put, List.setIfInBounds_toArray, List.set_cons_zero, List.set_cons_succ]
            refine org_nil ?_
            go_wp2_with fail
            go_roundw
            case rel => exact ⟨i + 1, by omega, by go_num, HQ3.out, HNX.out trivial, HT.out, HB.out⟩
            case measure => simp [intOf]; omega
          · have hv : V = false := by rw [← HQ2.out, decide_eq_false hr]; rfl
            subst hv
            have kr : (RM = 0) = False := eq_false hr
            have krb : (RM == 0) = false := by simpa using hr
            have krn : (RM != 0) = true := by simpa using hr
            clear HQ2 HNX
            refine wp_region_org [(0, true), (1, false), (2, true), (3, true), (4, true), (5, true), (6, true), (7, true), (8, true), (9, false), (10, true), (11, true), (12, true), (13, true), (14, true), (15, true), (16, true), (17, true), (18, true), (19, false), (20, true), (21, true)] (by kernel_rfl) (by kernel_rfl) (by kernel_rfl) ?_
            replace HB := Lib.hid (HB.out.drew)
            replace HX := Lib.hid (HX.out.drew)
            replace HT := Lib.hid (HT.out.drew)
            generalize W1.drew = wd at *
            simp only [pickOrs, List.getElem?_cons_zero, List.getElem?_cons_succ]
            refine org_pure (v := ?_) (by kernel_rfl) ?_ ?_
            rotate_left
            · intro w' hv; obtain ⟨cx, cy, cz⟩ : w'.cell? ⟨BX, 0, none⟩ = some (.string x) ∧ w'.cell? ⟨BX, 1, none⟩ = some (.bool d) ∧ w'.cell? ⟨BX, 2, none⟩ = some (.slice qb bb.length cb) := ⟨(HX.out.keep hv HX.out.lt).cellv rfl, (HX.out.keep hv HX.out.lt).cellv rfl, (HX.out.keep hv HX.out.lt).cellv rfl⟩; clear hv; go_simp; try with_reducible rfl
            try simp only [Act.put, List.setIfInBounds_toArray, List.set_cons_zero, List.set_cons_succ]
            refine org_step (by kernel_rfl) (fun K hK => ?_)
            go_wp2_with fail
            refine (HGE.out _).mono ?_
            rintro e wx ⟨rfl, hb⟩
            have HE2 := Lib.hid hb
            replace HB := Lib.hid (HB.out.trans (hb.mono HB.out.size))
            replace HX := Lib.hid (HX.out.keep hb HX.out.lt)
            replace HT := Lib.hid (HT.out.keep hb HT.out.lt)
            clear hb
            refine hK _ _ ⟨HE2.out, ?_⟩
            clear hK HE2
            try simp only [Act.put, List.setIfInBounds_toArray, List.set_cons_zero, List.set_cons_succ]
            refine org_pure (v := ?_) (by kernel_rfl) ?_ ?_
            rotate_left
            · intro w' hv; clear hv; go_simp; try with_reducible rfl
            try simp only [Act.put, List.setIfInBounds_toArray, List.set_cons_zero, List.set_cons_succ]
            refine org_pure (v := ?_) (by kernel_rfl) ?_ ?_
            rotate_left
            · intro w' hv; clear hv; go_simp; try with_reducible rfl
            try simp only [Act.put, List.setIfInBounds_toArray, List.set_cons_zero, List.set_cons_succ]
            refine org_pure (v := ?_) (by kernel_rfl) ?_ ?_
            rotate_left
            · intro w' hv; clear hv; go_simp; try with_reducible rfl
            try simp only [Act.put, List.setIfInBounds_toArray, List.set_cons_zero, List.set_cons_succ]
            refine org_pure (v := ?_) (by kernel_rfl) ?_ ?_
            rotate_left
            · intro w' hv; have cx := (HT.out.keep hv HT.out.lt).cellv (i := 0) (v := .slice (some a) C.length c) rfl; clear hv; go_simp; try with_reducible rfl
            try simp only [Act.put, List.setIfInBounds_toArray, List.set_cons_zero, List.set_cons_succ]
            refine org_pure (v := ?_) (by kernel_rfl) ?_ ?_
            rotate_left
            · intro w' hv; clear hv; go_simp; try with_reducible rfl
            try simp only [Act.put, List.setIfInBounds_toArray, List.set_cons_zero, List.set_cons_succ]
            refine org_pure (v := ?_) (by kernel_rfl) ?_ ?_
            rotate_left
            · intro w' hv; clear hv; go_simp; try with_reducible rfl
            try simp only [Act.put, List.setIfInBounds_toArray, List.set_cons_zero, List.set_cons_succ]
            refine org_pure (v := ?_) (by kernel_rfl) ?_ ?_
            rotate_left
            · intro w' hv; obtain ⟨cx, cy, cz⟩ : w'.cell? ⟨BX, 0, none⟩ = some (.string x) ∧ w'.cell? ⟨BX, 1, none⟩ = some (.bool d) ∧ w'.cell? ⟨BX, 2, none⟩ = some (.slice qb bb.length cb) := ⟨(HX.out.keep hv HX.out.lt).cellv rfl, (HX.out.keep hv HX.out.lt).cellv rfl, (HX.out.keep hv HX.out.lt).cellv rfl⟩; clear hv; go_simp; try with_reducible rfl
            try simp only [Act.put, List.setIfInBounds_toArray, List.set_cons_zero, List.set_cons_succ]
            refine org_step (by kernel_rfl) (fun K hK => ?_)
            go_wp2_with fail
            refine (HBH.out _ (HSI.out _ HB.out)).mono ?_
            rintro e wy ⟨rfl, hb⟩
            have HE2 := Lib.hid hb
            replace HB := Lib.hid (HB.out.trans (hb.mono HB.out.size))
            replace HX := Lib.hid (HX.out.keep hb HX.out.lt)
            replace HT := Lib.hid (HT.out.keep hb HT.out.lt)
            clear hb
            refine hK _ _ ⟨HE2.out, ?_⟩
            clear hK HE2
            try simp only [Act.put, List.setIfInBounds_toArray, List.set_cons_zero, List.set_cons_succ]
            refine org_pure (v := ?_) (by kernel_rfl) ?_ ?_
            rotate_left
            · intro w' hv; clear hv; go_simp; try with_reducible rfl
            try simp only [Act.put, List.setIfInBounds_toArray, List.set_cons_zero, List.set_cons_succ]
            refine org_pure (v := ?_) (by kernel_rfl) ?_ ?_
            rotate_left
            · intro w' hv; clear hv; go_simp; try with_reducible rfl
            try simp only [Act.put, List.setIfInBounds_toArray, List.set_cons_zero, List.set_cons_succ]
            refine org_pure (v := ?_) (by kernel_rfl) ?_ ?_
            rotate_left
            · intro w' hv; clear hv; go_simp; try with_reducible rfl
            try simp only [Act.put, List.setIfInBounds_toArray, List.set_cons_zero, List.set_cons_succ]
            refine org_pure (v := ?_) (by kernel_rfl) ?_ ?_
            rotate_left
            · intro w' hv; clear hv; go_simp; try with_reducible rfl
            try simp only [Act.put, List.setIfInBounds_toArray, List.set_cons_zero, List.set_cons_succ]
            refine org_pure (v := ?_) (by kernel_rfl) ?_ ?_
            rotate_left
            · intro w' hv; have cx := (HT.out.keep hv HT.out.lt).cellv (i := 0) (v := .slice (some a) C.length c) rfl; clear hv; go_simp; try with_reducible rfl
            try simp only [Act.put, List.setIfInBounds_toArray, List.set_cons_zero, List.set_cons_succ]
            refine org_pure (v := ?_) (by kernel_rfl) ?_ ?_
            rotate_left
            · intro w' hv; clear hv; go_simp; try with_reducible rfl
            try simp only [Act.put, List.setIfInBounds_toArray, List.set_cons_zero, List.set_cons_succ]
            refine org_pure (v := ?_) (by kernel_rfl) ?_ ?_
            rotate_left
            · intro w' hv; clear hv; go_simp; try with_reducible rfl
            try simp only [Act.put, List.setIfInBounds_toArray, List.set_cons_zero, List.set_cons_succ]
            refine org_pure (v := ?_) (by kernel_rfl) ?_ ?_
            rotate_left
            · intro w' hv; clear hv; go_simp; try with_reducible rfl
            try simp only [Act.put, List.setIfInBounds_toArray, List.set_cons_zero, List.set_cons_succ]
            refine org_pure (v := ?_) (by kernel_rfl) ?_ ?_
            rotate_left
            · intro w' hv; obtain ⟨cx, cy, cz⟩ : w'.cell? ⟨BX, 0, none⟩ = some (.string x) ∧ w'.cell? ⟨BX, 1, none⟩ = some (.bool d) ∧ w'.cell? ⟨BX, 2, none⟩ = some (.slice qb bb.length cb) := ⟨(HX.out.keep hv HX.out.lt).cellv rfl, (HX.out.keep hv HX.out.lt).cellv rfl, (HX.out.keep hv HX.out.lt).cellv rfl⟩; clear hv; go_simp; try with_reducible rfl
            try simp only [Act.put, List.setIfInBounds_toArray, List.set_cons_zero, List.set_cons_succ]
            refine org_step (by kernel_rfl) (fun K hK => ?_)
            go_wp2_with fail
            refine (HUI.out hxs _ (HSI.out _ HB.out)).mono ?_
            rintro e wz ⟨rfl, hb⟩
            have HE2 := Lib.hid hb
            replace HB := Lib.hid (HB.out.trans (hb.mono HB.out.size))
            replace HX := Lib.hid (HX.out.keep hb HX.out.lt)
            replace HT := Lib.hid (HT.out.keep hb HT.out.lt)
            clear hb
            refine hK _ _ ⟨HE2.out, ?_⟩
            clear hK HE2
            try simp only [Act.put, List.setIfInBounds_toArray, List.set_cons_zero, List.set_cons_succ]
            refine org_pure (v := ?_) (by kernel_rfl) ?_ ?_
            rotate_left
            · intro w' hv; clear hv; go_simp; try with_reducible rfl
            try simp only [Act.put, List.setIfInBounds_toArray, List.set_cons_zero, List.set_cons_succ]
            refine org_pure (v := ?_) (by kernel_rfl) ?_ ?_
            rotate_left
            · intro w' hv; clear hv; go_simp; try with_reducible rfl
            try simp only [Act.put, List.setIfInBounds_toArray, List.set_cons_zero, List.set_cons_succ]
            refine org_nil ?_
            go_wp2_with fail
            go_ret
            exact ⟨rfl, HB.out⟩
    · have hil : i = C.length := by omega
      subst hil
      have k0 : ¬ (C.length : Int) < (C.length : Int) := by omega
      have hv : V = true := by have h := HQ.out; rw [List.drop_length] at h; exact h.symm
      subst hv
      clear hlt HQ
      go_wp2_with fail
      go_ret
      exact ⟨rfl, HB.out⟩
end Go.Proofs.YtmjonlffhhehjaaGreatDoor
/- Rows of entries in memory that a call owns: cloned, copied within, cleared. Contract: slices.Clone at entries. Condition: at most 10^6 entries. -/
namespace Go.Proofs.YtmjonlffhhehjaaGreatDoor
open Go.RowKit
theorem ent_infoT : (Tryz.prog.info? 47).map (fun i => (i.zero, i.size, i.bytes)) = some (some (.agg #[.string ⟨#[]⟩, .bool false, .slice none 0 0]), 3, 48) := by kernel_rfl
/-- A row of entries of the call's own. -/
def OwnT (w : World) (base : Nat) (v : Value) (C : List Ent) : Prop := w.ownsRow base 47 3 v C.length (rowC C)
theorem OwnT.nil (w : World) (base : Nat) : OwnT w base (.slice none 0 0) [] := World.ownsRow_nil w base 47 3
theorem OwnT.tr {w : World} {base : Nat} {v : Value} {C : List Ent} (h : OwnT w base v C) : TrV w v C := by
  rcases h.2 with ⟨rfl, h0⟩ | ⟨g, cap, cur, rfl, hb, hg, h1, _⟩
  · have : C = [] := List.eq_nil_of_length_eq_zero h0
    subst this
    exact ⟨none, 0, rfl, Nat.le_refl _, fun _ => rfl, Sees.nil _ _ _⟩
  · refine ⟨_, cap, rfl, h1, fun e => by (cases e), fun _ => ⟨_, rfl, (Array.getElem?_eq_some_iff.1 hg).1, ?_⟩⟩
    exact World.ownsRow.cells h (g := g) rfl
theorem OwnT.keep {w w' : World} {base : Nat} {v : Value} {C : List Ent} (h : OwnT w base v C) (hb : Below w.heap.size w w') : OwnT w' base v C := own_below3 h hb
theorem OwnT.drew {w : World} {base : Nat} {v : Value} {C : List Ent} (h : OwnT w base v C) : OwnT w.drew base v C := World.ownsRow.drew h
/-- As a block whole. -/
theorem OwnT.has {w : World} {base : Nat} {v : Value} {C : List Ent} (h : OwnT w base v C) : (v = .slice none 0 0 ∧ C = []) ∨ ∃ g cap l, v = .slice (some ⟨g, 0, none⟩) C.length cap ∧ base ≤ g ∧ Has w g 47 (rowC C ++ l) ∧ C.length ≤ cap ∧ cap ≤ maxLen ∧ 3 * C.length + l.length = cap * 3 := by
  rcases h.2 with ⟨rfl, h0⟩ | ⟨g, cap, cur, rfl, hb, hg, h1, h2, h3, h4⟩
  · exact .inl ⟨rfl, List.eq_nil_of_length_eq_zero h0⟩
  · refine .inr ⟨g, cap, cur.toList.drop (C.length * 3), rfl, hb, ?_, h1, h2, ?_⟩
    · unfold Has
      rw [hg, ← h4, List.take_append_drop]
    · have h3' : cur.toList.length = cap * 3 := by rw [← h3]; exact Array.length_toList
      rw [List.length_drop, h3']
      have := Nat.mul_le_mul_right 3 h1
      omega
theorem OwnT.of {w : World} {base g cap : Nat} {C : List Ent} {l : List Value} (hb : base ≤ g) (hg : Has w g 47 (rowC C ++ l)) (h1 : C.length ≤ cap) (h2 : cap ≤ maxLen) (h3 : 3 * C.length + l.length = cap * 3) : OwnT w base (.slice (some ⟨g, 0, none⟩) C.length cap) C := by
  refine ⟨by rw [rowC_len, Nat.mul_comm], .inr ⟨g, cap, (rowC C ++ l).toArray, rfl, hb, hg, h1, h2, ?_, ?_⟩⟩
  · rw [List.size_toArray, List.length_append, rowC_len]; omega
  · simp only []
    rw [List.take_left' (by rw [rowC_len, Nat.mul_comm])]
theorem one_row {w : World} {C : List Ent} (h : Ents w C) : ∀ v ∈ rowC C, v.oneCell' = true := fun v hv => by
  obtain ⟨e, he, hv⟩ := List.mem_flatMap.1 hv
  obtain ⟨qb, cb, h1, _⟩ := h e he
  have h1' : e.2.2.1 = _ := h1
  simp only [entC, List.mem_cons, List.mem_nil_iff, or_false] at hv
  rcases hv with rfl | rfl | rfl
  · rfl
  · rfl
  · rw [h1']; rfl
set_option maxHeartbeats 1000000 in
set_option maxRecDepth 100000 in
theorem tclone_any (C : List Ent) (q : Option Addr) (c : Nat) (hm : C.length ≤ 1000000) (w : World) (hq : q = none → c = 0) (hs : Sees w w.heap.size q (rowC C)) (hE : Ents w C) :
    Calls Tryz.prog 75 #[.slice q C.length c] w fun e w' => (∃ v, e = .returned v ∧ OwnT w' w.heap.size v C) ∧ Below w.heap.size w w' := by
  have HS := Lib.hid hs
  have HO := Lib.hid (one_row hE)
  have hn := run_eql_slice_nil (P := Tryz.prog) w 26 47 q C.length c Tryz.underlying26
  clear hs hE
  rcases q with _ | a
  · have hx0 : C = [] := by
      rcases C with _ | ⟨y, l⟩
      · rfl
      · obtain ⟨a, h1, _⟩ := HS.out.get (by rw [rowC_len]; simp)
        cases h1
    subst hx0
    obtain rfl := hq rfl
    simp only [Option.isNone_none, List.length_nil] at hn
    clear hq
    go_enter Tryz.func75, Tryz.ntmps75
    go_wp2_with fail
    go_ret
    exact ⟨⟨_, rfl, OwnT.nil _ _⟩, Below.refl _ _⟩
  · clear hq
    simp only [Option.isNone_some] at hn
    obtain ⟨i0, hi, hz0, hz1, hz2⟩ := info_parts ent_infoT
    have ho : (w.alloc (.cells #[] 47)).ownsRow w.heap.size 47 3 (.slice (some ⟨w.heap.size, 0, none⟩) 0 0) 0 [] := World.ownsRow_made w #[] 0 (Nat.le_refl _) (by unfold maxLen; omega) (by simp)
    have HOW := Lib.hid ho
    have HB : Hid (Below w.heap.size w (w.alloc (.cells #[] 47))) := Lib.hid ((Below.refl _ _).alloc (Nat.le_refl _) _)
    clear ho
    by_cases hz : C = []
    · subst hz
      simp only [List.length_nil] at hn
      go_enter Tryz.func75, Tryz.ntmps75
      go_wp2_with (at_builtin; refine wpList_append_own _ rfl _ _ 26 rfl w.heap.size 47 i0 _ 3 48 Tryz.underlying26 hi hz0 hz1 hz2 rfl (by decide) _ 0 [] rfl HOW.out a 0 c [] rfl rfl (fun j u hj => by simp at hj) (by simp) (by unfold maxLen; omega) (by decide) HB.out.size ?_; intro v' w' h1 h2 _; have H1 := Lib.hid h1; have H2 := Lib.hid (HB.out.grown h2 HB.out.size (fun k hk => by have := HOW.out.lt k hk; omega)); clear h1 h2)
      go_ret
      exact ⟨⟨_, rfl, H1.out⟩, H2.out⟩
    · obtain ⟨a', e, _, hc⟩ := HS.out.get (by rw [rowC_len]; have := List.length_pos_iff.2 hz; omega)
      cases e
      have HC : Hid (∀ j u, (rowC C)[j]? = some u → (w.alloc (.cells #[] 47)).cell? (a.add j) = some u) := Lib.hid (fun j u hj => by
        obtain ⟨a', e, hb, hc⟩ := HS.out.get (by rw [rowC_len]; have := List.length_pos_iff.2 hz; omega)
        cases e
        exact (HB.out.cell (by rw [add_block]; exact hb)).trans (hc j u hj))
      clear hc hz
      go_enter Tryz.func75, Tryz.ntmps75
      go_wp2_with (at_builtin; refine wpList_append_own _ rfl _ _ 26 rfl w.heap.size 47 i0 _ 3 48 Tryz.underlying26 hi hz0 hz1 hz2 rfl (by decide) _ 0 [] rfl HOW.out a C.length c (rowC C) rfl (by rw [rowC_len, Nat.mul_comm]) HC.out HO.out (by unfold maxLen; omega) (by omega) HB.out.size ?_; intro v' w' h1 h2 _; rw [Nat.zero_add, List.nil_append] at h1; have H1 := Lib.hid h1; have H2 := Lib.hid (HB.out.grown h2 HB.out.size (fun k hk => by have := HOW.out.lt k hk; omega)); clear h1 h2)
      go_ret
      exact ⟨⟨_, rfl, H1.out⟩, H2.out⟩
/-- copy, at elements of k cells: all is read before anything is written. -/
theorem run_copy_cellsK {P : Program} (w : World) (dT sT ty elem : TypeId) (k b o dLen dCap : Nat) (a : Addr) (sLen sCap : Nat) (cs : List Value)
    (hu : P.underlying dT = some (.slice elem)) (hs : (P.info? elem).map (·.size) = some k) (hn : cs.length = Nat.min sLen dLen * k)
    (hsrc : ∀ j v, cs[j]? = some v → w.cell? (a.add j) = some v) (hc : ∀ j, j < cs.length → (w.cell? ⟨b, o + j, none⟩).isSome = true) (hf : ∀ j, j < cs.length → w.frozen? ⟨b, o + j, none⟩ = false) (h1 : ∀ v ∈ cs, v.oneCell' = true) :
    (Builtin.copy_ #[dT, sT] ty #[.slice (some ⟨b, o, none⟩) dLen dCap, .slice (some a) sLen sCap]).run P w = .ok (goInt (Nat.min sLen dLen)) (w.setCells b o cs) := by
  have hl := run_loadCells_list (P := P) w a cs hsrc
  have hst := run_storeCells_cells (P := P) b o cs 0 w (by simpa using hc) (by simpa using hf) h1
  cases hq : P.info? elem with
  | none => simp [hq] at hs
  | some i =>
    have hi : i.size = k := by simpa [hq] using hs
    simp [Builtin.copy_, run_underlying hu, Builtin.lenOf, Builtin.firstCells, sizeOf, typeInfo, hq, hi]
    simp only [Nat.min_def] at hn ⊢
    rw [← hn]
    simp [hl, hst]
end Go.Proofs.YtmjonlffhhehjaaGreatDoor
/- Contract: slices.Insert of one entry into a row of entries that the call owns. Condition: at most 1000 entries. -/
namespace Go.Proofs.YtmjonlffhhehjaaGreatDoor
open Go.RowKit
theorem has_shape {w : World} {g : Nat} {t : TypeId} {l : List Value} (h : Has w g t l) : w.shape? g = some (t, l.length) := by
  unfold Has at h; simp [World.shape?, h]
theorem zeroC_len (n : Nat) : (Builtin.zeroCells (Value.agg #[.string ⟨#[]⟩, .bool false, .slice none 0 0]).cells n).size = n * 3 := by rw [size_zeroCells]; rfl
end Go.Proofs.YtmjonlffhhehjaaGreatDoor
/- Contract: slices.Insert of one entry into a row of entries that the call owns, whole. Condition: at most 1000 entries. -/
namespace Go.Proofs.YtmjonlffhhehjaaGreatDoor
open Go.RowKit
theorem one_ent {e : Ent} (h : e.2.2.1.oneCell' = true) : ∀ u ∈ entC e, u.oneCell' = true := fun u hu => by
  simp only [entC, List.mem_cons, List.mem_nil_iff, or_false] at hu
  rcases hu with rfl | rfl | rfl
  · rfl
  · rfl
  · exact h
theorem below_drew {b : Nat} {a w : World} (h : Below b a w) : Below b a w.drew := ⟨h.os, h.tape, h.output, h.size, h.block⟩
end Go.Proofs.YtmjonlffhhehjaaGreatDoor
/- Contract: slices.Delete of one entry out of a row of entries that the call owns. Condition: at most 1000 entries. -/
namespace Go.Proofs.YtmjonlffhhehjaaGreatDoor
open Go.RowKit
theorem run_clear_cells {P : Program} (w : World) (t e ty : TypeId) (z : Value) (ht : P.underlying t = some (.slice e)) (hv : ∀ w, (zeroValue e).run P w = .ok z w) (zs : List Value) (n b o c : Nat) (hn : 0 < n) (hz : (Builtin.zeroCells z.cells n).toList = zs) (h1 : ∀ v ∈ zs, v.oneCell' = true)
    (hc : ∀ j, j < zs.length → (w.cell? ⟨b, o + j, none⟩).isSome = true) (hf : ∀ j, j < zs.length → w.frozen? ⟨b, o + j, none⟩ = false) :
    (Builtin.clear_ #[t] ty #[.slice (some ⟨b, o, none⟩) n c]).run P w = .ok (.tuple #[]) (w.setCells b o zs) := by
  have hst := run_storeCells_cells (P := P) b o zs 0 w (by simpa using hc) (by simpa using hf) h1
  simp only [Nat.add_zero] at hst
  obtain ⟨m, rfl⟩ : ∃ m, n = m + 1 := ⟨n - 1, by omega⟩
  simp [Builtin.clear_, run_underlying ht, hv, hz, hst]
def zeroE : List Value := [.string ⟨#[]⟩, .bool false, .slice none 0 0]
theorem zeroE_eq : (Builtin.zeroCells (Value.agg #[.string ⟨#[]⟩, .bool false, .slice none 0 0]).cells 1).toList = zeroE := by kernel_rfl
end Go.Proofs.YtmjonlffhhehjaaGreatDoor
/- Contract: package path's Under. Condition: a text shorter than 2^63 bytes. -/
namespace Go.Proofs.YtmjonlffhhehjaaGreatDoor
open Go.RowKit Go.Shelf
theorem has_slash (n : ByteArray) : decide (0 ≤ Lib.indexByte n.data.toList 47) = n.data.toList.contains 47 := by
  rcases idx_cases n.data.toList with ⟨h1, h2⟩ | ⟨i, h0, h1, h2, h3⟩
  · rw [h1]
    have : n.data.toList.contains 47 = false := by simpa using h2
    rw [this]; rfl
  · rw [h1, decide_eq_true (by omega)]
    have : n.data.toList.contains 47 = true := by rw [h2]; simp
    rw [this]
theorem under_eq (p d : Tx) : underL p d = (Lib.hasPrefix p d && Lib.hasPrefix (Lib.trimPrefix p d) [47] && okPath p) := by
  unfold underL
  congr 1
  rw [Bool.eq_iff_iff, Bool.and_eq_true]
  unfold Lib.trimPrefix Lib.hasPrefix
  constructor
  · intro h
    obtain ⟨r, rfl⟩ := List.isPrefixOf_iff_prefix.1 h
    have h1 : d.isPrefixOf (d ++ [47] ++ r) = true := List.isPrefixOf_iff_prefix.2 ⟨47 :: r, by simp⟩
    refine ⟨h1, ?_⟩
    rw [if_pos h1]
    exact List.isPrefixOf_iff_prefix.2 ⟨r, by simp⟩
  · rintro ⟨h1, h⟩
    rw [if_pos h1] at h
    obtain ⟨t, rfl⟩ := List.isPrefixOf_iff_prefix.1 h1
    rw [List.drop_left] at h
    obtain ⟨r, rfl⟩ := List.isPrefixOf_iff_prefix.1 h
    exact List.isPrefixOf_iff_prefix.2 ⟨r, by simp⟩
set_option maxHeartbeats 1600000 in
theorem under_any (p d : ByteArray) (hp : p.size < 9223372036854775808) (w : World) :
    Calls Tryz.prog 112 #[.string p, .string d] w fun e w' => e = .returned (.bool (underL p.data.toList d.data.toList)) ∧ Below w.heap.size w w' := by
  rw [under_eq]
  have H1 := Lib.hid (fun w1 => pthgood_any p (by omega) w1)
  have H2 := Lib.hid (fun w1 => cutPrefix_any p d w1)
  have H3 := Lib.hid (fun w1 => hasPrefix_any ⟨(Lib.trimPrefix p.data.toList d.data.toList).toArray⟩ ⟨#[47]⟩ w1)
  simp only at H3
  cases h1 : Lib.hasPrefix p.data.toList d.data.toList with
  | false =>
    rw [h1] at H2
    go_enter Tryz.func112, Tryz.ntmps112
    go_wp2_with (first | ((with_reducible refine (H2.out _).mono ?_); rintro e w1 ⟨rfl, rfl⟩))
    go_ret
    exact ⟨rfl, Below.refl _ _⟩
  | true =>
    rw [h1] at H2
    cases h2 : Lib.hasPrefix (Lib.trimPrefix p.data.toList d.data.toList) [47] with
    | false =>
      rw [h2] at H3
      go_enter Tryz.func112, Tryz.ntmps112
      go_wp2_with (first | ((with_reducible refine (H2.out _).mono ?_); rintro e w1 ⟨rfl, rfl⟩) | ((with_reducible refine (H3.out _).mono ?_); rintro e w1 ⟨rfl, rfl⟩))
      go_ret
      exact ⟨rfl, Below.refl _ _⟩
    | true =>
      rw [h2] at H3
      cases h3 : okPath p.data.toList with
      | false =>
        rw [h3] at H1
        go_enter Tryz.func112, Tryz.ntmps112
        go_wp2_with (first | ((with_reducible refine (H2.out _).mono ?_); rintro e w1 ⟨rfl, rfl⟩) | ((with_reducible refine (H3.out _).mono ?_); rintro e w1 ⟨rfl, rfl⟩) | ((with_reducible refine (H1.out _).mono ?_); rintro e w1 ⟨rfl, hb1⟩))
        go_ret
        exact ⟨rfl, hb1⟩
      | true =>
        rw [h3] at H1
        go_enter Tryz.func112, Tryz.ntmps112
        go_wp2_with (first | ((with_reducible refine (H2.out _).mono ?_); rintro e w1 ⟨rfl, rfl⟩) | ((with_reducible refine (H3.out _).mono ?_); rintro e w1 ⟨rfl, rfl⟩) | ((with_reducible refine (H1.out _).mono ?_); rintro e w1 ⟨rfl, hb1⟩))
        go_ret
        exact ⟨rfl, hb1⟩
end Go.Proofs.YtmjonlffhhehjaaGreatDoor
/- Contract: package path's Inside. Condition: a text shorter than 2^63 bytes. -/
namespace Go.Proofs.YtmjonlffhhehjaaGreatDoor
open Go.RowKit Go.Shelf
set_option maxHeartbeats 800000 in
theorem inside_any (p : ByteArray) (hp : p.size < 9223372036854775808) (w : World) :
    Calls Tryz.prog 77 #[.string p] w fun e w' => e = .returned (.bool (insideL p.data.toList)) ∧ Below w.heap.size w w' := by
  have H1 := Lib.hid (fun w1 => under_any p ⟨#[46, 119, 111, 114, 107]⟩ hp w1)
  have hl : p.toList = p.data.toList := Lib.toList_data p
  unfold insideL
  cases h1 : (p.data.toList == [46, 119, 111, 114, 107]) with
  | true =>
    go_enter Tryz.func77, Tryz.ntmps77
    go_wp2_with fail
    go_ret
    exact ⟨rfl, Below.refl _ _⟩
  | false =>
    cases h2 : underL p.data.toList [46, 119, 111, 114, 107] with
    | true =>
      simp only [h2] at H1
      go_enter Tryz.func77, Tryz.ntmps77
      go_wp2_with (first | ((with_reducible refine (H1.out _).mono ?_); rintro e w1 ⟨rfl, hb1⟩))
      go_ret
      exact ⟨rfl, hb1⟩
    | false =>
      simp only [h2] at H1
      go_enter Tryz.func77, Tryz.ntmps77
      go_wp2_with (first | ((with_reducible refine (H1.out _).mono ?_); rintro e w1 ⟨rfl, hb1⟩))
      go_ret
      exact ⟨rfl, hb1⟩
end Go.Proofs.YtmjonlffhhehjaaGreatDoor
/- Plain: what is left without Work. No condition. -/
namespace Go.Proofs.YtmjonlffhhehjaaGreatDoor
open Go.RowKit
def outT (C : List Ent) : List Ent := C.filter fun e => !(insideL e.pa)
def cleanT (C : List Ent) : List Ent := if goodT C = true then outT C else C
end Go.Proofs.YtmjonlffhhehjaaGreatDoor
/- Contracts: the predicate of package tree's Clean, slices.IndexFunc with it. Condition: paths shorter than 2^63 bytes. -/
namespace Go.Proofs.YtmjonlffhhehjaaGreatDoor
open Go.RowKit
set_option maxHeartbeats 4000000 in
theorem tcleanF_any (x : ByteArray) (d : Bool) (bv : Value) (hx : x.size < 9223372036854775808) (w : World) :
    Calls Tryz.prog 76 #[.agg #[.string x, .bool d, bv]] w fun e w' => e = .returned (.bool (insideL x.data.toList)) ∧ Below w.heap.size w w' := by
  have HC := Lib.hid (fun w1 => inside_any x hx w1)
  go_enter Tryz.func76, Tryz.ntmps76
  go_wp2_with (first | ((with_reducible refine (HC.out _).mono ?_); rintro e w1 ⟨rfl, hb1⟩; have HB := Lib.hid (((Below.refl _ w).alloc (Nat.le_refl _) (.cells #[.string x, .bool d, bv] 47)).trans (hb1.mono (by simp))); clear hb1))
  go_ret
  exact ⟨rfl, HB.out⟩
theorem outT_add (C : List Ent) (i : Nat) (h : i < C.length) : outT (C.take (i + 1)) = outT (C.take i) ++ (if insideL C[i].pa = true then [] else [C[i]]) := by
  unfold outT
  rw [List.take_add_one, List.getElem?_eq_getElem h, List.filter_append]
  cases hk : insideL C[i].pa <;> simp [hk]
set_option maxHeartbeats 8000000 in
set_option maxRecDepth 100000 in
theorem tindexF_any (C : List Ent) (q : Option Addr) (c : Nat) (hm : C.length ≤ 100000) (hn : ∀ e ∈ C, e.1.size < 9223372036854775808) (w : World) (hs : Sees w w.heap.size q (rowC C)) :
    Calls Tryz.prog 111 #[.slice q C.length c, .func (.func 76) #[] #[]] w fun e w' => ((e = .returned (.int .i64 (-1)) ∧ outT C = C) ∨ ∃ k : Nat, ∃ h : k < C.length, e = .returned (.int .i64 (k : Int)) ∧ outT (C.take k) = C.take k ∧ insideL C[k].pa = true) ∧ Below w.heap.size w w' := by
  have HS := Lib.hid hs
  have HN := Lib.hid hn
  clear hs hn
  go_enter Tryz.func111, Tryz.ntmps111
  go_wp2_with fail
  go_loopw [5, 8] (fun _ vi wr => ∃ i : Nat, i ≤ C.length ∧ vi = .int .i64 i ∧ outT (C.take i) = C.take i ∧ Below w.heap.size w wr) (fun _ vi _ => C.length - (intOf vi).toNat)
  case atStart => exact ⟨0, by omega, rfl, rfl, Below.refl _ _⟩
  case round =>
    rename_i wr
    obtain ⟨i, hi, rfl, hout, hB⟩ := hrel
    have HB := Lib.hid hB
    have HO := Lib.hid hout
    clear hB hout
    by_cases hlt : i < C.length
    · obtain ⟨a, rfl, ha, hc⟩ := HS.out.ent hlt
      obtain ⟨c1, c2, c3⟩ := hc wr HB.out
      have kk : (i : Int) < (C.length : Int) := by omega
      have hsz := HN.out C[i] (List.getElem_mem hlt)
      have HNX := Lib.hid (outT_add C i hlt)
      have HTK : Hid (C.take (i + 1) = C.take i ++ [C[i]]) := Lib.hid (by rw [List.take_add_one, List.getElem?_eq_getElem hlt]; rfl)
      have HIN : Hid (∀ h : insideL C[i].pa = true, ∃ k : Nat, ∃ h : k < C.length, (Ending.returned (.int .i64 (i : Int)) : Ending) = .returned (.int .i64 (k : Int)) ∧ outT (C.take k) = C.take k ∧ insideL C[k].pa = true) := Lib.hid (fun h => ⟨i, hlt, rfl, HO.out, h⟩)
      have hpa : C[i].pa = C[i].1.data.toList := rfl
      rw [hpa] at HNX HIN
      have HC := Lib.hid (fun w1 => tcleanF_any C[i].1 C[i].2.1 C[i].2.2.1 hsz w1)
      obtain ⟨e, he⟩ : ∃ e, C[i] = e := ⟨_, rfl⟩
      rw [he] at c1 c2 c3 HNX HTK HIN HC
      obtain ⟨x, d, bv, bb⟩ := e
      simp only [] at c1 c2 c3 HNX HC HIN
      clear hc ha hpa hsz he
      generalize insideL x.data.toList = IN at *
      cases IN with
      | true =>
        go_wp2_with (first | ((with_reducible refine (HC.out _).mono ?_); rintro e w1 ⟨rfl, hb1⟩; replace HB := Lib.hid (HB.out.trans (hb1.mono HB.out.size)); clear hb1))
        go_ret
        exact ⟨.inr (HIN.out trivial), HB.out⟩
      | false =>
        go_wp2_with (first | ((with_reducible refine (HC.out _).mono ?_); rintro e w1 ⟨rfl, hb1⟩; replace HB := Lib.hid (HB.out.trans (hb1.mono HB.out.size)); clear hb1))
        go_roundw
        case rel => exact ⟨i + 1, by omega, by go_num, by rw [HNX.out, HTK.out, HO.out]; rfl, HB.out⟩
        case measure => simp [intOf]; omega
    · have hil : i = C.length := by omega
      subst hil
      have k0 : ¬ (C.length : Int) < (C.length : Int) := by omega
      rw [List.take_length] at HO
      clear hlt
      go_wp2_with fail
      go_ret
      exact ⟨.inl ⟨rfl, HO.out⟩, HB.out⟩
end Go.Proofs.YtmjonlffhhehjaaGreatDoor
/- Contract: slices.DeleteFunc with the predicate of package tree's Clean, over a row of entries that the call owns. Conditions: at most 1000 entries, paths shorter than 2^63 bytes. -/
namespace Go.Proofs.YtmjonlffhhehjaaGreatDoor
open Go.RowKit
theorem Has.swap {w : World} {g : Nat} {t : TypeId} {A X B Y : List Value} (h : Has w g t (A ++ (X ++ B))) (hl : X.length = Y.length) : Has (w.setCells g A.length Y) g t (A ++ (Y ++ B)) := by
  have h1 := Has.mid Y A.length _ _ h (by rw [List.length_append, List.length_append]; omega)
  rw [List.take_left' rfl, ← List.append_assoc, List.drop_left' (by rw [List.length_append, hl]), List.append_assoc] at h1
  exact h1
theorem zeroC_one (n : Nat) : ∀ v ∈ (Builtin.zeroCells (Value.agg #[.string ⟨#[]⟩, .bool false, .slice none 0 0]).cells n).toList, v.oneCell' = true := fun v hv => by
  have hv' := Array.mem_toList_iff.1 hv
  obtain ⟨i, hi, rfl⟩ := Array.getElem_of_mem hv'
  have hc : (Value.agg #[.string ⟨#[]⟩, .bool false, .slice none 0 0]).cells = #[.string ⟨#[]⟩, .bool false, .slice none 0 0] := by kernel_rfl
  unfold Builtin.zeroCells
  simp only [hc]
  have h3 : i % 3 = 0 ∨ i % 3 = 1 ∨ i % 3 = 2 := by omega
  rcases h3 with h | h | h <;> simp [h] <;> rfl
/-- The row between two rounds. -/
def MidR (w : World) (g : Nat) (C : List Ent) (l : List Value) (i j : Nat) : Prop := ∃ M, M.length = 3 * (j - i) ∧ i ≤ j ∧ i = (outT (C.take j)).length ∧ Has w g 47 (rowC (outT (C.take j)) ++ (M ++ (rowC (C.drop j) ++ l)))
theorem MidR.keep {w w' : World} {g : Nat} {C : List Ent} {l : List Value} {i j : Nat} (h : MidR w g C l i j) (hb : Below w.heap.size w w') : MidR w' g C l i j := by
  obtain ⟨M, h1, h2, h3, h4⟩ := h
  exact ⟨M, h1, h2, h3, h4.keep hb h4.lt⟩
theorem MidR.cells {w : World} {g : Nat} {C : List Ent} {l : List Value} {i j : Nat} (h : MidR w g C l i j) (hj : j < C.length) :
    w.cell? ⟨g, j * 3, none⟩ = some (.string C[j].1) ∧ w.cell? ⟨g, j * 3 + 1, none⟩ = some (.bool C[j].2.1) ∧ w.cell? ⟨g, j * 3 + 2, none⟩ = some C[j].2.2.1 := by
  obtain ⟨M, h1, h2, h3, h4⟩ := h
  have hr : (rowC (outT (C.take j))).length = 3 * i := by rw [rowC_len, ← h3]
  have key : ∀ t, t < 3 → ∀ u, (entC C[j])[t]? = some u → w.cell? ⟨g, j * 3 + t, none⟩ = some u := fun t ht u hu => by
    refine h4.cellv ?_
    rw [List.getElem?_append_right (by omega), List.getElem?_append_right (by omega), hr, h1, show j * 3 + t - 3 * i - 3 * (j - i) = t by omega, List.drop_eq_getElem_cons hj, rowC_cons, List.append_assoc, List.getElem?_append_left (by show t < 3; exact ht)]
    exact hu
  exact ⟨key 0 (by omega) _ rfl, key 1 (by omega) _ rfl, key 2 (by omega) _ rfl⟩
theorem MidR.skip {w : World} {g : Nat} {C : List Ent} {l : List Value} {i j : Nat} (h : MidR w g C l i j) (hj : j < C.length) (hin : insideL C[j].pa = true) : MidR w g C l i (j + 1) := by
  obtain ⟨M, h1, h2, h3, h4⟩ := h
  have ho : outT (C.take (j + 1)) = outT (C.take j) := by rw [outT_add C j hj, if_pos hin, List.append_nil]
  refine ⟨M ++ entC C[j], by rw [List.length_append, h1]; show _ + 3 = _; omega, by omega, by rw [ho]; exact h3, ?_⟩
  rw [List.drop_eq_getElem_cons hj, rowC_cons] at h4
  rw [ho]
  simpa [List.append_assoc] using h4
theorem MidR.there {w : World} {g : Nat} {C : List Ent} {l : List Value} {i j : Nat} (h : MidR w g C l i j) (hij : i < j) : w.there g (i * 3) 3 := by
  obtain ⟨M, h1, h2, h3, h4⟩ := h
  refine h4.there _ _ ?_
  have hr : (rowC (outT (C.take j))).length = 3 * i := by rw [rowC_len, ← h3]
  rw [List.length_append, List.length_append, hr, h1]; omega
theorem MidR.put {w : World} {g : Nat} {C : List Ent} {l : List Value} {i j : Nat} (h : MidR w g C l i j) (hj : j < C.length) (hij : i < j) (hin : insideL C[j].pa = false) : MidR (w.setCells g (i * 3) (entC C[j])) g C l (i + 1) (j + 1) := by
  obtain ⟨M, h1, h2, h3, h4⟩ := h
  have ho : outT (C.take (j + 1)) = outT (C.take j) ++ [C[j]] := by rw [outT_add C j hj, if_neg (by rw [hin]; simp)]
  have hr : (rowC (outT (C.take j))).length = i * 3 := by rw [rowC_len, ← h3, Nat.mul_comm]
  have he : (entC C[j]).length = 3 := rfl
  have h5 : Has w g 47 (rowC (outT (C.take j)) ++ (M.take 3 ++ (M.drop 3 ++ (rowC (C.drop j) ++ l)))) := by rw [← List.append_assoc (M.take 3), List.take_append_drop]; exact h4
  have h6 := h5.swap (Y := entC C[j]) (by rw [List.length_take, h1, he]; omega)
  rw [hr] at h6
  refine ⟨M.drop 3 ++ entC C[j], by rw [List.length_append, List.length_drop, h1, he]; omega, by omega, by rw [ho, List.length_append, ← h3]; rfl, ?_⟩
  rw [List.drop_eq_getElem_cons hj, rowC_cons] at h6
  rw [ho, rowC_add]
  simpa [List.append_assoc] using h6
set_option maxHeartbeats 8000000 in
set_option maxRecDepth 100000 in
theorem tdeleteF_any (C : List Ent) (v : Value) (base : Nat) (hm : C.length ≤ 1000) (hn : ∀ e ∈ C, e.1.size < 9223372036854775808) (w : World) (hbase : base ≤ w.heap.size) (hO : OwnT w base v C) (hE : Ents w C) :
    Calls Tryz.prog 74 #[v, .func (.func 76) #[] #[]] w fun e w' => (∃ v', e = .returned v' ∧ OwnT w' base v' (outT C)) ∧ Below base w w' := by
  have HO := Lib.hid hO
  have HBB := Lib.hid hbase
  rcases hO.has with ⟨rfl, rfl⟩ | ⟨g, cap, l, rfl, hb, hg, hcap, hcm, hl⟩
  · have HI := Lib.hid (fun w1 => tindexF_any [] none 0 (by simp) hn w1 (Sees.nil _ _ _))
    have hout : outT [] = [] := rfl
    clear hn hE hO
    go_enter Tryz.func74, Tryz.ntmps74
    go_wp2_with fail
    refine (HI.out _).mono ?_
    rintro e w1 ⟨he, hb1⟩
    have HB := Lib.hid (hb1.mono HBB.out)
    replace HO := Lib.hid (HO.out.keep hb1)
    have he2 : e = .returned (.int .i64 (-1)) := by
      rcases he with ⟨h, _⟩ | ⟨k, hk, _⟩
      · exact h
      · exact absurd hk (by simp)
    subst he2
    clear he hb1 HI
    go_wp2_with fail
    go_ret
    exact ⟨⟨_, rfl, HO.out⟩, HB.out⟩
  · have hsee : ∀ w', Below w.heap.size w w' → Sees w' w'.heap.size (some ⟨g, 0, none⟩) (rowC C) := fun w' h => by
      obtain ⟨q, c, e, _, _, hs⟩ := (hO.keep h).tr
      cases e
      exact hs
    have HI := Lib.hid (fun w1 h => tindexF_any C (some ⟨g, 0, none⟩) cap (by omega) hn w1 (hsee w1 h))
    have HG := Lib.hid hg
    have HN := Lib.hid hn
    have HE := Lib.hid hE
    have HL := Lib.hid hl
    have HCM := Lib.hid hcm
    clear hO hg hsee hn hE hl hcm hbase
    go_enter Tryz.func74, Tryz.ntmps74
    go_wp2_with fail
    refine (HI.out _ (Below.refl _ _)).mono ?_
    rintro e w1 ⟨he, hb1⟩
    have HB := Lib.hid (hb1.mono HBB.out)
    replace HO := Lib.hid (HO.out.keep hb1)
    replace HG := Lib.hid (HG.out.keep hb1 HG.out.lt)
    have HSZ := Lib.hid (Nat.le_trans HBB.out hb1.size)
    clear hb1 HI
    rcases he with ⟨rfl, h⟩ | ⟨k, hk, rfl, h1, h2⟩
    · have HH := Lib.hid h
      clear h
      go_wp2_with fail
      go_ret
      exact ⟨⟨_, rfl, by rw [HH.out]; exact HO.out⟩, HB.out⟩
    · have kneg : ((k : Int) = -1) = False := eq_false (by omega)
      have kw : IntKind.i64.wrap ((k : Int) + 1) = (k : Int) + 1 := by rw [IntWalk.i64_in _ (by omega)]
      have HM : Hid (MidR w1 g C l k (k + 1)) := Lib.hid (by
        have hkl : (outT (C.take k)).length = k := by rw [h1, List.length_take]; omega
        have h0 : MidR w1 g C l k k := ⟨[], by simp, Nat.le_refl _, hkl.symm, by rw [h1, List.nil_append, ← List.append_assoc, ← rowC_app, List.take_append_drop]; exact HG.out⟩
        exact h0.skip hk h2)
      clear h1 h2 HO HG
      go_wp2_with fail
      go_loopw [5, 6, 7] (fun vi vj _ wr => ∃ i j : Nat, i < j ∧ j ≤ C.length ∧ vi = .int .i64 i ∧ vj = .int .i64 j ∧ MidR wr g C l i j ∧ base ≤ wr.heap.size ∧ Below base w wr) (fun _ vj _ _ => C.length - (intOf vj).toNat)
      case atStart => exact ⟨k, k + 1, by omega, by omega, rfl, by go_num, HM.out, HSZ.out, HB.out⟩
      case round =>
        rename_i wr
        clear HM HB HSZ
        obtain ⟨i, j, hij, hj, rfl, rfl, hM, hS, hB⟩ := hrel
        have HM := Lib.hid hM
        have HB := Lib.hid hB
        have HSZ := Lib.hid hS
        clear hM hB hS
        by_cases hlt : j < C.length
        · obtain ⟨c1, c2, c3⟩ := HM.out.cells hlt
          have kk : (j : Int) < (C.length : Int) := by omega
          have hsz := HN.out C[j] (List.getElem_mem hlt)
          have HC := Lib.hid (fun w1 => tcleanF_any C[j].1 C[j].2.1 C[j].2.2.1 hsz w1)
          have HSK : Hid (insideL C[j].1.data.toList = true → ∀ w', MidR w' g C l i j → MidR w' g C l i (j + 1)) := Lib.hid (fun h w' h' => h'.skip hlt h)
          have HPU : Hid (insideL C[j].1.data.toList = false → ∀ w', MidR w' g C l i j → MidR (w'.setCells g (i * 3) [.string C[j].1, .bool C[j].2.1, C[j].2.2.1]) g C l (i + 1) (j + 1)) := Lib.hid (fun h w' h' => h'.put hlt hij h)
          obtain ⟨qb, cb, hv, _, _, _⟩ := HE.out C[j] (List.getElem_mem hlt)
          have hv2 : C[j].2.2.1 = .slice qb C[j].2.2.2.length cb := hv
          rw [hv2] at c3 HC HPU
          generalize C[j].2.2.2.length = nb at *
          clear hv hv2
          generalize C[j].1 = x at *
          generalize C[j].2.1 = d at *
          clear hsz
          generalize insideL x.data.toList = IN at *
          have HTH : Hid (∀ w', MidR w' g C l i j → w'.there g (i * 3) 3) := Lib.hid (fun w' h => h.there hij)
          have kwi : IntKind.i64.wrap ((i : Int) + 1) = (i : Int) + 1 := by rw [IntWalk.i64_in _ (by omega)]
          have kwj : IntKind.i64.wrap ((j : Int) + 1) = (j : Int) + 1 := by rw [IntWalk.i64_in _ (by omega)]
          have kki : (i : Int) < (C.length : Int) := by omega
          go_wp2_with fail
          refine (HC.out _).mono ?_
          rintro e w2 ⟨rfl, hb2⟩
          have hx := (boxed hb2)
          have q0 := hx.cellv (i := 0) (v := .string x) rfl
          have q1 := hx.cellv (i := 1) (v := .bool d) rfl
          have q2 := hx.cellv (i := 2) (v := .slice qb nb cb) rfl
          have hba : Below wr.heap.size wr w2 := ((Below.refl _ wr).alloc (Nat.le_refl _) _).trans (hb2.mono (by simp))
          replace HM := Lib.hid (HM.out.keep hba)
          replace HB := Lib.hid (HB.out.trans (hba.mono HSZ.out))
          replace HSZ := Lib.hid (Nat.le_trans HSZ.out hba.size)
          generalize wr.heap.size = BX at *
          clear hx hb2 hba c1 c2 c3
          cases IN with
          | true =>
            replace HM := Lib.hid (HSK.out rfl _ HM.out)
            clear HPU
            go_wp2_with fail
            go_roundw
            case rel => exact ⟨_, _, _, _, _, _, _, _, _, _, _, _, _, _, _, _, _, _, _, _, _, _, _, ⟨i, j + 1, by omega, by omega, rfl, by go_num, HM.out, HSZ.out, HB.out⟩, rfl⟩
            case measure => simp [intOf]; omega
          | false =>
            have HM2 := Lib.hid (HPU.out rfl _ HM.out)
            have HB2 := Lib.hid (below_setCells hb [.string x, .bool d, .slice qb nb cb] (i * 3) _ HB.out)
            have HS2 : Hid (base ≤ (w2.setCells g (i * 3) [.string x, .bool d, .slice qb nb cb]).heap.size) := Lib.hid (Nat.le_trans HSZ.out (below_setCells (Nat.zero_le g) [.string x, .bool d, .slice qb nb cb] (i * 3) _ (Below.refl 0 w2)).size)
            clear HSK HPU
            have ht := HTH.out _ HM.out
            obtain ⟨u0, hu0⟩ := Option.isSome_iff_exists.1 (ht 0 (by omega)).1
            obtain ⟨u1, hu1⟩ := Option.isSome_iff_exists.1 (ht 1 (by omega)).1
            obtain ⟨u2, hu2⟩ := Option.isSome_iff_exists.1 (ht 2 (by omega)).1
            have hf0 := (ht 0 (by omega)).2
            have hf1 := (ht 1 (by omega)).2
            have hf2 := (ht 2 (by omega)).2
            rw [Nat.add_zero] at hu0 hf0
            clear ht HM HB HSZ
            go_wp2_with fail
            go_roundw
            case rel => exact ⟨_, _, _, _, _, _, _, _, _, _, _, _, _, _, _, _, _, _, _, _, _, _, _, ⟨i + 1, j + 1, by omega, by omega, by go_num, by go_num, HM2.out, HS2.out, HB2.out⟩, rfl⟩
            case measure => simp [intOf]; omega
        · have hjl : j = C.length := by omega
          subst hjl
          have k0 : ¬ (C.length : Int) < (C.length : Int) := by omega
          have kic : (i : Int) ≤ (cap : Int) := by omega
          have kil : (i : Int) ≤ (C.length : Int) := by omega
          have kci : (cap = i) = False := eq_false (by omega)
          obtain ⟨M, hM1, hM2, hM3, hM4⟩ := HM.out
          rw [List.take_length] at hM3 hM4
          rw [List.drop_length, rowC_nil, List.nil_append] at hM4
          obtain ⟨Z, hZ⟩ : ∃ Z, (Builtin.zeroCells (Value.agg #[.string ⟨#[]⟩, .bool false, .slice none 0 0]).cells (C.length - i)).toList = Z := ⟨_, rfl⟩
          have hZl : Z.length = 3 * (C.length - i) := by rw [← hZ, Array.length_toList, zeroC_len, Nat.mul_comm]
          have hZ1 : ∀ v ∈ Z, v.oneCell' = true := fun v hv => by
            rw [← hZ] at hv
            exact zeroC_one _ v hv
          have hr : (rowC (outT C)).length = i * 3 := by rw [rowC_len, ← hM3, Nat.mul_comm]
          have hcl : ∀ ty, (Builtin.clear_ #[26] ty #[.slice (some ⟨g, i * 3, none⟩) (C.length - i) (cap - i)]).run Tryz.prog wr = .ok (.tuple #[]) (wr.setCells g (i * 3) Z) :=
            fun ty => run_clear_cells (P := Tryz.prog) wr 26 47 ty _ Tryz.underlying26 Tryz.zeroValue47 Z (C.length - i) g (i * 3) _ (by omega) hZ hZ1
              (fun t ht => by rw [hM4.cell, List.getElem?_eq_getElem (by rw [List.length_append, List.length_append, hr, hM1]; omega)]; rfl) (fun t ht => hM4.free _)
          have HB2 := Lib.hid (below_setCells hb Z (i * 3) _ HB.out)
          have h6 := hM4.swap (Y := Z) (by rw [hM1, hZl])
          rw [hr] at h6
          have HF : Hid (OwnT (wr.setCells g (i * 3) Z) base (.slice (some ⟨g, 0, none⟩) i cap) (outT C)) := Lib.hid (by
            have h7 := OwnT.of (cap := cap) hb h6 (by omega) HCM.out (by rw [← hM3, List.length_append, hZl]; have := HL.out; omega)
            rw [← hM3] at h7
            exact h7)
          clear hM1 hM2 hM3 hM4 hZ hZl hZ1 hr h6 HM HB HSZ hlt
          go_wp2_with fail
          go_ret
          exact ⟨⟨_, rfl, HF.out⟩, HB2.out⟩
end Go.Proofs.YtmjonlffhhehjaaGreatDoor
/- Contracts: package tree's Bytes, Clean. Conditions: at most 1000 entries, all bytes together at most 2^62, paths shorter than 2^63 bytes. -/
namespace Go.Proofs.YtmjonlffhhehjaaGreatDoor
open Go.RowKit
theorem own_slice' {w : World} {base n size : Nat} {e : TypeId} {v : Value} {xs : List Value} (h : w.ownsRow base e size v n xs) : ∃ x m c, v = .slice x m c := by
  rcases h.2 with ⟨rfl, _⟩ | ⟨g, cap, cur, rfl, _⟩
  · exact ⟨_, _, _, rfl⟩
  · exact ⟨_, _, _, rfl⟩
theorem OwnT.set {w : World} {base : Nat} {v : Value} {C : List Ent} (h : OwnT w base v C) {p : Addr} (hp : p.block < base) (u : Value) : OwnT (w.setCell p u) base v C := by
  rcases h.has with ⟨rfl, rfl⟩ | ⟨g, cap, l, rfl, hb, hg, h1, h2, h3⟩
  · exact OwnT.nil _ _
  · exact OwnT.of hb (hg.off (by omega) u) h1 h2 h3
def bytesP (C : List Ent) : Nat := if goodP C = true then bytesT C else 0
set_option maxHeartbeats 4000000 in
set_option maxRecDepth 100000 in
theorem tbytes_any (C : List Ent) (q : Option Addr) (c : Nat) (hm : C.length ≤ 100000) (hcap : C.length ≤ c) (hb : bytesT C ≤ 4611686018427387904) (hn : ∀ e ∈ C, e.1.size < 9223372036854775808) (w : World) (hs : Sees w w.heap.size q (rowC C)) (hE : Ents w C) :
    Calls Tryz.prog 33 #[.agg #[.slice q C.length c]] w fun e w' => e = .returned (.int .i64 (bytesP C : Int)) ∧ Below w.heap.size w w' := by
  have HG := Lib.hid (fun w1 (h : Below w.heap.size w w1) => tgood_any C q c hm hcap hb hn w1 ((hs.keep h).more h.size) (hE.keep h))
  have HZ := Lib.hid (fun w1 (h : Below w.heap.size w w1) => tsize_any C q c hm hb w1 ((hs.keep h).more h.size) (hE.keep h))
  have HB : Hid (Below w.heap.size w (w.alloc (.cells #[.slice q C.length c] 28))) := Lib.hid ((Below.refl _ _).alloc (Nat.le_refl _) _)
  have HX : Hid (Has (w.alloc (.cells #[.slice q C.length c] 28)) w.heap.size 28 [.slice q C.length c]) := Lib.hid (Has.made w _ _)
  unfold bytesP
  clear hs hE
  generalize goodP C = GC at *
  generalize bytesT C = N at *
  go_enter Tryz.func33, Tryz.ntmps33
  go_wp2_with fail
  refine (HG.out _ HB.out).mono ?_
  rintro e w1 ⟨rfl, hb⟩
  replace HB := Lib.hid (HB.out.trans (hb.mono HB.out.size))
  replace HX := Lib.hid (HX.out.keep hb HX.out.lt)
  clear hb
  cases GC with
  | false =>
    go_wp2_with fail
    go_ret
    exact ⟨rfl, HB.out⟩
  | true =>
    have cx := HX.out.cellv (i := 0) (v := .slice q C.length c) rfl
    go_wp2_with fail
    refine (HZ.out _ HB.out).mono ?_
    rintro e w2 ⟨rfl, hb⟩
    replace HB := Lib.hid (HB.out.trans (hb.mono HB.out.size))
    clear hb
    go_wp2_with fail
    go_ret
    exact ⟨rfl, HB.out⟩
def cleanP (C : List Ent) : List Ent := if goodP C = true then outT C else C
set_option maxHeartbeats 4000000 in
set_option maxRecDepth 100000 in
theorem tclean_any (C : List Ent) (q : Option Addr) (c : Nat) (hm : C.length ≤ 1000) (hcap : C.length ≤ c) (hq : q = none → c = 0) (hb : bytesT C ≤ 4611686018427387904) (hn : ∀ e ∈ C, e.1.size < 9223372036854775808) (w : World) (hs : Sees w w.heap.size q (rowC C)) (hE : Ents w C) :
    Calls Tryz.prog 35 #[.agg #[.slice q C.length c]] w fun e w' => (∃ v, e = .returned (.agg #[v]) ∧ TrV w' v (cleanP C)) ∧ Below w.heap.size w w' := by
  have HG := Lib.hid (fun w1 (h : Below w.heap.size w w1) => tgood_any C q c (by omega) hcap hb hn w1 ((hs.keep h).more h.size) (hE.keep h))
  have HCL := Lib.hid (fun w1 (h : Below w.heap.size w w1) => tclone_any C q c (by omega) w1 hq ((hs.keep h).more h.size) (hE.keep h))
  have HDF := Lib.hid (fun v w1 base (h : Below w.heap.size w w1) (hO : OwnT w1 base v C) (h2 : base ≤ w1.heap.size) => tdeleteF_any C v base hm hn w1 h2 hO (hE.keep h))
  have HTR : Hid (∀ w', Below w.heap.size w w' → TrV w' (.slice q C.length c) C) := Lib.hid (fun w' h => ⟨q, c, rfl, hcap, hq, (hs.keep h).more h.size⟩)
  have HB : Hid (Below w.heap.size w ((w.alloc (.cells #[.slice q C.length c] 28)).alloc (.cells #[.slice none 0 0] 28))) := Lib.hid (((Below.refl _ _).alloc (Nat.le_refl _) _).alloc (by simp) _)
  have HX : Hid (Has ((w.alloc (.cells #[.slice q C.length c] 28)).alloc (.cells #[.slice none 0 0] 28)) w.heap.size 28 [.slice q C.length c]) := Lib.hid ((Has.made w _ _).alloc _)
  have HY : Hid (Has ((w.alloc (.cells #[.slice q C.length c] 28)).alloc (.cells #[.slice none 0 0] 28)) (w.heap.size + 1) 28 [.slice none 0 0]) := Lib.hid (Has.made1 w _ _ _ _ rfl)
  unfold cleanP
  clear hs hE hq
  generalize goodP C = GC at *
  go_enter Tryz.func35, Tryz.ntmps35
  go_wp2_with fail
  refine (HG.out _ HB.out).mono ?_
  rintro e w1 ⟨rfl, hb⟩
  replace HB := Lib.hid (HB.out.trans (hb.mono HB.out.size))
  replace HX := Lib.hid (HX.out.keep hb HX.out.lt)
  replace HY := Lib.hid (HY.out.keep hb HY.out.lt)
  clear hb
  cases GC with
  | false =>
    have cx := HX.out.cellv (i := 0) (v := .slice q C.length c) rfl
    have cy := HY.out.cellv (i := 0) (v := .slice none 0 0) rfl
    have fy := HY.out.free 0
    go_wp2_with fail
    have cz : (w1.setCell ⟨w.heap.size + 1, 0, none⟩ (.slice q C.length c)).cell? ⟨w.heap.size + 1, 0, none⟩ = some (.slice q C.length c) := World.cell?_setCell_same' _ _ _ (by rw [cy]; rfl)
    refine bodyPost_ret (by simp [results, Tryz.results35, go_sem, cz]; try rfl) rfl ?_
    exact ⟨⟨_, rfl, HTR.out _ (HB.out.setCell (p := ⟨w.heap.size + 1, 0, none⟩) (by show w.heap.size ≤ w.heap.size + 1; omega) _)⟩, HB.out.setCell (p := ⟨w.heap.size + 1, 0, none⟩) (by show w.heap.size ≤ w.heap.size + 1; omega) _⟩
  | true =>
    have cx := HX.out.cellv (i := 0) (v := .slice q C.length c) rfl
    go_wp2_with fail
    have HYL0 := Lib.hid HY.out.lt
    refine (HCL.out _ HB.out).mono ?_
    rintro e w2 ⟨⟨v2, rfl, hO2⟩, hb⟩
    have HO2 := Lib.hid hO2
    have HZ2 := Lib.hid (HB.out.size)
    replace HB := Lib.hid (HB.out.trans (hb.mono HB.out.size))
    replace HY := Lib.hid (HY.out.keep hb HY.out.lt)
    have HS2 := Lib.hid hb.size
    have HYL := Lib.hid HYL0.out
    clear hb hO2 cx HYL0
    go_wp2_with fail
    refine (HDF.out _ _ _ HB.out HO2.out HS2.out).mono ?_
    rintro e w3 ⟨⟨v3, rfl, hO3⟩, hb⟩
    replace HY := Lib.hid (HY.out.keep hb HYL.out)
    replace HB := Lib.hid (HB.out.trans (hb.mono HZ2.out))
    obtain ⟨x5, m5, k5, rfl⟩ := own_slice' hO3
    have HO3 := Lib.hid hO3
    clear hb hO3 HO2
    have cy := HY.out.cellv (i := 0) (v := .slice none 0 0) rfl
    have fy := HY.out.free 0
    go_wp2_with fail
    have cz : (w3.setCell ⟨w.heap.size + 1, 0, none⟩ (.slice x5 m5 k5)).cell? ⟨w.heap.size + 1, 0, none⟩ = some (.slice x5 m5 k5) := World.cell?_setCell_same' _ _ _ (by rw [cy]; rfl)
    refine bodyPost_ret (by simp [results, Tryz.results35, go_sem, cz]; try rfl) rfl ?_
    refine ⟨⟨_, rfl, ?_⟩, HB.out.setCell (p := ⟨w.heap.size + 1, 0, none⟩) (by show w.heap.size ≤ w.heap.size + 1; omega) _⟩
    exact (HO3.out.set (p := ⟨w.heap.size + 1, 0, none⟩) HYL.out _).tr
end Go.Proofs.YtmjonlffhhehjaaGreatDoor
/- Plain: what stands straight in a directory. No condition. -/
namespace Go.Proofs.YtmjonlffhhehjaaGreatDoor
open Go.RowKit Go.Sort
def inT (C : List Ent) (p : Tx) : List Tx := (C.filter fun e => upV e.pa == p).map Ent.pa
def kidsT (C : List Ent) (p : Tx) : List Tx := if goodT C = true then inT C p else []
end Go.Proofs.YtmjonlffhhehjaaGreatDoor
/- Contract: package tree's Kids. Conditions: at most 50000 entries, all bytes together at most 2^62, paths shorter than 2^63 bytes. -/
namespace Go.Proofs.YtmjonlffhhehjaaGreatDoor
open Go.RowKit Go.Sort
theorem goodQ_all : ∀ (C pre : List Ent), goodQ pre C = true → ∀ e ∈ C, okEnt e = true
  | [], _, _, _, h => by cases h
  | x :: C, pre, hg, e, he => by
    rw [goodQ, Bool.and_eq_true, Bool.and_eq_true, Bool.and_eq_true] at hg
    rcases List.mem_cons.1 he with rfl | he
    · exact hg.1
    · exact goodQ_all C _ hg.2.2.2 e he
theorem goodP_ok {C : List Ent} (h : goodP C = true) : ∀ e ∈ C, okPath e.pa = true := fun e he => by
  unfold goodP at h
  rw [Bool.and_eq_true] at h
  have := goodQ_all C [] h.2 e he
  unfold okEnt at this
  rw [Bool.and_eq_true, Bool.and_eq_true] at this
  exact this.2.1
def kidsP (C : List Ent) (p : Tx) : List Tx := if goodP C = true then inT C p else []
end Go.Proofs.YtmjonlffhhehjaaGreatDoor
/- Contracts: package tree's asked. Conditions: at most 1000 entries, all bytes together at most 2^62, paths shorter than 2^63 bytes. -/
namespace Go.Proofs.YtmjonlffhhehjaaGreatDoor
open Go.RowKit
def askT (C : List Ent) (L : List ByteArray) : Int := if goodP C = false then 1 else if (L.all fun p => okPath p.data.toList) = true then 0 else 4
end Go.Proofs.YtmjonlffhhehjaaGreatDoor
/- Contract: package tree's find. Conditions: at most 1000 entries, all bytes together at most 2^62, paths shorter than 2^63 bytes. -/
namespace Go.Proofs.YtmjonlffhhehjaaGreatDoor
open Go.RowKit
theorem goodQ_asc : ∀ (C pre : List Ent), goodQ pre C = true → AscE pre → AscE (pre ++ C)
  | [], pre, _, h => by rw [List.append_nil]; exact h
  | x :: C, pre, hg, h => by
    rw [goodQ, Bool.and_eq_true, Bool.and_eq_true, Bool.and_eq_true] at hg
    have := goodQ_asc C (pre ++ [x]) hg.2.2.2 (h.snoc hg.2.1)
    rwa [List.append_assoc] at this
theorem goodP_asc {C : List Ent} (h : goodP C = true) : AscE C := by
  unfold goodP at h
  rw [Bool.and_eq_true] at h
  exact goodQ_asc C [] h.2 List.Pairwise.nil
theorem askT_good {C : List Ent} {L : List ByteArray} (h : askT C L = 0) : goodP C = true ∧ ∀ p ∈ L, okPath p.data.toList = true := by
  unfold askT at h
  cases hg : goodP C with
  | false => rw [hg] at h; simp at h
  | true =>
    rw [hg] at h
    cases ha : L.all fun p => okPath p.data.toList with
    | false => rw [ha] at h; simp at h
    | true => exact ⟨rfl, fun p hp => List.all_eq_true.1 ha p hp⟩
def findP (C : List Ent) (p : ByteArray) : Nat × Int := if askT C [p] ≠ 0 then (0, askT C [p]) else if hasT C p.data.toList = true then (posT C p.data.toList, 0) else (0, 5)
theorem has_sees {w : World} {g : Nat} {t : TypeId} {l : List Value} (h : Has w g t l) : Sees w w.heap.size (some ⟨g, 0, none⟩) l := fun _ =>
  ⟨_, rfl, h.lt, fun j u hu => by
    have e2 : (Addr.add ⟨g, 0, none⟩ j) = ⟨g, j, none⟩ := by unfold Addr.add; split <;> simp_all
    rw [e2]
    exact h.cellv hu⟩
end Go.Proofs.YtmjonlffhhehjaaGreatDoor
/- Contract: bytes.Equal. No condition. -/
namespace Go.Proofs.YtmjonlffhhehjaaGreatDoor
open Go.RowKit

theorem bequal_any (x y : List (BitVec 8)) (q p : Option Addr) (c d : Nat) (w : World) (hx : Sees w w.heap.size q (x.map u8v)) (hy : Sees w w.heap.size p (y.map u8v)) :
    Calls Tryz.prog 110 #[.slice q x.length c, .slice p y.length d] w fun e w' => e = .returned (.bool (decide (x = y))) ∧ w = w' := by
  have h1 := str_run x q c _ w hx
  have h2 := str_run y p d _ w hy
  have h3 := strB_beq x y
  go_enter Tryz.func110, Tryz.ntmps110
  go_wp2_with fail
  go_ret
  exact ⟨rfl, rfl⟩
end Go.Proofs.YtmjonlffhhehjaaGreatDoor
/- Contracts: package tree's sameEntry, slices.EqualFunc with it, Same. Conditions: at most 10^5 entries, all bytes together at most 2^62, paths shorter than 2^63 bytes. -/
namespace Go.Proofs.YtmjonlffhhehjaaGreatDoor
open Go.RowKit
set_option maxHeartbeats 4000000 in
set_option maxRecDepth 100000 in
theorem tsame1_any (x y : ByteArray) (d d2 : Bool) (qb qb2 : Option Addr) (cb cb2 : Nat) (bb bb2 : List (BitVec 8)) (w : World) (h1 : Sees w w.heap.size qb (bb.map u8v)) (h2 : Sees w w.heap.size qb2 (bb2.map u8v)) :
    Calls Tryz.prog 73 #[.agg #[.string x, .bool d, .slice qb bb.length cb], .agg #[.string y, .bool d2, .slice qb2 bb2.length cb2]] w fun e w' => e = .returned (.bool (x.data.toList == y.data.toList && (d == d2 && decide (bb = bb2)))) ∧ Below w.heap.size w w' := by
  have HB : Hid (Below w.heap.size w ((w.alloc (.cells #[.string x, .bool d, .slice qb bb.length cb] 47)).alloc (.cells #[.string y, .bool d2, .slice qb2 bb2.length cb2] 47))) := Lib.hid (((Below.refl _ _).alloc (Nat.le_refl _) _).alloc (by simp) _)
  have HE := Lib.hid (fun w1 h1 h2 => bequal_any bb bb2 qb qb2 cb cb2 w1 h1 h2)
  have H1 : Hid (∀ w', Below w.heap.size w w' → Sees w' w'.heap.size qb (bb.map u8v)) := Lib.hid (fun w' h => (h1.keep h).more h.size)
  have H2 : Hid (∀ w', Below w.heap.size w w' → Sees w' w'.heap.size qb2 (bb2.map u8v)) := Lib.hid (fun w' h => (h2.keep h).more h.size)
  have hlx : x.toList = x.data.toList := Lib.toList_data x
  have hly : y.toList = y.data.toList := Lib.toList_data y
  clear h1 h2
  generalize decide (bb = bb2) = EB at *
  cases hxy : (x.data.toList == y.data.toList) with
  | false =>
    go_enter Tryz.func73, Tryz.ntmps73
    go_wp2_with fail
    go_ret
    exact ⟨rfl, HB.out⟩
  | true =>
    by_cases hd : d = d2
    · subst hd
      have kd : (d == d) = true := by cases d <;> rfl
      rw [kd]
      go_enter Tryz.func73, Tryz.ntmps73
      go_wp2_with (first | ((with_reducible refine (HE.out _ (H1.out _ HB.out) (H2.out _ HB.out)).mono ?_); rintro e w1 ⟨rfl, rfl⟩))
      go_ret
      exact ⟨rfl, HB.out⟩
    · have kd : (d == d2) = false := by simpa using hd
      rw [kd]
      go_enter Tryz.func73, Tryz.ntmps73
      go_wp2_with fail
      go_ret
      exact ⟨rfl, HB.out⟩
/-- Two entries alike; two lists of them. -/
def eqE (a b : Ent) : Bool := a.pa == b.pa && (a.dir == b.dir && decide (a.by = b.by))
def likeT : List Ent → List Ent → Bool
  | [], [] => true
  | a :: A, b :: B => eqE a b && likeT A B
  | _, _ => false
theorem likeT_len : ∀ {A B : List Ent}, A.length ≠ B.length → likeT A B = false
  | [], [], h => absurd rfl h
  | a :: A, b :: B, h => by rw [likeT, likeT_len (A := A) (B := B) (by simpa using h), Bool.and_false]
  | [], _ :: _, _ => rfl
  | _ :: _, [], _ => rfl
set_option maxHeartbeats 8000000 in
set_option maxRecDepth 100000 in
theorem tequalF_any (C D : List Ent) (q p : Option Addr) (c d : Nat) (hm : C.length ≤ 100000) (w : World) (hs : Sees w w.heap.size q (rowC C)) (ht : Sees w w.heap.size p (rowC D)) (hE : Ents w C) (hF : Ents w D) :
    Calls Tryz.prog 72 #[.slice q C.length c, .slice p D.length d, .func (.func 73) #[] #[]] w fun e w' => e = .returned (.bool (likeT C D)) ∧ Below w.heap.size w w' := by
  have HS := Lib.hid hs
  have HT := Lib.hid ht
  have HE := Lib.hid hE
  have HF := Lib.hid hF
  obtain ⟨V, hV⟩ : ∃ V, likeT C D = V := ⟨_, rfl⟩
  rw [hV]
  clear hs ht hE hF
  by_cases hl : C.length = D.length
  · have HV := Lib.hid hV
    rw [← hl]
    have HL := Lib.hid hl
    clear hV hl
    go_enter Tryz.func72, Tryz.ntmps72
    go_wp2_with fail
    go_loopw [7, 8, 9, 17] (fun _ _ _ vi wr => ∃ i : Nat, i ≤ C.length ∧ vi = .int .i64 i ∧ likeT (C.drop i) (D.drop i) = V ∧ Below w.heap.size w wr) (fun _ _ _ vi _ => C.length - (intOf vi).toNat)
    case atStart => exact ⟨0, by omega, rfl, HV.out, Below.refl _ _⟩
    case round =>
      rename_i wr
      obtain ⟨i, hi, rfl, hv, hB⟩ := hrel
      have HB := Lib.hid hB
      clear HV hB
      by_cases hlt : i < C.length
      · have hlt2 : i < D.length := by have := HL.out; omega
        obtain ⟨a, rfl, ha, hc⟩ := HS.out.ent hlt
        obtain ⟨a2, rfl, ha2, hc2⟩ := HT.out.ent hlt2
        obtain ⟨c1, c2, c3⟩ := hc wr HB.out
        have hc2' := fun o => hc2 (wr.alloc o) (HB.out.alloc HB.out.size o)
        obtain ⟨qb, cb, hv1, _, _, hb1⟩ := HE.out C[i] (List.getElem_mem hlt)
        obtain ⟨qb2, cb2, hv2, _, _, hb2⟩ := HF.out D[i] (List.getElem_mem hlt2)
        have kk : (i : Int) < (C.length : Int) := by omega
        rw [List.drop_eq_getElem_cons hlt, List.drop_eq_getElem_cons hlt2, likeT] at hv
        have H1 : Hid (∀ w', Below w.heap.size w w' → Sees w' w'.heap.size qb (C[i].by.map u8v)) := Lib.hid (fun w' h => (hb1.keep h).more h.size)
        have H2 : Hid (∀ w', Below w.heap.size w w' → Sees w' w'.heap.size qb2 (D[i].by.map u8v)) := Lib.hid (fun w' h => (hb2.keep h).more h.size)
        obtain ⟨e, he⟩ : ∃ e, C[i] = e := ⟨_, rfl⟩
        obtain ⟨e2, he2⟩ : ∃ e2, D[i] = e2 := ⟨_, rfl⟩
        rw [he] at c1 c2 c3 hv1 hv H1
        rw [he2] at hv2 hv H2
        simp only [he2] at hc2'
        obtain ⟨x, dd, bv, bb⟩ := e
        obtain ⟨y, dd2, bv2, bb2⟩ := e2
        have hv1' : bv = .slice qb (List.length bb) cb := hv1
        have hv2' : bv2 = .slice qb2 (List.length bb2) cb2 := hv2
        subst hv1'
        subst hv2'
        have o1 := fun o => (hc2' o).1
        have o2 := fun o => (hc2' o).2.1
        have o3 := fun o => (hc2' o).2.2
        simp only [] at c1 c2 c3 o1 o2 o3
        have HC := Lib.hid (fun w1 h1 h2 => tsame1_any x y dd dd2 qb qb2 cb cb2 bb bb2 w1 h1 h2)
        have hee : eqE (x, dd, Value.slice qb bb.length cb, bb) (y, dd2, Value.slice qb2 bb2.length cb2, bb2) = (x.data.toList == y.data.toList && (dd == dd2 && decide (bb = bb2))) := rfl
        rw [hee] at hv
        have HV := Lib.hid hv
        have H1' : Hid (∀ w', Below w.heap.size w w' → Sees w' w'.heap.size qb (bb.map u8v)) := H1
        have H2' : Hid (∀ w', Below w.heap.size w w' → Sees w' w'.heap.size qb2 (bb2.map u8v)) := H2
        clear hc hc2 hc2' ha ha2 he he2 hv1 hv2 hb1 hb2 hee hv H1 H2
        generalize (x.data.toList == y.data.toList && (dd == dd2 && decide (bb = bb2))) = EB at *
        have HB2 : Hid (Below w.heap.size w ((wr.alloc (.cells #[.string x, .bool dd, .slice qb bb.length cb] 47)).alloc (.cells #[.string y, .bool dd2, .slice qb2 bb2.length cb2] 47))) := Lib.hid ((HB.out.alloc HB.out.size _).alloc (by have := HB.out.size; simp; omega) _)
        cases EB with
        | true =>
          have HV2 : Hid (likeT (C.drop (i + 1)) (D.drop (i + 1)) = V) := HV
          go_wp2_with fail
          refine (HC.out _ (H1'.out _ HB2.out) (H2'.out _ HB2.out)).mono ?_
          rintro e w2 ⟨rfl, hb2⟩
          replace HB := Lib.hid (HB2.out.trans (hb2.mono HB2.out.size))
          clear hb2 c1 c2 c3 o1 o2 o3
          go_wp2_with fail
          go_roundw
          case rel => exact ⟨i + 1, by omega, by go_num, HV2.out, HB.out⟩
          case measure => simp [intOf]; omega
        | false =>
          have hv : V = false := HV.out.symm
          subst hv
          go_wp2_with fail
          refine (HC.out _ (H1'.out _ HB2.out) (H2'.out _ HB2.out)).mono ?_
          rintro e w2 ⟨rfl, hb2⟩
          replace HB := Lib.hid (HB2.out.trans (hb2.mono HB2.out.size))
          clear hb2 c1 c2 c3 o1 o2 o3
          go_wp2_with fail
          go_ret
          exact ⟨rfl, HB.out⟩
      · have hil : i = C.length := by omega
        subst hil
        have k0 : ¬ (C.length : Int) < (C.length : Int) := by omega
        have hv' : V = true := by rw [← hv, List.drop_length, HL.out, List.drop_length]; rfl
        subst hv'
        clear hlt hv
        go_wp2_with fail
        go_ret
        exact ⟨rfl, HB.out⟩
  · have hv : V = false := by rw [← hV, likeT_len hl]
    subst hv
    have kl : ((C.length : Int) = (D.length : Int)) = False := eq_false (by omega)
    have klb : ((C.length : Int) == (D.length : Int)) = false := by rw [beq_eq_false_iff_ne]; omega
    clear hV
    go_enter Tryz.func72, Tryz.ntmps72
    go_wp2_with fail
    go_ret
    exact ⟨rfl, Below.refl _ _⟩
def sameT (C D : List Ent) : Bool := goodP C && (goodP D && likeT C D)
set_option maxHeartbeats 8000000 in
set_option maxRecDepth 100000 in
theorem tsame_any (C D : List Ent) (q p : Option Addr) (c d : Nat) (hmC : C.length ≤ 100000) (hmD : D.length ≤ 100000) (hcC : C.length ≤ c) (hcD : D.length ≤ d) (hbC : bytesT C ≤ 4611686018427387904) (hbD : bytesT D ≤ 4611686018427387904) (hnC : ∀ e ∈ C, e.1.size < 9223372036854775808) (hnD : ∀ e ∈ D, e.1.size < 9223372036854775808)
    (w : World) (hs : Sees w w.heap.size q (rowC C)) (ht : Sees w w.heap.size p (rowC D)) (hE : Ents w C) (hF : Ents w D) :
    Calls Tryz.prog 34 #[.agg #[.slice q C.length c], .agg #[.slice p D.length d]] w fun e w' => e = .returned (.bool (sameT C D)) ∧ Below w.heap.size w w' := by
  have HGC := Lib.hid (fun w1 (h : Below w.heap.size w w1) => tgood_any C q c hmC hcC hbC hnC w1 ((hs.keep h).more h.size) (hE.keep h))
  have HGD := Lib.hid (fun w1 (h : Below w.heap.size w w1) => tgood_any D p d hmD hcD hbD hnD w1 ((ht.keep h).more h.size) (hF.keep h))
  have HEQ := Lib.hid (fun w1 (h : Below w.heap.size w w1) => tequalF_any C D q p c d hmC w1 ((hs.keep h).more h.size) ((ht.keep h).more h.size) (hE.keep h) (hF.keep h))
  have HB : Hid (Below w.heap.size w ((w.alloc (.cells #[.slice q C.length c] 28)).alloc (.cells #[.slice p D.length d] 28))) := Lib.hid (((Below.refl _ _).alloc (Nat.le_refl _) _).alloc (by simp) _)
  have HX : Hid (Has ((w.alloc (.cells #[.slice q C.length c] 28)).alloc (.cells #[.slice p D.length d] 28)) w.heap.size 28 [.slice q C.length c]) := Lib.hid ((Has.made w _ _).alloc _)
  have HY : Hid (Has ((w.alloc (.cells #[.slice q C.length c] 28)).alloc (.cells #[.slice p D.length d] 28)) (w.heap.size + 1) 28 [.slice p D.length d]) := Lib.hid (Has.made1 w _ _ _ _ rfl)
  unfold sameT
  clear hs ht hE hF
  generalize goodP C = GC at *
  generalize goodP D = GD at *
  generalize likeT C D = LK at *
  go_enter Tryz.func34, Tryz.ntmps34
  go_wp2_with fail
  refine (HGC.out _ HB.out).mono ?_
  rintro e w1 ⟨rfl, hb⟩
  replace HB := Lib.hid (HB.out.trans (hb.mono HB.out.size))
  replace HX := Lib.hid (HX.out.keep hb HX.out.lt)
  replace HY := Lib.hid (HY.out.keep hb HY.out.lt)
  clear hb
  cases GC with
  | false =>
    go_wp2_with fail
    go_ret
    exact ⟨rfl, HB.out⟩
  | true =>
    have cy := HY.out.cellv (i := 0) (v := .slice p D.length d) rfl
    go_wp2_with fail
    refine (HGD.out _ HB.out).mono ?_
    rintro e w2 ⟨rfl, hb⟩
    replace HB := Lib.hid (HB.out.trans (hb.mono HB.out.size))
    replace HX := Lib.hid (HX.out.keep hb HX.out.lt)
    replace HY := Lib.hid (HY.out.keep hb HY.out.lt)
    clear hb cy
    cases GD with
    | false =>
      go_wp2_with fail
      go_ret
      exact ⟨rfl, HB.out⟩
    | true =>
      have cy := HY.out.cellv (i := 0) (v := .slice p D.length d) rfl
      have cx := HX.out.cellv (i := 0) (v := .slice q C.length c) rfl
      go_wp2_with fail
      refine (HEQ.out _ HB.out).mono ?_
      rintro e w3 ⟨rfl, hb⟩
      replace HB := Lib.hid (HB.out.trans (hb.mono HB.out.size))
      clear hb cy cx
      go_wp2_with fail
      go_ret
      exact ⟨rfl, HB.out⟩
end Go.Proofs.YtmjonlffhhehjaaGreatDoor
/- Plain laws of trees that may be: what makes one; what is worked on taken away; kids counted. No condition. -/
namespace Go.Proofs.YtmjonlffhhehjaaGreatDoor
open Go.RowKit
theorem atT_app {A B : List Ent} {u : Tx} (h : ∀ e ∈ B, e.pa ≠ u) : atT (A ++ B) u = atT A u := by
  induction A with
  | nil => rw [List.nil_append, atT_no h]; rfl
  | cons x A ih => rw [List.cons_append, atT, atT, ih]
theorem dirT_app {A B : List Ent} {k : Nat} (h : k < A.length) : dirT (A ++ B) k = dirT A k := by
  unfold dirT; rw [List.getElem?_append_left h]
theorem roomT_app {A B : List Ent} {p : Tx} (h : ∀ e ∈ B, e.pa ≠ upV p) : roomT (A ++ B) p = roomT A p := by
  have hlt := atT_lt A (upV p)
  unfold roomT
  rw [atT_app h]
  by_cases h0 : upV p = []
  · rw [if_pos h0, if_pos h0]
  · rw [if_neg h0, if_neg h0]
    by_cases h1 : atT A (upV p) < 0
    · rw [if_pos h1, if_pos h1]
    · rw [if_neg h1, if_neg h1, dirT_app (by omega)]
theorem up_before {p : Tx} (h : okPath p = true) (hu : upV p ≠ []) : cmpT (upV p) p < 0 := by
  have e : upV p = upL p := by unfold upV; rw [if_pos h]
  rw [e] at hu ⊢
  rw [(up_within h hu).2.1]; decide
theorem okEnt_path {e : Ent} (h : okEnt e = true) : okPath e.pa = true := by
  unfold okEnt at h
  rw [Bool.and_eq_true, Bool.and_eq_true] at h
  exact h.2.1
theorem prev_of_asc {pre : List Ent} {x : Ent} {C : List Ent} (h : AscE (pre ++ x :: C)) : prevB pre.getLast? x.pa = true := by
  rcases List.eq_nil_or_concat pre with rfl | ⟨L, y, rfl⟩
  · rfl
  · rw [List.concat_eq_append, List.getLast?_concat]
    rw [List.concat_eq_append, List.append_assoc] at h
    have h1 := (List.pairwise_append.1 h).2.1
    exact decide_eq_true ((List.pairwise_cons.1 h1).1 x (List.mem_cons_self ..))
theorem room_prefix {pre : List Ent} {x : Ent} {C : List Ent} (h : AscE (pre ++ x :: C)) (hx : okPath x.pa = true) : roomT (pre ++ x :: C) x.pa = roomT pre x.pa := by
  by_cases h0 : upV x.pa = []
  · unfold roomT; rw [if_pos h0, if_pos h0]
  · refine roomT_app fun e he k => ?_
    have hb := up_before hx h0
    rw [← k] at hb
    rcases List.mem_cons.1 he with rfl | he
    · rw [cmpT_self] at hb; omega
    · have h1 := (List.pairwise_cons.1 (List.pairwise_append.1 h).2.1).1 e he
      have h2 := cmpL_lt_le hb (Int.le_of_lt h1)
      rw [cmpT_self] at h2; omega
theorem goodQ_iff : ∀ (C pre : List Ent), AscE pre → (goodQ pre C = true ↔ AscE (pre ++ C) ∧ (∀ e ∈ C, okEnt e = true) ∧ ∀ e ∈ C, roomT (pre ++ C) e.pa = 0)
  | [], pre, h => by
    rw [List.append_nil]
    exact ⟨fun _ => ⟨h, (fun _ hx => nomatch hx), (fun _ hx => nomatch hx)⟩, fun _ => rfl⟩
  | x :: C, pre, h => by
    have happ : pre ++ [x] ++ C = pre ++ x :: C := by rw [List.append_assoc]; rfl
    rw [goodQ, Bool.and_eq_true, Bool.and_eq_true, Bool.and_eq_true, decide_eq_true_eq]
    constructor
    · rintro ⟨h1, h2, h3, h4⟩
      have ih := (goodQ_iff C (pre ++ [x]) (h.snoc h2)).1 h4
      rw [happ] at ih
      refine ⟨ih.1, fun e he => ?_, fun e he => ?_⟩
      · rcases List.mem_cons.1 he with rfl | he
        · exact h1
        · exact ih.2.1 e he
      · rcases List.mem_cons.1 he with rfl | he
        · rw [room_prefix ih.1 (okEnt_path h1)]; exact h3
        · exact ih.2.2 e he
    · rintro ⟨h1, h2, h3⟩
      have hx := h2 x (List.mem_cons_self ..)
      have hp := prev_of_asc h1
      refine ⟨hx, hp, ?_, (goodQ_iff C (pre ++ [x]) (h.snoc hp)).2 ⟨by rw [happ]; exact h1, fun e he => h2 e (List.mem_cons_of_mem _ he), fun e he => by rw [happ]; exact h3 e (List.mem_cons_of_mem _ he)⟩⟩
      rw [← room_prefix h1 (okEnt_path hx)]
      exact h3 x (List.mem_cons_self ..)
/-- What makes a tree that may be. -/
theorem goodP_iff (C : List Ent) : goodP C = true ↔ fitsT C = true ∧ AscE C ∧ (∀ e ∈ C, okEnt e = true) ∧ ∀ e ∈ C, roomT C e.pa = 0 := by
  unfold goodP
  rw [Bool.and_eq_true, goodQ_iff C [] List.Pairwise.nil, List.nil_append]
theorem atT_mem {C : List Ent} {u : Tx} (h : 0 ≤ atT C u) : ∃ e ∈ C, e.pa = u := by
  induction C with
  | nil => exact absurd (show (0 : Int) ≤ -1 from h) (by decide)
  | cons x C ih =>
    unfold atT at h
    split at h
    · exact ⟨x, List.mem_cons_self .., by assumption⟩
    · split at h
      · exact absurd h (by decide)
      · obtain ⟨e, he, k⟩ := ih (by omega)
        exact ⟨e, List.mem_cons_of_mem _ he, k⟩
theorem atT_has {C : List Ent} {e : Ent} (he : e ∈ C) : 0 ≤ atT C e.pa := by
  rcases Int.lt_or_le (atT C e.pa) 0 with h | h
  · exfalso
    induction C with
    | nil => cases he
    | cons x C ih =>
      unfold atT at h
      split at h
      · omega
      · rcases List.mem_cons.1 he with rfl | he
        · contradiction
        · refine ih he ?_
          split at h
          · assumption
          · omega
  · exact h
theorem asc_one {C : List Ent} (h : AscE C) {a b : Ent} (ha : a ∈ C) (hb : b ∈ C) (k : a.pa = b.pa) : a = b := by
  obtain ⟨i, hi, rfl⟩ := List.getElem_of_mem ha
  obtain ⟨j, hj, rfl⟩ := List.getElem_of_mem hb
  rcases Nat.lt_trichotomy i j with h1 | h1 | h1
  · have := h.lt hi hj h1; rw [k, cmpT_self] at this; omega
  · subst h1; rfl
  · have := h.lt hj hi h1; rw [k, cmpT_self] at this; omega
/-- What something stands in, in order: a directory of that path is there. -/
theorem room_iff {C : List Ent} (h : AscE C) {p : Tx} (h0 : upV p ≠ []) : roomT C p = 0 ↔ ∃ e ∈ C, e.pa = upV p ∧ e.dir = true := by
  have key : ∀ e ∈ C, e.pa = upV p → dirT C (atT C (upV p)).toNat = e.dir := fun e he k => by
    have h1 := atT_has he
    rw [k] at h1
    have hl := atT_lt C (upV p)
    have hi : (atT C (upV p)).toNat < C.length := by omega
    rcases asc_atT h (upV p) with ⟨h2, h3, h4⟩ | ⟨h2, h3⟩
    · unfold dirT
      rw [List.getElem?_eq_getElem hi]
      have hp : C[(atT C (upV p)).toNat].pa = upV p := by
        have e1 : (atT C (upV p)).toNat = posT C (upV p) := by omega
        simp only [e1]
        unfold hasT at h2
        rw [List.getElem?_eq_getElem h4] at h2
        exact cmpT_zero.1 (of_decide_eq_true h2)
      have := asc_one h (List.getElem_mem hi) he (hp.trans k.symm)
      rw [this]; rfl
    · omega
  unfold roomT
  rw [if_neg h0]
  constructor
  · intro hr
    split at hr
    · cases hr
    · rename_i hx
      obtain ⟨e, he, k⟩ := atT_mem (Int.not_lt.1 hx)
      refine ⟨e, he, k, ?_⟩
      rw [key e he k] at hr
      split at hr
      · assumption
      · cases hr
  · rintro ⟨e, he, k, hd⟩
    have h1 := atT_has he
    rw [k] at h1
    rw [if_neg (by omega), key e he k, hd, if_pos rfl]
theorem bytesT_filter (C : List Ent) (f : Ent → Bool) : bytesT (C.filter f) ≤ bytesT C := by
  induction C with
  | nil => exact Nat.le_refl _
  | cons x C ih =>
    rw [List.filter_cons]
    have h : ∀ D : List Ent, bytesT (x :: D) = x.by.length + bytesT D := fun D => by unfold bytesT; rw [List.map_cons, List.sum_cons]
    split
    · rw [h, h]; omega
    · rw [h]; omega
theorem fitsT_filter {C : List Ent} (f : Ent → Bool) (h : fitsT C = true) : fitsT (C.filter f) = true := by
  unfold fitsT at h ⊢
  rw [Bool.and_eq_true, decide_eq_true_eq, decide_eq_true_eq] at h ⊢
  have h1 := List.length_filter_le f C
  have h2 := bytesT_filter C f
  omega
theorem inside_up {p : Tx} (h : okPath p = true) (h0 : upV p ≠ []) (hi : insideL (upV p) = true) : insideL p = true := by
  have e : upV p = upL p := by unfold upV; rw [if_pos h]
  rw [e] at h0 hi
  have hw := (up_within h h0).1
  unfold insideL at hi ⊢
  rw [Bool.or_eq_true] at hi ⊢
  rcases hi with hi | hi
  · have := eq_of_beq hi
    rw [this] at hw
    exact .inr hw
  · exact .inr (under_trans hi hw)
/-- Without what is worked on it still may be. -/
theorem good_out {C : List Ent} (h : goodP C = true) : goodP (outT C) = true := by
  obtain ⟨h1, h2, h3, h4⟩ := (goodP_iff C).1 h
  have hA : AscE (outT C) := h2.sublist List.filter_sublist
  refine (goodP_iff _).2 ⟨fitsT_filter _ h1, hA, fun e he => h3 e ((List.mem_filter.1 he).1), fun e he => ?_⟩
  have hm := (List.mem_filter.1 he).1
  have hk := okEnt_path (h3 e hm)
  by_cases h0 : upV e.pa = []
  · unfold roomT; rw [if_pos h0]
  · rw [room_iff hA h0]
    obtain ⟨y, hy, k, hd⟩ := (room_iff h2 h0).1 (h4 e hm)
    refine ⟨y, List.mem_filter.2 ⟨hy, ?_⟩, k, hd⟩
    cases hi : insideL y.pa with
    | false => rfl
    | true =>
      rw [k] at hi
      have := inside_up hk h0 hi
      have h5 := (List.mem_filter.1 he).2
      rw [this] at h5
      cases h5
theorem out_out (C : List Ent) : outT (outT C) = outT C := by unfold outT; rw [List.filter_filter]; congr 1; funext e; simp
theorem likeT_self : ∀ C : List Ent, likeT C C = true
  | [] => rfl
  | e :: C => by rw [likeT, likeT_self C, Bool.and_true]; unfold eqE; simp
theorem same_clean {C : List Ent} (h : goodP C = true) : sameT (cleanP (cleanP C)) (cleanP C) = true := by
  have h1 : cleanP C = outT C := by unfold cleanP; rw [if_pos h]
  have h2 := good_out h
  have h3 : cleanP (outT C) = outT C := by unfold cleanP; rw [if_pos h2, out_out]
  rw [h1, h3]
  unfold sameT
  rw [h2, likeT_self]
  rfl
/-- Kids, counted up to a place. -/
def cntK (C : List Ent) (i : Nat) : Nat := (C.filter fun e => upV e.pa == [] || (C.take i).any fun y => y.pa == upV e.pa).length
theorem filter_two {α : Type} (f g : α → Bool) : ∀ (C : List α), (∀ e ∈ C, ¬ (f e = true ∧ g e = true)) → (C.filter fun e => f e || g e).length = (C.filter f).length + (C.filter g).length
  | [], _ => rfl
  | x :: C, h => by
    have ih := filter_two f g C fun e he => h e (List.mem_cons_of_mem _ he)
    have hx := h x (List.mem_cons_self ..)
    rw [List.filter_cons, List.filter_cons, List.filter_cons]
    cases hf : f x <;> cases hg : g x
    · simpa [hf, hg] using ih
    · simp [hf, hg] at hx ⊢; omega
    · simp [hf, hg] at hx ⊢; omega
    · exact absurd ⟨hf, hg⟩ hx
theorem cntK_zero (C : List Ent) : cntK C 0 = (inT C []).length := by
  unfold cntK inT
  rw [List.length_map]
  congr 1
  refine List.filter_congr fun e _ => ?_
  simp
theorem ne_nil_of_ok {p : Tx} (h : okPath p = true) : p ≠ [] := by rintro rfl; cases h
theorem cntK_add {C : List Ent} (h : goodP C = true) {i : Nat} (hi : i < C.length) : cntK C (i + 1) = cntK C i + (inT C C[i].pa).length := by
  obtain ⟨_, h2, h3, _⟩ := (goodP_iff C).1 h
  have hne := ne_nil_of_ok (okEnt_path (h3 C[i] (List.getElem_mem hi)))
  unfold cntK inT
  rw [List.length_map, ← filter_two]
  · congr 1
    refine List.filter_congr fun e _ => ?_
    rw [List.take_add_one, List.getElem?_eq_getElem hi, List.any_append]
    simp only [Option.toList_some, List.any_cons, List.any_nil, Bool.or_false, Bool.or_assoc]
    congr 2
    exact Bool.eq_iff_iff.2 ⟨fun k => by rw [eq_of_beq k]; simp, fun k => by rw [eq_of_beq k]; simp⟩
  · rintro e _ ⟨ha, hb⟩
    have hb' := eq_of_beq hb
    rw [Bool.or_eq_true] at ha
    rcases ha with ha | ha
    · exact hne (hb' ▸ eq_of_beq ha)
    · obtain ⟨y, hy, k⟩ := List.any_eq_true.1 ha
      have k' := eq_of_beq k
      rw [hb'] at k'
      obtain ⟨j, hj, rfl⟩ := List.getElem_of_mem hy
      have hj' : j < i := by rw [List.length_take] at hj; omega
      rw [List.getElem_take] at k'
      have := h2.lt (show j < C.length by omega) hi hj'
      rw [k', cmpT_self] at this
      omega
theorem cntK_all {C : List Ent} (h : goodP C = true) : cntK C C.length = C.length := by
  obtain ⟨_, h2, h3, h4⟩ := (goodP_iff C).1 h
  unfold cntK
  rw [List.take_length, List.filter_eq_self.2]
  intro e he
  by_cases h0 : upV e.pa = []
  · rw [h0]; rfl
  · obtain ⟨y, hy, k, _⟩ := (room_iff h2 h0).1 (h4 e he)
    rw [Bool.or_eq_true]
    exact .inr (List.any_eq_true.2 ⟨y, hy, by rw [k]; simp⟩)
theorem kid_dir {C : List Ent} (h : goodP C = true) {y : Ent} (hy : y ∈ C) (hd : y.dir = false) : inT C y.pa = [] := by
  obtain ⟨_, h2, h3, h4⟩ := (goodP_iff C).1 h
  unfold inT
  rw [List.map_eq_nil_iff, List.filter_eq_nil_iff]
  intro e he k
  have k' := eq_of_beq k
  have h0 : upV e.pa ≠ [] := by rw [k']; exact ne_nil_of_ok (okEnt_path (h3 y hy))
  obtain ⟨z, hz, k2, hd2⟩ := (room_iff h2 h0).1 (h4 e he)
  have := asc_one h2 hz hy (k2.trans k')
  rw [this, hd] at hd2
  cases hd2
end Go.Proofs.YtmjonlffhhehjaaGreatDoor
