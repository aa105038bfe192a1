/- Contract: package path's Good: whether a text may be a path. Condition: the text is shorter than 2^62 bytes. -/
import Derived.Test.YtflgncagoiigfaaDoorSplit
import Derived.Test.YtflgncagoiigfaaDoorByte7
namespace Go.Proofs.YtflgncagoiigfaaDoor
open Go.RowKit Go.Shelf
set_option maxHeartbeats 400000 in
theorem splitSeq_any (s : ByteArray) (w : World) :
    Calls Tryd.prog 41 #[.string s, .string ⟨#[47]⟩, .int .i64 0] w fun e w' => e = .returned (.func (.func 51) #[] #[.pointer (some ⟨w.heap.size + 1, 0, none⟩), .pointer (some ⟨w.heap.size, 0, none⟩), .pointer (some ⟨w.heap.size + 2, 0, none⟩)]) ∧
      w' = ((w.alloc (.cells #[.string s] 9)).alloc (.cells #[.string ⟨#[47]⟩] 9)).alloc (.cells #[.int .i64 0] 3) := by
  go_enter Tryd.func41, Tryd.ntmps41
  go_wp2_with fail
  go_ret
  exact ⟨by simp, rfl⟩
set_option maxHeartbeats 400000 in
theorem SplitSeq_any (s : ByteArray) (w : World) :
    Calls Tryd.prog 29 #[.string s, .string ⟨#[47]⟩] w fun e w' => e = .returned (.func (.func 51) #[] #[.pointer (some ⟨w.heap.size + 1, 0, none⟩), .pointer (some ⟨w.heap.size, 0, none⟩), .pointer (some ⟨w.heap.size + 2, 0, none⟩)]) ∧
      w' = ((w.alloc (.cells #[.string s] 9)).alloc (.cells #[.string ⟨#[47]⟩] 9)).alloc (.cells #[.int .i64 0] 3) := by
  have H1 := Lib.hid (fun w1 => splitSeq_any s w1)
  go_enter Tryd.func29, Tryd.ntmps29
  go_wp2_with (first | ((with_reducible refine (H1.out _).mono ?_); rintro e w1 ⟨rfl, rfl⟩))
  go_ret
  exact ⟨rfl, rfl⟩
attribute [local go_sem] Oper.semAt_some
theorem box_cell {W : World} {k : Nat} {v : Value} {t : TypeId} (h : W.heap[k]? = some (.cells #[v] t)) : W.cell? ⟨k, 0, none⟩ = some v ∧ W.frozen? ⟨k, 0, none⟩ = false := by
  unfold World.cell? World.frozen?; simp [h]
/-- What Good's own two boxes hold between two rounds. -/
def GI (B : Nat) (w : World) (pre : List Tx) (W : World) : Prop :=
  Below B w W ∧ B + 5 ≤ W.heap.size ∧ W.cell? ⟨B, 0, none⟩ = some (.bool false) ∧ W.frozen? ⟨B, 0, none⟩ = false ∧ W.cell? ⟨B + 1, 0, none⟩ = some (.int .i64 (pre.length : Int)) ∧ W.frozen? ⟨B + 1, 0, none⟩ = false ∧ pre.all okName = true ∧ pre.length ≤ 4
def GX (B : Nat) (w : World) (pre : List Tx) (W : World) : Prop :=
  Below B w W ∧ B + 5 ≤ W.heap.size ∧ W.cell? ⟨B, 0, none⟩ = some (.bool false) ∧ (4 < pre.length ∨ pre.all okName = false)
theorem put_cell {W : World} {l k : Nat} {o : Obj} (h : k ≠ l) : (W.putObj l o).cell? ⟨k, 0, none⟩ = W.cell? ⟨k, 0, none⟩ ∧ (W.putObj l o).frozen? ⟨k, 0, none⟩ = W.frozen? ⟨k, 0, none⟩ :=
  ⟨World.cell?_of_block (World.putObj_heap_other h), World.frozen?_of_block (World.putObj_heap_other h)⟩
theorem set_cell {W : World} {l k : Nat} {v : Value} (h : k ≠ l) : (W.setCell ⟨l, 0, none⟩ v).cell? ⟨k, 0, none⟩ = W.cell? ⟨k, 0, none⟩ ∧ (W.setCell ⟨l, 0, none⟩ v).frozen? ⟨k, 0, none⟩ = W.frozen? ⟨k, 0, none⟩ :=
  ⟨World.cell?_of_block (Below.heap_setCell W ⟨l, 0, none⟩ v k h), World.frozen?_of_block (Below.heap_setCell W ⟨l, 0, none⟩ v k h)⟩
theorem new_cell {W : World} {k : Nat} {o : Obj} (h : k < W.heap.size) : (W.alloc o).cell? ⟨k, 0, none⟩ = W.cell? ⟨k, 0, none⟩ ∧ (W.alloc o).frozen? ⟨k, 0, none⟩ = W.frozen? ⟨k, 0, none⟩ :=
  ⟨World.cell?_of_block (Below.heap_alloc W o k h), World.frozen?_of_block (Below.heap_alloc W o k h)⟩
theorem size_set (W : World) (a : Addr) (v : Value) : (W.setCell a v).heap.size = W.heap.size := by
  show (W.heap.modify _ _).size = _; rw [Array.size_modify]
theorem below_put {B : Nat} {w W : World} (h : Below B w W) (hw : B ≤ W.heap.size) {l : Nat} (hl : B ≤ l) (o : Obj) : Below B w (W.putObj l o) :=
  h.grown (grownBy_putObj' W l o) hw (fun k e => by cases e; exact hl)
theorem GI.put {B : Nat} {w : World} {pre : List Tx} {W : World} (h : GI B w pre W) {l : Nat} (hl : B + 5 ≤ l) (o : Obj) : GI B w pre (W.putObj l o) := by
  obtain ⟨h1, h2, h3, h4, h5, h6, h7⟩ := h
  have p0 := put_cell (W := W) (o := o) (show B ≠ l by omega)
  have p1 := put_cell (W := W) (o := o) (show B + 1 ≠ l by omega)
  exact ⟨below_put h1 (by omega) (by omega) o, by rw [World.putObj_size]; exact h2, p0.1.trans h3, p0.2.trans h4, p1.1.trans h5, p1.2.trans h6, h7⟩
theorem GX.put {B : Nat} {w : World} {pre : List Tx} {W : World} (h : GX B w pre W) {l : Nat} (hl : B + 5 ≤ l) (o : Obj) : GX B w pre (W.putObj l o) := by
  obtain ⟨h1, h2, h3, h7⟩ := h
  have p0 := put_cell (W := W) (o := o) (show B ≠ l by omega)
  exact ⟨below_put h1 (by omega) (by omega) o, by rw [World.putObj_size]; exact h2, p0.1.trans h3, h7⟩
theorem GI.new {B : Nat} {w : World} {pre : List Tx} {W : World} (h : GI B w pre W) (o : Obj) : GI B w pre (W.alloc o) := by
  obtain ⟨h1, h2, h3, h4, h5, h6, h7⟩ := h
  have p0 := new_cell (W := W) (o := o) (show B < W.heap.size by omega)
  have p1 := new_cell (W := W) (o := o) (show B + 1 < W.heap.size by omega)
  exact ⟨h1.alloc (by omega) o, by rw [World.size_alloc]; omega, p0.1.trans h3, p0.2.trans h4, p1.1.trans h5, p1.2.trans h6, h7⟩
theorem GI.set {B : Nat} {w : World} {pre : List Tx} {W : World} (h : GI B w pre W) (t : ByteArray) : GI B w pre (W.setCell ⟨B + 2, 0, none⟩ (.string t)) := by
  obtain ⟨h1, h2, h3, h4, h5, h6, h7⟩ := h
  have p0 := set_cell (W := W) (v := .string t) (show B ≠ B + 2 by omega)
  have p1 := set_cell (W := W) (v := .string t) (show B + 1 ≠ B + 2 by omega)
  exact ⟨h1.setCell (p := ⟨B + 2, 0, none⟩) (by show B ≤ B + 2; omega) _, by rw [size_set]; exact h2, p0.1.trans h3, p0.2.trans h4, p1.1.trans h5, p1.2.trans h6, h7⟩
theorem KpB.put {B l : Nat} (W : World) (hl : B + 5 ≤ l) (o : Obj) : KpB (B + 2) W (W.putObj l o) := fun s h => by
  obtain ⟨h1, h2, h3, h4⟩ := h
  exact ⟨(put_cell (show B + 2 ≠ l by omega)).1.trans h1, (put_cell (show B + 2 ≠ l by omega)).2.trans h2, (put_cell (show B + 2 + 1 ≠ l by omega)).1.trans h3, (put_cell (show B + 2 + 2 ≠ l by omega)).1.trans h4⟩
theorem Boxes.below {b : Nat} {w W : World} {s : ByteArray} (h : Boxes b w s) (hB : Below w.heap.size w W) (hb : b + 2 < w.heap.size) : Boxes b W s := by
  obtain ⟨h1, h2, h3, h4⟩ := h
  exact ⟨(hB.cell (p := ⟨b, 0, none⟩) (by show b < _; omega)).trans h1, (hB.frozen (p := ⟨b, 0, none⟩) (by show b < _; omega)).trans h2, (hB.cell (p := ⟨b + 1, 0, none⟩) (by show b + 1 < _; omega)).trans h3, (hB.cell (p := ⟨b + 2, 0, none⟩) (by show b + 2 < _; omega)).trans h4⟩
theorem ok_of_all {s : ByteArray} (h1 : (nms s.data.toList).all okName = true) (h2 : (nms s.data.toList).length ≤ 4) : okPath s.data.toList = true := by
  unfold okPath; rw [h1, decide_eq_true h2]; rfl
theorem not_ok_of {s : ByteArray} {pre : List Tx} (hp : pre <+: nms s.data.toList) (h : 4 < pre.length ∨ pre.all okName = false) : okPath s.data.toList = false := by
  obtain ⟨t, ht⟩ := hp
  unfold okPath
  rw [← ht]
  rcases h with h | h
  · rw [decide_eq_false (by rw [List.length_append]; omega)]; rfl
  · rw [List.all_append, h]; simp
set_option maxRecDepth 100000 in
set_option maxHeartbeats 2000000 in
theorem good_any (s : ByteArray) (hs : s.size < 9223372036854775808) (w : World) :
    Calls Tryd.prog 10 #[.string s] w fun e w' => e = .returned (.bool (okPath s.data.toList)) ∧ Below w.heap.size w w' := by
  obtain ⟨r, hr⟩ : ∃ r, okPath s.data.toList = r := ⟨_, rfl⟩
  have HR := Lib.hid hr
  rw [hr]
  clear hr
  refine (callsIn_wide (n := 3)).1 ?_
  refine callsIn_of_wp_marks Tryd.func10 rfl trivial ?_ rfl
  simp only [Tryd.ntmps10, List.size_toArray, List.length_cons, List.length_nil, Nat.reduceAdd, Nat.reduceSub, Array.replicate_succ, Array.replicate_zero, List.push_toArray, List.append_toArray, List.nil_append, List.cons_append]
  gi_wp2_with (first | (refine ⟨trivial, ?_⟩; gi_at_call 29; refine (callsIn_wide.2 (SplitSeq_any _ _)).mono ?_; rintro e w' ⟨rfl, rfl⟩))
  obtain ⟨B, hB⟩ : ∃ B, w.heap.size = B := ⟨_, rfl⟩
  obtain ⟨W0, hW0⟩ : ∃ W0, ((((w.alloc (.cells #[.bool false] 4)).alloc (.cells #[.int .i64 0] 3)).alloc (.cells #[.string s] 9)).alloc (.cells #[.string ⟨#[47]⟩] 9)).alloc (.cells #[.int .i64 0] 3) = W0 := ⟨_, rfl⟩
  have z0 : W0.heap.size = B + 5 := by rw [← hW0, ← hB]; simp
  have hblk : ∀ k : Nat, W0.heap[k]? = ((((((w.heap.push (.cells #[.bool false] 4)).push (.cells #[.int .i64 0] 3)).push (.cells #[.string s] 9)).push (.cells #[.string ⟨#[47]⟩] 9)).push (.cells #[.int .i64 0] 3)))[k]? := fun k => by rw [← hW0]; rfl
  have b0 : W0.heap[B]? = some (.cells #[.bool false] 4) := by rw [hblk, ← hB]; simp only [Array.getElem?_push, Array.size_push]; (repeat' split) <;> first | rfl | omega | exact absurd trivial ‹¬ True›
  have b1 : W0.heap[B + 1]? = some (.cells #[.int .i64 0] 3) := by rw [hblk, ← hB]; simp only [Array.getElem?_push, Array.size_push]; (repeat' split) <;> first | rfl | omega | exact absurd trivial ‹¬ True›
  have b2 : W0.heap[B + 2]? = some (.cells #[.string s] 9) := by rw [hblk, ← hB]; simp only [Array.getElem?_push, Array.size_push]; (repeat' split) <;> first | rfl | omega | exact absurd trivial ‹¬ True›
  have b3 : W0.heap[B + 2 + 1]? = some (.cells #[.string ⟨#[47]⟩] 9) := by rw [hblk, ← hB]; simp only [Array.getElem?_push, Array.size_push]; (repeat' split) <;> first | rfl | omega | exact absurd trivial ‹¬ True›
  have b4 : W0.heap[B + 2 + 2]? = some (.cells #[.int .i64 0] 3) := by rw [hblk, ← hB]; simp only [Array.getElem?_push, Array.size_push]; (repeat' split) <;> first | rfl | omega | exact absurd trivial ‹¬ True›
  have hX : Boxes (B + 2) W0 s := ⟨(box_cell b2).1, (box_cell b2).2, (box_cell b3).1, (box_cell b4).1⟩
  have hbl : Below B w W0 := by
    rw [← hW0, ← hB]
    exact ((((((Below.refl _ w).alloc (Nat.le_refl _) _).alloc (by simp) _).alloc (by simp; omega) _).alloc (by simp; omega) _).alloc (by simp; omega) _)
  rw [hW0, hB]
  have HW := Lib.hid hW0
  have HB := Lib.hid hB
  clear hblk hW0 hB
  have e3 : B + 1 + 1 = B + 2 := rfl
  have e4 : B + 2 + 1 = B + 2 + 1 := rfl
  refine range_law (gf := 51) (lb := #[.pointer (some ⟨B + 2 + 1, 0, none⟩), .pointer (some ⟨B + 2, 0, none⟩), .pointer (some ⟨B + 2 + 2, 0, none⟩)]) rfl (enters_of Tryd.func51 (by kernel_rfl) rfl)
    (B + 2) (by omega) rfl (nms s.data.toList) (Kp := KpB (B + 2)) (fun h k t ht => k t (h t ht)) (fun W l o hl => KpB.put W (by omega) o)
    (fun l J Jx W hW hJ hY h0 => split_in l (B + 2) J Jx _ hJ hY s hs rfl W (hX.below hW (by omega)) h0)
    (GI B w) (GX B w) (fun _ _ _ o hl h => h.put (by omega) o) (fun _ _ _ o hl h => h.put (by omega) o) (fun _ _ o h => h.new o) (fun _ _ t h => h.set t)
    ⟨hbl, by omega, (box_cell b0).1, (box_cell b0).2, (box_cell b1).1, (box_cell b1).2, rfl, by decide⟩
    (fun x => { tmps := #[.string s, undef, .pointer (some ⟨B, 0, none⟩), .pointer (some ⟨B + 1, 0, none⟩), .string x, .string s, .func (.func 51) #[] #[.pointer (some ⟨B + 2 + 1, 0, none⟩), .pointer (some ⟨B + 2, 0, none⟩), .pointer (some ⟨B + 2 + 2, 0, none⟩)], .string x, undef, undef, undef, undef, undef, undef, undef, undef, undef], defers := [] }) ?assign ?body ?done ?stop
  case assign =>
    intro l x W K hK
    gi_wp2
    exact hK
  case body =>
    rintro l pre x W hGI
    have HGI := Lib.hid hGI
    obtain ⟨q1, q2, q3, q4, q5, q6, q7, q8⟩ := hGI
    have p0 : ∀ v : Value, ((W.setCell ⟨B + 1, 0, none⟩ v).cell? ⟨B, 0, none⟩ = some (.bool false)) ∧ (W.setCell ⟨B + 1, 0, none⟩ v).frozen? ⟨B, 0, none⟩ = false := fun v => by
      obtain ⟨a, b⟩ := set_cell (W := W) (v := v) (show B ≠ B + 1 by omega)
      exact ⟨a.trans q3, b.trans q4⟩
    have p1 : ∀ v : Value, ((W.setCell ⟨B + 1, 0, none⟩ v).cell? ⟨B + 1, 0, none⟩ = some v) ∧ (W.setCell ⟨B + 1, 0, none⟩ v).frozen? ⟨B + 1, 0, none⟩ = false := fun v =>
      ⟨World.cell?_setCell_same' _ _ _ (by rw [q5]; rfl), by rw [World.frozen?_setCell]; exact q6⟩
    have pB : ∀ v : Value, Below B w (W.setCell ⟨B + 1, 0, none⟩ v) := fun v => q1.setCell (p := ⟨B + 1, 0, none⟩) (by show B ≤ B + 1; omega) _
    have pS : ∀ v : Value, B + 5 ≤ (W.setCell ⟨B + 1, 0, none⟩ v).heap.size := fun v => by rw [size_set]; exact q2
    have PS := Lib.hid pS
    have PB := Lib.hid pB
    have P0 := Lib.hid p0
    have P1 := Lib.hid p1
    have kw : IntKind.i64.wrap ((pre.length : Int) + 1) = (pre.length : Int) + 1 := by rw [IntWalk.i64_in _ (by omega)]
    obtain ⟨pa, pb⟩ := p0 (.int .i64 ((pre.length : Int) + 1))
    obtain ⟨pc, pd⟩ := p1 (.int .i64 ((pre.length : Int) + 1))
    have hkp : ∀ v : Value, KpB (B + 2) W (W.setCell ⟨B + 1, 0, none⟩ v) := fun v k hk => by
      obtain ⟨h1, h2, h3, h4⟩ := hk
      exact ⟨(set_cell (show B + 2 ≠ B + 1 by omega)).1.trans h1, (set_cell (show B + 2 ≠ B + 1 by omega)).2.trans h2, (set_cell (show B + 2 + 1 ≠ B + 1 by omega)).1.trans h3, (set_cell (show B + 2 + 2 ≠ B + 1 by omega)).1.trans h4⟩
    have HK := Lib.hid hkp
    clear hkp
    have H1 := Lib.hid (fun w1 => goodName_any x w1)
    have HA := Lib.hid q7
    clear p0 p1 pB pS q7
    have hl1 : ∀ y : Tx, (pre ++ [y]).length = pre.length + 1 := fun y => by simp
    have HL := Lib.hid hl1
    clear hl1
    by_cases h4 : 4 < pre.length + 1
    · have k4 : (4 : Int) < (pre.length : Int) + 1 := by omega
      gi_wp2_with (refine ⟨trivial, ?_⟩)
      refine ⟨(KeepsOthers.setCell _ _ _).trans (KeepsOthers.setCell _ _ _), ?_⟩
      exact ⟨(PB.out _).setCell (p := ⟨B, 0, none⟩) (Nat.le_refl _) _, by rw [size_set]; exact PS.out _, World.cell?_setCell_same' _ _ _ (by rw [pa]; rfl), .inl (by rw [HL.out]; exact h4)⟩
    · have k4 : ¬ (4 : Int) < (pre.length : Int) + 1 := by omega
      cases hb : okName x.data.toList with
      | true =>
        rw [hb] at H1
        have HB := Lib.hid hb
        clear hb
        gi_wp2_with (first | (refine ⟨trivial, ?_⟩; gi_at_call 30; refine (CallsIn.inRound l (callsIn_wide.2 (H1.out _))).mono ?_; rintro e w' ⟨rfl, rfl⟩))
        exact ⟨KeepsOthers.setCell _ _ _, HK.out _, PB.out _, PS.out _, pa, pb, by rw [HL.out]; simpa using pc, pd, by rw [List.all_append, HA.out]; simp [HB.out], by rw [HL.out]; omega⟩
      | false =>
        rw [hb] at H1
        have HB := Lib.hid hb
        clear hb
        gi_wp2_with (first | (refine ⟨trivial, ?_⟩; gi_at_call 30; refine (CallsIn.inRound l (callsIn_wide.2 (H1.out _))).mono ?_; rintro e w' ⟨rfl, rfl⟩))
        refine ⟨(KeepsOthers.setCell _ _ _).trans (KeepsOthers.setCell _ _ _), ?_⟩
        exact ⟨(PB.out _).setCell (p := ⟨B, 0, none⟩) (Nat.le_refl _) _, by rw [size_set]; exact PS.out _, World.cell?_setCell_same' _ _ _ (by rw [pa]; rfl), .inr (by rw [List.all_append]; simp [HB.out])⟩
  case done =>
    rintro D W hD ⟨q1, q2, q3, q4, q5, q6, q7, q8⟩ hK
    have hr : r = true := HR.out.symm.trans (ok_of_all q7 q8)
    subst hr
    have HQ := Lib.hid q1
    have HK := Lib.hid hK
    clear q1 q5 q6 q7 q8
    gi_wp2
    have hK' := (KeepsOthers.setCell W ⟨B, 0, none⟩ (.bool true)).same D _ HK.out rfl
    have c5 := (put_cell (W := W.setCell ⟨B, 0, none⟩ (.bool true)) (o := .deferred none) (show B ≠ D by omega)).1.trans (World.cell?_setCell_same' W ⟨B, 0, none⟩ (.bool true) (by rw [q3]; rfl))
    refine ⟨by simp, .inl ⟨_, _, rfl, run_takeDeferred hK', ?_⟩⟩
    refine ⟨.bool true, ?_, rfl, ?_⟩
    · simp [results, Tryd.f10, go_sem, c5]
    · rw [HB.out]
      exact below_put (HQ.out.setCell (p := ⟨B, 0, none⟩) (Nat.le_refl _) _) (by rw [size_set]; omega) (by omega) _
  case stop =>
    rintro D pre W hD hp ⟨q1, q2, q3, q4⟩ hK
    have hr : r = false := HR.out.symm.trans (not_ok_of hp q4)
    subst hr
    have HQ := Lib.hid q1
    clear q1 q4
    gi_wp2
    have c5 := (put_cell (W := W) (o := .deferred none) (show B ≠ D by omega)).1.trans q3
    refine ⟨by simp, .inl ⟨_, _, rfl, run_takeDeferred hK, ?_⟩⟩
    refine ⟨.bool false, ?_, rfl, ?_⟩
    · simp [results, Tryd.f10, go_sem, c5]
    · rw [HB.out]
      exact below_put HQ.out (by omega) (by omega) _
end Go.Proofs.YtflgncagoiigfaaDoor
