/- The law CutKnown returns true: the examples, rules that may not be, masks that always fit, or never. No condition. -/
import Derived.Test.YtkfelfcmpabjoaaAwake
import Derived.Test.YtkfelfcmpabjoaaInts
import Derived.Test.YtkfelfcmpabjoaaCuto
namespace Go.Proofs.Ytkfelfcmpabjoaa
open Go.RowKit
theorem freeze_newk (w : World) (cs : Array Value) (e : TypeId) (n : Nat) : (w.alloc (.cells cs e)).freeze ⟨w.heap.size, n, none⟩ 1 = w.alloc (.cells cs e (n, n + 1)) := by
  have hm : ∀ (a : Array Obj) (x : Obj) (f : Obj → Obj), (a.push x).modify a.size f = a.push (f x) := by
    intro a x f
    apply Array.ext
    · simp
    · intro i h1 h2
      simp only [Array.getElem_modify, Array.getElem_push]
      by_cases h : a.size = i
      · subst h; simp
      · have hi : i < a.size := by simp at h1; omega
        simp [h, hi]
  unfold World.freeze
  rw [if_neg (by decide)]
  show ({ w.alloc (.cells cs e) with heap := (w.heap.push (.cells cs e)).modify w.heap.size _ } : World) = _
  rw [hm]
  rfl
theorem conv_newk (w : World) (cs : Array Value) (n c : Nat) :
    (convert 30 30 (.slice (some ⟨w.heap.size, 0, none⟩) n c)).run Try.prog (w.alloc (.cells cs 5)) =
      .ok (.slice (some ⟨w.heap.size, 0, none⟩) n c) (w.alloc (.cells cs 5 (cs.size, cs.size + 1))) := by
  have hsh : (w.alloc (.cells cs 5)).shape? w.heap.size = some (5, cs.size) := by
    have : (w.alloc (.cells cs 5)).heap[w.heap.size]? = some (.cells cs 5) := heap_alloc_new _ _
    unfold World.shape?
    rw [this]
  have hfr := freeze_newk w cs 5 cs.size
  simp [convert, run_underlying Try.underlying30, run_underlying Try.underlying5, markStringish, hsh, hfr]
theorem made_seesk (w : World) (x : List (BitVec 8)) (cs : Array Value) (f : Nat × Nat) (hx : cs = (x.map u8v).toArray) :
    Sees (w.alloc (.cells cs 5 f)) (w.heap.size + 1) (some ⟨w.heap.size, 0, none⟩) (x.map u8v) := fun _ =>
  ⟨_, rfl, Nat.lt_succ_self _, fun j u hu => by
    rw [Addr.add_mid, Nat.zero_add]
    exact (cell_of_row _ w.heap.size j cs 5 f (heap_alloc_new w _)).trans (by rw [hx]; simpa using hu)⟩
def b8 : List (BitVec 8) := [97#8, 98#8, 99#8, 100#8, 101#8, 102#8, 103#8, 104#8]
def b12 : List (BitVec 8) := [97#8, 98#8, 99#8, 100#8, 101#8, 102#8, 103#8, 104#8, 105#8, 106#8, 107#8, 108#8]
def b8v : Array Value := #[.int .u8 97, .int .u8 98, .int .u8 99, .int .u8 100, .int .u8 101, .int .u8 102, .int .u8 103, .int .u8 104]
def b12v : Array Value := #[.int .u8 97, .int .u8 98, .int .u8 99, .int .u8 100, .int .u8 101, .int .u8 102, .int .u8 103, .int .u8 104, .int .u8 105, .int .u8 106, .int .u8 107, .int .u8 108]
theorem b8_eq : b8v = (b8.map u8v).toArray := by kernel_rfl
theorem b12_eq : b12v = (b12.map u8v).toArray := by kernel_rfl
def rAlways : Rl := ⟨3, 5, 2, 0, 0⟩
def rNever : Rl := ⟨3, 5, 2, 0, 1⟩
theorem rAlways_ok : rAlways.Ok := ⟨by decide, by decide, by decide, by decide, by decide, by decide, by decide⟩
theorem rNever_ok : rNever.Ok := ⟨by decide, by decide, by decide, by decide, by decide, by decide, by decide⟩
theorem always_ends : endsL rAlways 0 b12 = [3, 6, 9, 12] := by decide +kernel
theorem never_ends : endsL rNever 0 b12 = [5, 10, 12] := by decide +kernel
theorem always_two : nx rAlways (b12.take 2) = 2 := by decide +kernel
theorem never_four : nx rNever (b12.take 4) = 4 := by decide +kernel
theorem always_none : nx rAlways [] = 0 := by decide +kernel
theorem always_no : endsL rAlways 0 [] = [] := by decide +kernel
theorem alloc_below (w : World) (o : Obj) : Below w.heap.size w (w.alloc o) := (Below.refl _ _).alloc (Nat.le_refl _) _
def Es (E : List Nat) (w : World) (u : Value) : Prop := ∃ q c, u = .slice q E.length c ∧ Sees w w.heap.size q (E.map i64n)
theorem Es.keep {E : List Nat} {w w' : World} {u : Value} (h : Es E w u) (hb : Below w.heap.size w w') : Es E w' u := by
  obtain ⟨q, c, h1, h2⟩ := h
  exact ⟨q, c, h1, (h2.keep hb).more hb.size⟩
theorem ends_always (q : Option Addr) (v : World) (hs : Sees v v.heap.size q (b12.map u8v)) :
    Calls Try.prog 11 #[.agg #[.int .i64 3, .int .i64 5, .int .i64 2, .int .u64 0, .int .u64 0], .slice q 12 12] v fun e w' => ∃ u, e = .returned u ∧ Es [3, 6, 9, 12] w' u ∧ Below v.heap.size v w' := by
  have := ends_good rAlways rAlways_ok b12 q 12 v (by decide) (by decide) hs
  rw [always_ends] at this
  exact this
theorem ends_never (q : Option Addr) (v : World) (hs : Sees v v.heap.size q (b12.map u8v)) :
    Calls Try.prog 11 #[.agg #[.int .i64 3, .int .i64 5, .int .i64 2, .int .u64 0, .int .u64 1], .slice q 12 12] v fun e w' => ∃ u, e = .returned u ∧ Es [5, 10, 12] w' u ∧ Below v.heap.size v w' := by
  have := ends_good rNever rNever_ok b12 q 12 v (by decide) (by decide) hs
  rw [never_ends] at this
  exact this
theorem next_two (q : Option Addr) (v : World) (hs : Sees v v.heap.size q (b12.map u8v)) :
    Calls Try.prog 13 #[.agg #[.int .i64 3, .int .i64 5, .int .i64 2, .int .u64 0, .int .u64 0], .slice q 2 12] v fun e w' => e = .returned (.int .i64 2) ∧ Below v.heap.size v w' := by
  have := next_good rAlways rAlways_ok (b12.take 2) q 12 v (by decide) (by decide) (by rw [List.map_take]; exact hs.head 2)
  rw [always_two] at this
  exact this
theorem next_four (q : Option Addr) (v : World) (hs : Sees v v.heap.size q (b12.map u8v)) :
    Calls Try.prog 13 #[.agg #[.int .i64 3, .int .i64 5, .int .i64 2, .int .u64 0, .int .u64 1], .slice q 4 12] v fun e w' => e = .returned (.int .i64 4) ∧ Below v.heap.size v w' := by
  have := next_good rNever rNever_ok (b12.take 4) q 12 v (by decide) (by decide) (by rw [List.map_take]; exact hs.head 4)
  rw [never_four] at this
  exact this
theorem next_none (v : World) :
    Calls Try.prog 13 #[.agg #[.int .i64 3, .int .i64 5, .int .i64 2, .int .u64 0, .int .u64 0], .slice none 0 0] v fun e w' => e = .returned (.int .i64 0) ∧ Below v.heap.size v w' := by
  have := next_good rAlways rAlways_ok [] none 0 v (by decide) (by decide) (Sees.nil _ _ _)
  rw [always_none] at this
  exact this
theorem ends_none (v : World) :
    Calls Try.prog 11 #[.agg #[.int .i64 3, .int .i64 5, .int .i64 2, .int .u64 0, .int .u64 0], .slice none 0 0] v fun e w' => ∃ q c, e = .returned (.slice q 0 c) ∧ Below v.heap.size v w' := by
  have := ends_good rAlways rAlways_ok [] none 0 v (by decide) (by decide) (Sees.nil _ _ _)
  rw [always_no] at this
  exact this.mono fun e w' ⟨u, h1, ⟨q, c, h2, _⟩, h3⟩ => ⟨q, c, by rw [h1, h2]; rfl, h3⟩
theorem cut2 (g : Nat) (w : World) : (Instr.slice 30 (.slice (some ⟨g, 0, none⟩) 12 12) none (some (.int .i64 2)) none).run Try.prog w = .ok (.slice (some ⟨g, 0, none⟩) 2 12) w := by
  have := cut_to (some ⟨g, 0, none⟩) 12 12 2 (by decide) w
  rw [cutQ_zero] at this
  exact this
theorem cut4 (g : Nat) (w : World) : (Instr.slice 30 (.slice (some ⟨g, 0, none⟩) 12 12) none (some (.int .i64 4)) none).run Try.prog w = .ok (.slice (some ⟨g, 0, none⟩) 4 12) w := by
  have := cut_to (some ⟨g, 0, none⟩) 12 12 4 (by decide) w
  rw [cutQ_zero] at this
  exact this
theorem ints_four (q p : Option Addr) (c d : Nat) (v : World) (hs : Sees v v.heap.size q (List.map i64n [3, 6, 9, 12])) (ht : Sees v v.heap.size p (List.map i64n [3, 6, 9, 12])) :
    Calls Try.prog 14 #[.slice q 4 c, .slice p 4 d] v fun e w' => e = .returned (.bool true) ∧ Below v.heap.size v w' := ints_same [3, 6, 9, 12] (by decide) q p c d v hs ht
theorem ints_three (q p : Option Addr) (c d : Nat) (v : World) (hs : Sees v v.heap.size q (List.map i64n [5, 10, 12])) (ht : Sees v v.heap.size p (List.map i64n [5, 10, 12])) :
    Calls Try.prog 14 #[.slice q 3 c, .slice p 3 d] v fun e w' => e = .returned (.bool true) ∧ Below v.heap.size v w' := ints_same [5, 10, 12] (by decide) q p c d v hs ht
def knOrder : List Stp := [.inl (0, true), .inl (1, true), .inr (2, 3), .inl (4, false), .inl (5, true), .inl (6, true), .inl (7, true), .inr (8, 9), .inl (10, false), .inl (11, true), .inl (12, true), .inl (13, true), .inl (14, true), .inl (15, true), .inl (16, false), .inl (17, true), .inl (18, true), .inl (19, true), .inl (20, true), .inl (21, true), .inl (22, true), .inl (23, false), .inl (24, true), .inl (25, true), .inl (26, true), .inl (27, true), .inl (28, false), .inl (29, true), .inl (30, true), .inl (31, true), .inl (32, true), .inl (33, false), .inl (34, true), .inl (35, true), .inl (36, true), .inl (37, true)]
def badL : List Value := [.int .i64 0, .int .i64 0, .int .i64 0, .int .u64 0, .int .u64 0, .int .i64 4, .int .i64 8, .int .i64 5, .int .u64 0, .int .u64 0, .int .i64 8, .int .i64 4, .int .i64 4, .int .u64 0, .int .u64 0, .int .i64 70, .int .i64 99, .int .i64 65, .int .u64 0, .int .u64 0, .int .i64 4, .int .i64 65537, .int .i64 4, .int .u64 0, .int .u64 0]
set_option maxHeartbeats 4000000 in
set_option maxRecDepth 100000 in
theorem known_any (w : World) :
    Calls Try.prog 3 #[] w fun e w' => e = .returned (.bool true) ∧ Below w.heap.size w w' := by
  have HA := Lib.hid (awake_any w)
  have HG := Lib.hid (fun m x d v (h : okI m x d = false) => (good_any m x d 0 0 v).mono (fun e w' (hh : e = .returned (.bool (okI m x d)) ∧ Below v.heap.size v w') => (⟨by rw [hh.1, h], hh.2⟩ : e = .returned (.bool false) ∧ Below v.heap.size v w')))
  have HE := Lib.hid (fun m x d q v (h : okI m x d = false) => ends_bad m x d 0 0 h b8 q 8 v)
  have HP := Lib.hid (fun m x d q v (h : okI m x d = false) => parts_bad m x d 0 0 h b8 q 8 v)
  have HN := Lib.hid (fun m x d q v (h : okI m x d = false) => next_bad m x d 0 0 h b8 q 8 v)
  unfold ruleV ruleL at HG HE HP HN
  replace HE : Hid (∀ (m x d : Int) (q : Option Addr) (v : World), okI m x d = false → Calls Try.prog 11 #[.agg #[.int .i64 m, .int .i64 x, .int .i64 d, .int .u64 0, .int .u64 0], .slice q 8 8] v fun e w' => e = .returned (.slice none 0 0) ∧ Below v.heap.size v w') := HE
  replace HP : Hid (∀ (m x d : Int) (q : Option Addr) (v : World), okI m x d = false → Calls Try.prog 12 #[.agg #[.int .i64 m, .int .i64 x, .int .i64 d, .int .u64 0, .int .u64 0], .slice q 8 8] v fun e w' => e = .returned (.slice none 0 0) ∧ Below v.heap.size v w') := HP
  replace HN : Hid (∀ (m x d : Int) (q : Option Addr) (v : World), okI m x d = false → Calls Try.prog 13 #[.agg #[.int .i64 m, .int .i64 x, .int .i64 d, .int .u64 0, .int .u64 0], .slice q 8 8] v fun e w' => e = .returned (.int .i64 0) ∧ Below v.heap.size v w') := HN
  have hcv := fun w1 => conv_newk w1 b8v 8 8
  unfold b8v at hcv
  go_enter Try.func3, Try.ntmps3
  go_wp2_with fail
  refine HA.out.mono ?_
  rintro e w1 ⟨rfl, hb⟩
  have HB := Lib.hid hb
  have HB1 := Lib.hid hb.size
  clear hb HA
  go_wp2_with fail
  have HX := Lib.hid (Has.made' w1 25 _ badL rfl)
  have hx1 := alloc_below w1 (.cells badL.toArray 25)
  replace HB := Lib.hid (HB.out.trans (hx1.mono HB.out.size))
  have HGB : Hid (w.heap.size ≤ w1.heap.size) := Lib.hid (by have := HB1.out; exact this)
  clear hx1
  unfold badL at HX HB
  generalize w1.heap.size = g at *
  generalize hw : w1.alloc _ = v0 at *
  clear hw
  refine wp_loop_rounds 6 ?_
  rw [rounds_succ]
  have c0 := HX.out.cellv (i := 0) rfl
  have c1 := HX.out.cellv (i := 1) rfl
  have c2 := HX.out.cellv (i := 2) rfl
  have c3 := HX.out.cellv (i := 3) rfl
  have c4 := HX.out.cellv (i := 4) rfl
  go_wp2_with fail
  refine (HG.out 0 0 0 v0 (by decide)).mono ?_
  rintro e v1 ⟨rfl, hb⟩
  replace HX := Lib.hid (HX.out.keep hb HX.out.lt)
  replace HB := Lib.hid (HB.out.trans (hb.mono HB.out.size))
  clear hb c0 c1 c2 c3 c4
  have c0 := HX.out.cellv (i := 0) rfl
  have c1 := HX.out.cellv (i := 1) rfl
  have c2 := HX.out.cellv (i := 2) rfl
  have c3 := HX.out.cellv (i := 3) rfl
  have c4 := HX.out.cellv (i := 4) rfl
  go_wp2_with fail
  refine (HE.out 0 0 0 _ _ (by decide)).mono ?_
  rintro e v2 ⟨rfl, hb0⟩
  have hb : Below v1.heap.size v1 v2 := (alloc_below v1 _).trans (hb0.mono (by simp))
  clear hb0
  replace HX := Lib.hid (HX.out.keep hb HX.out.lt)
  replace HB := Lib.hid (HB.out.trans (hb.mono HB.out.size))
  clear hb c0 c1 c2 c3 c4
  have c0 := HX.out.cellv (i := 0) rfl
  have c1 := HX.out.cellv (i := 1) rfl
  have c2 := HX.out.cellv (i := 2) rfl
  have c3 := HX.out.cellv (i := 3) rfl
  have c4 := HX.out.cellv (i := 4) rfl
  go_wp2_with fail
  refine (HP.out 0 0 0 _ _ (by decide)).mono ?_
  rintro e v3 ⟨rfl, hb0⟩
  have hb : Below v2.heap.size v2 v3 := (alloc_below v2 _).trans (hb0.mono (by simp))
  clear hb0
  replace HX := Lib.hid (HX.out.keep hb HX.out.lt)
  replace HB := Lib.hid (HB.out.trans (hb.mono HB.out.size))
  clear hb c0 c1 c2 c3 c4
  have c0 := HX.out.cellv (i := 0) rfl
  have c1 := HX.out.cellv (i := 1) rfl
  have c2 := HX.out.cellv (i := 2) rfl
  have c3 := HX.out.cellv (i := 3) rfl
  have c4 := HX.out.cellv (i := 4) rfl
  go_wp2_with fail
  refine (HN.out 0 0 0 _ _ (by decide)).mono ?_
  rintro e v4 ⟨rfl, hb0⟩
  have hb : Below v3.heap.size v3 v4 := (alloc_below v3 _).trans (hb0.mono (by simp))
  clear hb0
  replace HX := Lib.hid (HX.out.keep hb HX.out.lt)
  replace HB := Lib.hid (HB.out.trans (hb.mono HB.out.size))
  clear hb c0 c1 c2 c3 c4
  go_wp2_with fail
  rw [rounds_succ]
  have c0 := HX.out.cellv (i := 5) rfl
  have c1 := HX.out.cellv (i := 6) rfl
  have c2 := HX.out.cellv (i := 7) rfl
  have c3 := HX.out.cellv (i := 8) rfl
  have c4 := HX.out.cellv (i := 9) rfl
  go_wp2_with fail
  refine (HG.out 4 8 5 v4 (by decide)).mono ?_
  rintro e v5 ⟨rfl, hb⟩
  replace HX := Lib.hid (HX.out.keep hb HX.out.lt)
  replace HB := Lib.hid (HB.out.trans (hb.mono HB.out.size))
  clear hb c0 c1 c2 c3 c4
  have c0 := HX.out.cellv (i := 5) rfl
  have c1 := HX.out.cellv (i := 6) rfl
  have c2 := HX.out.cellv (i := 7) rfl
  have c3 := HX.out.cellv (i := 8) rfl
  have c4 := HX.out.cellv (i := 9) rfl
  go_wp2_with fail
  refine (HE.out 4 8 5 _ _ (by decide)).mono ?_
  rintro e v6 ⟨rfl, hb0⟩
  have hb : Below v5.heap.size v5 v6 := (alloc_below v5 _).trans (hb0.mono (by simp))
  clear hb0
  replace HX := Lib.hid (HX.out.keep hb HX.out.lt)
  replace HB := Lib.hid (HB.out.trans (hb.mono HB.out.size))
  clear hb c0 c1 c2 c3 c4
  have c0 := HX.out.cellv (i := 5) rfl
  have c1 := HX.out.cellv (i := 6) rfl
  have c2 := HX.out.cellv (i := 7) rfl
  have c3 := HX.out.cellv (i := 8) rfl
  have c4 := HX.out.cellv (i := 9) rfl
  go_wp2_with fail
  refine (HP.out 4 8 5 _ _ (by decide)).mono ?_
  rintro e v7 ⟨rfl, hb0⟩
  have hb : Below v6.heap.size v6 v7 := (alloc_below v6 _).trans (hb0.mono (by simp))
  clear hb0
  replace HX := Lib.hid (HX.out.keep hb HX.out.lt)
  replace HB := Lib.hid (HB.out.trans (hb.mono HB.out.size))
  clear hb c0 c1 c2 c3 c4
  have c0 := HX.out.cellv (i := 5) rfl
  have c1 := HX.out.cellv (i := 6) rfl
  have c2 := HX.out.cellv (i := 7) rfl
  have c3 := HX.out.cellv (i := 8) rfl
  have c4 := HX.out.cellv (i := 9) rfl
  go_wp2_with fail
  refine (HN.out 4 8 5 _ _ (by decide)).mono ?_
  rintro e v8 ⟨rfl, hb0⟩
  have hb : Below v7.heap.size v7 v8 := (alloc_below v7 _).trans (hb0.mono (by simp))
  clear hb0
  replace HX := Lib.hid (HX.out.keep hb HX.out.lt)
  replace HB := Lib.hid (HB.out.trans (hb.mono HB.out.size))
  clear hb c0 c1 c2 c3 c4
  go_wp2_with fail
  rw [rounds_succ]
  have c0 := HX.out.cellv (i := 10) rfl
  have c1 := HX.out.cellv (i := 11) rfl
  have c2 := HX.out.cellv (i := 12) rfl
  have c3 := HX.out.cellv (i := 13) rfl
  have c4 := HX.out.cellv (i := 14) rfl
  go_wp2_with fail
  refine (HG.out 8 4 4 v8 (by decide)).mono ?_
  rintro e v9 ⟨rfl, hb⟩
  replace HX := Lib.hid (HX.out.keep hb HX.out.lt)
  replace HB := Lib.hid (HB.out.trans (hb.mono HB.out.size))
  clear hb c0 c1 c2 c3 c4
  have c0 := HX.out.cellv (i := 10) rfl
  have c1 := HX.out.cellv (i := 11) rfl
  have c2 := HX.out.cellv (i := 12) rfl
  have c3 := HX.out.cellv (i := 13) rfl
  have c4 := HX.out.cellv (i := 14) rfl
  go_wp2_with fail
  refine (HE.out 8 4 4 _ _ (by decide)).mono ?_
  rintro e v10 ⟨rfl, hb0⟩
  have hb : Below v9.heap.size v9 v10 := (alloc_below v9 _).trans (hb0.mono (by simp))
  clear hb0
  replace HX := Lib.hid (HX.out.keep hb HX.out.lt)
  replace HB := Lib.hid (HB.out.trans (hb.mono HB.out.size))
  clear hb c0 c1 c2 c3 c4
  have c0 := HX.out.cellv (i := 10) rfl
  have c1 := HX.out.cellv (i := 11) rfl
  have c2 := HX.out.cellv (i := 12) rfl
  have c3 := HX.out.cellv (i := 13) rfl
  have c4 := HX.out.cellv (i := 14) rfl
  go_wp2_with fail
  refine (HP.out 8 4 4 _ _ (by decide)).mono ?_
  rintro e v11 ⟨rfl, hb0⟩
  have hb : Below v10.heap.size v10 v11 := (alloc_below v10 _).trans (hb0.mono (by simp))
  clear hb0
  replace HX := Lib.hid (HX.out.keep hb HX.out.lt)
  replace HB := Lib.hid (HB.out.trans (hb.mono HB.out.size))
  clear hb c0 c1 c2 c3 c4
  have c0 := HX.out.cellv (i := 10) rfl
  have c1 := HX.out.cellv (i := 11) rfl
  have c2 := HX.out.cellv (i := 12) rfl
  have c3 := HX.out.cellv (i := 13) rfl
  have c4 := HX.out.cellv (i := 14) rfl
  go_wp2_with fail
  refine (HN.out 8 4 4 _ _ (by decide)).mono ?_
  rintro e v12 ⟨rfl, hb0⟩
  have hb : Below v11.heap.size v11 v12 := (alloc_below v11 _).trans (hb0.mono (by simp))
  clear hb0
  replace HX := Lib.hid (HX.out.keep hb HX.out.lt)
  replace HB := Lib.hid (HB.out.trans (hb.mono HB.out.size))
  clear hb c0 c1 c2 c3 c4
  go_wp2_with fail
  rw [rounds_succ]
  have c0 := HX.out.cellv (i := 15) rfl
  have c1 := HX.out.cellv (i := 16) rfl
  have c2 := HX.out.cellv (i := 17) rfl
  have c3 := HX.out.cellv (i := 18) rfl
  have c4 := HX.out.cellv (i := 19) rfl
  go_wp2_with fail
  refine (HG.out 70 99 65 v12 (by decide)).mono ?_
  rintro e v13 ⟨rfl, hb⟩
  replace HX := Lib.hid (HX.out.keep hb HX.out.lt)
  replace HB := Lib.hid (HB.out.trans (hb.mono HB.out.size))
  clear hb c0 c1 c2 c3 c4
  have c0 := HX.out.cellv (i := 15) rfl
  have c1 := HX.out.cellv (i := 16) rfl
  have c2 := HX.out.cellv (i := 17) rfl
  have c3 := HX.out.cellv (i := 18) rfl
  have c4 := HX.out.cellv (i := 19) rfl
  go_wp2_with fail
  refine (HE.out 70 99 65 _ _ (by decide)).mono ?_
  rintro e v14 ⟨rfl, hb0⟩
  have hb : Below v13.heap.size v13 v14 := (alloc_below v13 _).trans (hb0.mono (by simp))
  clear hb0
  replace HX := Lib.hid (HX.out.keep hb HX.out.lt)
  replace HB := Lib.hid (HB.out.trans (hb.mono HB.out.size))
  clear hb c0 c1 c2 c3 c4
  have c0 := HX.out.cellv (i := 15) rfl
  have c1 := HX.out.cellv (i := 16) rfl
  have c2 := HX.out.cellv (i := 17) rfl
  have c3 := HX.out.cellv (i := 18) rfl
  have c4 := HX.out.cellv (i := 19) rfl
  go_wp2_with fail
  refine (HP.out 70 99 65 _ _ (by decide)).mono ?_
  rintro e v15 ⟨rfl, hb0⟩
  have hb : Below v14.heap.size v14 v15 := (alloc_below v14 _).trans (hb0.mono (by simp))
  clear hb0
  replace HX := Lib.hid (HX.out.keep hb HX.out.lt)
  replace HB := Lib.hid (HB.out.trans (hb.mono HB.out.size))
  clear hb c0 c1 c2 c3 c4
  have c0 := HX.out.cellv (i := 15) rfl
  have c1 := HX.out.cellv (i := 16) rfl
  have c2 := HX.out.cellv (i := 17) rfl
  have c3 := HX.out.cellv (i := 18) rfl
  have c4 := HX.out.cellv (i := 19) rfl
  go_wp2_with fail
  refine (HN.out 70 99 65 _ _ (by decide)).mono ?_
  rintro e v16 ⟨rfl, hb0⟩
  have hb : Below v15.heap.size v15 v16 := (alloc_below v15 _).trans (hb0.mono (by simp))
  clear hb0
  replace HX := Lib.hid (HX.out.keep hb HX.out.lt)
  replace HB := Lib.hid (HB.out.trans (hb.mono HB.out.size))
  clear hb c0 c1 c2 c3 c4
  go_wp2_with fail
  rw [rounds_succ]
  have c0 := HX.out.cellv (i := 20) rfl
  have c1 := HX.out.cellv (i := 21) rfl
  have c2 := HX.out.cellv (i := 22) rfl
  have c3 := HX.out.cellv (i := 23) rfl
  have c4 := HX.out.cellv (i := 24) rfl
  go_wp2_with fail
  refine (HG.out 4 65537 4 v16 (by decide)).mono ?_
  rintro e v17 ⟨rfl, hb⟩
  replace HX := Lib.hid (HX.out.keep hb HX.out.lt)
  replace HB := Lib.hid (HB.out.trans (hb.mono HB.out.size))
  clear hb c0 c1 c2 c3 c4
  have c0 := HX.out.cellv (i := 20) rfl
  have c1 := HX.out.cellv (i := 21) rfl
  have c2 := HX.out.cellv (i := 22) rfl
  have c3 := HX.out.cellv (i := 23) rfl
  have c4 := HX.out.cellv (i := 24) rfl
  go_wp2_with fail
  refine (HE.out 4 65537 4 _ _ (by decide)).mono ?_
  rintro e v18 ⟨rfl, hb0⟩
  have hb : Below v17.heap.size v17 v18 := (alloc_below v17 _).trans (hb0.mono (by simp))
  clear hb0
  replace HX := Lib.hid (HX.out.keep hb HX.out.lt)
  replace HB := Lib.hid (HB.out.trans (hb.mono HB.out.size))
  clear hb c0 c1 c2 c3 c4
  have c0 := HX.out.cellv (i := 20) rfl
  have c1 := HX.out.cellv (i := 21) rfl
  have c2 := HX.out.cellv (i := 22) rfl
  have c3 := HX.out.cellv (i := 23) rfl
  have c4 := HX.out.cellv (i := 24) rfl
  go_wp2_with fail
  refine (HP.out 4 65537 4 _ _ (by decide)).mono ?_
  rintro e v19 ⟨rfl, hb0⟩
  have hb : Below v18.heap.size v18 v19 := (alloc_below v18 _).trans (hb0.mono (by simp))
  clear hb0
  replace HX := Lib.hid (HX.out.keep hb HX.out.lt)
  replace HB := Lib.hid (HB.out.trans (hb.mono HB.out.size))
  clear hb c0 c1 c2 c3 c4
  have c0 := HX.out.cellv (i := 20) rfl
  have c1 := HX.out.cellv (i := 21) rfl
  have c2 := HX.out.cellv (i := 22) rfl
  have c3 := HX.out.cellv (i := 23) rfl
  have c4 := HX.out.cellv (i := 24) rfl
  go_wp2_with fail
  refine (HN.out 4 65537 4 _ _ (by decide)).mono ?_
  rintro e v20 ⟨rfl, hb0⟩
  have hb : Below v19.heap.size v19 v20 := (alloc_below v19 _).trans (hb0.mono (by simp))
  clear hb0
  replace HX := Lib.hid (HX.out.keep hb HX.out.lt)
  replace HB := Lib.hid (HB.out.trans (hb.mono HB.out.size))
  clear hb c0 c1 c2 c3 c4
  go_wp2_with fail
  rw [rounds_succ]
  go_upto_region 11 with (fail)
  have hA0 := (Has.made' v20 25 (List.toArray [.int .i64 3, .int .i64 5, .int .i64 2, .int .u64 0, .int .u64 0]) [.int .i64 3, .int .i64 5, .int .i64 2, .int .u64 0, .int .u64 0] rfl).alloc (.cells (List.toArray [.int .i64 3, .int .i64 5, .int .i64 2, .int .u64 0, .int .u64 1]) 25)
  have hN0 := Has.made1 v20 (.cells (List.toArray [.int .i64 3, .int .i64 5, .int .i64 2, .int .u64 0, .int .u64 0]) 25) 25 (List.toArray [.int .i64 3, .int .i64 5, .int .i64 2, .int .u64 0, .int .u64 1]) [.int .i64 3, .int .i64 5, .int .i64 2, .int .u64 0, .int .u64 1] rfl
  have hb0 := (alloc_below v20 (.cells (List.toArray [.int .i64 3, .int .i64 5, .int .i64 2, .int .u64 0, .int .u64 0]) 25)).trans ((alloc_below _ (.cells (List.toArray [.int .i64 3, .int .i64 5, .int .i64 2, .int .u64 0, .int .u64 1]) 25)).mono (by simp))
  replace HB := Lib.hid (HB.out.trans (hb0.mono HB.out.size))
  have HAL := Lib.hid hA0
  have HNE := Lib.hid hN0
  clear hA0 hN0 hb0 HX HG HE HP HN hcv HGB HB1
  generalize v20.heap.size + 1 = gN at *
  generalize v20.heap.size = gA at *
  generalize (v20.alloc (.cells #[.int .i64 3, .int .i64 5, .int .i64 2, .int .u64 0, .int .u64 0] 25)).alloc (.cells #[.int .i64 3, .int .i64 5, .int .i64 2, .int .u64 0, .int .u64 1] 25) = u0 at *
  have hcv12 := conv_newk u0 b12v 12 12
  have hx := alloc_below u0 (.cells b12v 5 (12, 13))
  have hsb := made_seesk u0 b12 b12v (12, 13) b12_eq
  unfold b12v at hcv12 hx hsb
  have HX := Lib.hid hx
  have HSB := Lib.hid hsb
  clear hx hsb
  go_wp2_with fail
  clear hcv12
  have hb := HX.out.drew
  replace HAL := Lib.hid (HAL.out.keep hb HAL.out.lt)
  replace HNE := Lib.hid (HNE.out.keep hb HNE.out.lt)
  replace HB := Lib.hid (HB.out.trans (hb.mono HB.out.size))
  replace HSB := Lib.hid ((HSB.out.keep (Below.refl _ _).drew).more (show u0.heap.size + 1 ≤ (u0.alloc (.cells #[.int .u8 97, .int .u8 98, .int .u8 99, .int .u8 100, .int .u8 101, .int .u8 102, .int .u8 103, .int .u8 104, .int .u8 105, .int .u8 106, .int .u8 107, .int .u8 108] 5 (12, 13))).drew.heap.size by simp))
  clear hb HX
  try simp only [List.append_eq, List.cons_append, List.nil_append]
  refine wp_region_ot knOrder _ (by kernel_rfl) rfl (by kernel_rfl) (by kernel_rfl) ?_
  generalize u0.heap.size = gB at *
  generalize (u0.alloc (.cells #[.int .u8 97, .int .u8 98, .int .u8 99, .int .u8 100, .int .u8 101, .int .u8 102, .int .u8 103, .int .u8 104, .int .u8 105, .int .u8 106, .int .u8 107, .int .u8 108] 5 (12, 13))).drew = x0 at *
  unfold knOrder
  simp only [pickOt, List.getElem?_cons_zero, List.getElem?_cons_succ]
  refine ot_pure (by kernel_rfl) (fun w' hv => load_at 25 (.tmp 3) rfl gA rfl 25 _ w' (HAL.out.keep hv HAL.out.lt) _ Try.underlying25 rfl (by kernel_rfl)) ?_
  try simp only [Act.put, List.setIfInBounds_toArray, List.set_cons_zero, List.set_cons_succ]
  refine ot_pure (v := ?_) (by kernel_rfl) ?_ ?_
  rotate_left
  · intro w' hv; clear hv; go_simp; try with_reducible rfl
  try simp only [Act.put, List.setIfInBounds_toArray, List.set_cons_zero, List.set_cons_succ]
  have HEx1 := Lib.hid (fun v hs => ends_always (some ⟨gB, 0, none⟩) v hs)
  refine ot_two (fun u t w' => Es [3, 6, 9, 12] w' u ∧ (∃ g', t = .slice (some ⟨g', 0, none⟩) 4 4 ∧ Sees w' w'.heap.size (some ⟨g', 0, none⟩) (List.map i64n [3, 6, 9, 12])) ∧ Below x0.heap.size x0 w') (by kernel_rfl) (by kernel_rfl) (fun v => by kernel_rfl) (fun v => by kernel_rfl)
    (fun u w' => Es [3, 6, 9, 12] w' u ∧ Below x0.heap.size x0 w') (fun t w' => t = .slice (some ⟨x0.heap.size, 0, none⟩) 4 4 ∧ w' = x0.alloc (.cells #[.int .i64 3, .int .i64 6, .int .i64 9, .int .i64 12] 3)) ?_ ?_ ?_ ?_ (fun v u => rfl) ?_
  · intro K hK
    go_wp2_with fail
    refine (HEx1.out _ HSB.out).mono ?_
    rintro e w2 ⟨u, rfl, hn, hb⟩
    go_wp2_with fail
    repeat' (first | exact hb | exact hn | apply And.intro)
  · rintro u w2 ⟨hn, hb⟩ K hK
    have hx := alloc_below w2 (.cells #[.int .i64 3, .int .i64 6, .int .i64 9, .int .i64 12] 3)
    have hs : Sees (w2.alloc (.cells #[.int .i64 3, .int .i64 6, .int .i64 9, .int .i64 12] 3)) (w2.heap.size + 1) (some ⟨w2.heap.size, 0, none⟩) (List.map i64n [3, 6, 9, 12]) := Sees.of_has (Has.made' w2 3 _ _ rfl) (by omega)
    have hn2 := hn.keep hx
    have hb2 := hb.trans (hx.mono hb.size)
    go_wp2_with fail
    repeat' (first | exact hx | exact hn2 | exact hs | exact hb2 | exact ⟨_, rfl, hs.more (by simp)⟩ | apply And.intro)
  · intro K hK
    have hx := alloc_below x0 (.cells #[.int .i64 3, .int .i64 6, .int .i64 9, .int .i64 12] 3)
    go_wp2_with fail
    repeat' (first | exact hx | apply And.intro)
  · rintro t w2 ⟨rfl, rfl⟩ K hK
    have hx := alloc_below x0 (.cells #[.int .i64 3, .int .i64 6, .int .i64 9, .int .i64 12] 3)
    have hs : Sees (x0.alloc (.cells #[.int .i64 3, .int .i64 6, .int .i64 9, .int .i64 12] 3)) (x0.heap.size + 1) (some ⟨x0.heap.size, 0, none⟩) (List.map i64n [3, 6, 9, 12]) := Sees.of_has (Has.made' x0 3 _ _ rfl) (by omega)
    have hsb := (HSB.out.keep hx).more hx.size
    go_wp2_with fail
    refine (HEx1.out _ hsb).mono ?_
    rintro e w3 ⟨u, rfl, hn, hb⟩
    have hs3 := (hs.keep (hb.mono (by simp))).more (show x0.heap.size + 1 ≤ w3.heap.size by have := hb.size; simp at this; omega)
    have hb3 := hx.trans (hb.mono hx.size)
    go_wp2_with fail
    repeat' (first | exact hb | exact hn | exact hs3 | exact hb3 | exact ⟨_, rfl, hs3⟩ | apply And.intro)
  rintro u t x1 ⟨⟨qx1, cx1, rfl, hs⟩, ⟨gx1, rfl, ht⟩, hb⟩
  have HNx1 := Lib.hid hs
  have HTx1 := Lib.hid ht
  replace HAL := Lib.hid (HAL.out.keep hb HAL.out.lt)
  replace HNE := Lib.hid (HNE.out.keep hb HNE.out.lt)
  replace HSB := Lib.hid ((HSB.out.keep hb).more hb.size)
  replace HB := Lib.hid (HB.out.trans (hb.mono HB.out.size))
  clear hs ht hb HEx1
  try simp only [Act.put, List.setIfInBounds_toArray, List.set_cons_zero, List.set_cons_succ]
  refine ot_step (by kernel_rfl) (fun K hK => ?_)
  go_wp2_with fail
  refine (ints_four qx1 (some ⟨gx1, 0, none⟩) cx1 4 x1 HNx1.out HTx1.out).mono ?_
  rintro e x2 ⟨rfl, hb⟩
  have HXx2 := Lib.hid hb
  replace HAL := Lib.hid (HAL.out.keep hb HAL.out.lt)
  replace HNE := Lib.hid (HNE.out.keep hb HNE.out.lt)
  replace HSB := Lib.hid ((HSB.out.keep hb).more hb.size)
  replace HB := Lib.hid (HB.out.trans (hb.mono HB.out.size))
  clear hb
  go_wp2_with fail
  refine ⟨HXx2.out, ?_⟩
  try simp only [Act.put, List.setIfInBounds_toArray, List.set_cons_zero, List.set_cons_succ]
  refine ot_pure (v := ?_) (by kernel_rfl) ?_ ?_
  rotate_left
  · intro w' hv; clear hv; go_simp; try with_reducible rfl
  try simp only [Act.put, List.setIfInBounds_toArray, List.set_cons_zero, List.set_cons_succ]
  refine ot_pure (by kernel_rfl) (fun w' hv => load_at 25 (.tmp 4) rfl gN rfl 25 _ w' (HNE.out.keep hv HNE.out.lt) _ Try.underlying25 rfl (by kernel_rfl)) ?_
  try simp only [Act.put, List.setIfInBounds_toArray, List.set_cons_zero, List.set_cons_succ]
  refine ot_pure (v := ?_) (by kernel_rfl) ?_ ?_
  rotate_left
  · intro w' hv; clear hv; go_simp; try with_reducible rfl
  try simp only [Act.put, List.setIfInBounds_toArray, List.set_cons_zero, List.set_cons_succ]
  have HEx3 := Lib.hid (fun v hs => ends_never (some ⟨gB, 0, none⟩) v hs)
  refine ot_two (fun u t w' => Es [5, 10, 12] w' u ∧ (∃ g', t = .slice (some ⟨g', 0, none⟩) 3 3 ∧ Sees w' w'.heap.size (some ⟨g', 0, none⟩) (List.map i64n [5, 10, 12])) ∧ Below x2.heap.size x2 w') (by kernel_rfl) (by kernel_rfl) (fun v => by kernel_rfl) (fun v => by kernel_rfl)
    (fun u w' => Es [5, 10, 12] w' u ∧ Below x2.heap.size x2 w') (fun t w' => t = .slice (some ⟨x2.heap.size, 0, none⟩) 3 3 ∧ w' = x2.alloc (.cells #[.int .i64 5, .int .i64 10, .int .i64 12] 3)) ?_ ?_ ?_ ?_ (fun v u => rfl) ?_
  · intro K hK
    go_wp2_with fail
    refine (HEx3.out _ HSB.out).mono ?_
    rintro e w2 ⟨u, rfl, hn, hb⟩
    go_wp2_with fail
    repeat' (first | exact hb | exact hn | apply And.intro)
  · rintro u w2 ⟨hn, hb⟩ K hK
    have hx := alloc_below w2 (.cells #[.int .i64 5, .int .i64 10, .int .i64 12] 3)
    have hs : Sees (w2.alloc (.cells #[.int .i64 5, .int .i64 10, .int .i64 12] 3)) (w2.heap.size + 1) (some ⟨w2.heap.size, 0, none⟩) (List.map i64n [5, 10, 12]) := Sees.of_has (Has.made' w2 3 _ _ rfl) (by omega)
    have hn2 := hn.keep hx
    have hb2 := hb.trans (hx.mono hb.size)
    go_wp2_with fail
    repeat' (first | exact hx | exact hn2 | exact hs | exact hb2 | exact ⟨_, rfl, hs.more (by simp)⟩ | apply And.intro)
  · intro K hK
    have hx := alloc_below x2 (.cells #[.int .i64 5, .int .i64 10, .int .i64 12] 3)
    go_wp2_with fail
    repeat' (first | exact hx | apply And.intro)
  · rintro t w2 ⟨rfl, rfl⟩ K hK
    have hx := alloc_below x2 (.cells #[.int .i64 5, .int .i64 10, .int .i64 12] 3)
    have hs : Sees (x2.alloc (.cells #[.int .i64 5, .int .i64 10, .int .i64 12] 3)) (x2.heap.size + 1) (some ⟨x2.heap.size, 0, none⟩) (List.map i64n [5, 10, 12]) := Sees.of_has (Has.made' x2 3 _ _ rfl) (by omega)
    have hsb := (HSB.out.keep hx).more hx.size
    go_wp2_with fail
    refine (HEx3.out _ hsb).mono ?_
    rintro e w3 ⟨u, rfl, hn, hb⟩
    have hs3 := (hs.keep (hb.mono (by simp))).more (show x2.heap.size + 1 ≤ w3.heap.size by have := hb.size; simp at this; omega)
    have hb3 := hx.trans (hb.mono hx.size)
    go_wp2_with fail
    repeat' (first | exact hb | exact hn | exact hs3 | exact hb3 | exact ⟨_, rfl, hs3⟩ | apply And.intro)
  rintro u t x3 ⟨⟨qx3, cx3, rfl, hs⟩, ⟨gx3, rfl, ht⟩, hb⟩
  have HNx3 := Lib.hid hs
  have HTx3 := Lib.hid ht
  replace HAL := Lib.hid (HAL.out.keep hb HAL.out.lt)
  replace HNE := Lib.hid (HNE.out.keep hb HNE.out.lt)
  replace HSB := Lib.hid ((HSB.out.keep hb).more hb.size)
  replace HB := Lib.hid (HB.out.trans (hb.mono HB.out.size))
  clear hs ht hb HEx3
  try simp only [Act.put, List.setIfInBounds_toArray, List.set_cons_zero, List.set_cons_succ]
  refine ot_step (by kernel_rfl) (fun K hK => ?_)
  go_wp2_with fail
  refine (ints_three qx3 (some ⟨gx3, 0, none⟩) cx3 3 x3 HNx3.out HTx3.out).mono ?_
  rintro e x4 ⟨rfl, hb⟩
  have HXx4 := Lib.hid hb
  replace HAL := Lib.hid (HAL.out.keep hb HAL.out.lt)
  replace HNE := Lib.hid (HNE.out.keep hb HNE.out.lt)
  replace HSB := Lib.hid ((HSB.out.keep hb).more hb.size)
  replace HB := Lib.hid (HB.out.trans (hb.mono HB.out.size))
  clear hb
  go_wp2_with fail
  refine ⟨HXx4.out, ?_⟩
  try simp only [Act.put, List.setIfInBounds_toArray, List.set_cons_zero, List.set_cons_succ]
  refine ot_pure (v := ?_) (by kernel_rfl) ?_ ?_
  rotate_left
  · intro w' hv; clear hv; go_simp; try with_reducible rfl
  try simp only [Act.put, List.setIfInBounds_toArray, List.set_cons_zero, List.set_cons_succ]
  refine ot_pure (v := ?_) (by kernel_rfl) ?_ ?_
  rotate_left
  · intro w' hv; clear hv; go_simp; try with_reducible rfl
  try simp only [Act.put, List.setIfInBounds_toArray, List.set_cons_zero, List.set_cons_succ]
  refine ot_pure (by kernel_rfl) (fun w' hv => load_at 25 (.tmp 3) rfl gA rfl 25 _ w' (HAL.out.keep hv HAL.out.lt) _ Try.underlying25 rfl (by kernel_rfl)) ?_
  try simp only [Act.put, List.setIfInBounds_toArray, List.set_cons_zero, List.set_cons_succ]
  refine ot_pure (v := ?_) (by kernel_rfl) ?_ ?_
  rotate_left
  · intro w' hv; clear hv; go_simp; try with_reducible rfl
  try simp only [Act.put, List.setIfInBounds_toArray, List.set_cons_zero, List.set_cons_succ]
  refine ot_pure (v := ?_) (by kernel_rfl) ?_ ?_
  rotate_left
  · intro w' hv; have hc := cut2 gB; clear hv; go_simp; try with_reducible rfl
  try simp only [Act.put, List.setIfInBounds_toArray, List.set_cons_zero, List.set_cons_succ]
  refine ot_step (by kernel_rfl) (fun K hK => ?_)
  go_wp2_with fail
  refine (next_two (some ⟨gB, 0, none⟩) x4 HSB.out).mono ?_
  rintro e x5 ⟨rfl, hb⟩
  have HXx5 := Lib.hid hb
  replace HAL := Lib.hid (HAL.out.keep hb HAL.out.lt)
  replace HNE := Lib.hid (HNE.out.keep hb HNE.out.lt)
  replace HSB := Lib.hid ((HSB.out.keep hb).more hb.size)
  replace HB := Lib.hid (HB.out.trans (hb.mono HB.out.size))
  clear hb
  go_wp2_with fail
  refine ⟨HXx5.out, ?_⟩
  try simp only [Act.put, List.setIfInBounds_toArray, List.set_cons_zero, List.set_cons_succ]
  refine ot_pure (v := ?_) (by kernel_rfl) ?_ ?_
  rotate_left
  · intro w' hv; clear hv; go_simp; try with_reducible rfl
  try simp only [Act.put, List.setIfInBounds_toArray, List.set_cons_zero, List.set_cons_succ]
  refine ot_pure (v := ?_) (by kernel_rfl) ?_ ?_
  rotate_left
  · intro w' hv; clear hv; go_simp; try with_reducible rfl
  try simp only [Act.put, List.setIfInBounds_toArray, List.set_cons_zero, List.set_cons_succ]
  refine ot_pure (v := ?_) (by kernel_rfl) ?_ ?_
  rotate_left
  · intro w' hv; clear hv; go_simp; try with_reducible rfl
  try simp only [Act.put, List.setIfInBounds_toArray, List.set_cons_zero, List.set_cons_succ]
  refine ot_pure (by kernel_rfl) (fun w' hv => load_at 25 (.tmp 4) rfl gN rfl 25 _ w' (HNE.out.keep hv HNE.out.lt) _ Try.underlying25 rfl (by kernel_rfl)) ?_
  try simp only [Act.put, List.setIfInBounds_toArray, List.set_cons_zero, List.set_cons_succ]
  refine ot_pure (v := ?_) (by kernel_rfl) ?_ ?_
  rotate_left
  · intro w' hv; clear hv; go_simp; try with_reducible rfl
  try simp only [Act.put, List.setIfInBounds_toArray, List.set_cons_zero, List.set_cons_succ]
  refine ot_pure (v := ?_) (by kernel_rfl) ?_ ?_
  rotate_left
  · intro w' hv; have hc := cut4 gB; clear hv; go_simp; try with_reducible rfl
  try simp only [Act.put, List.setIfInBounds_toArray, List.set_cons_zero, List.set_cons_succ]
  refine ot_step (by kernel_rfl) (fun K hK => ?_)
  go_wp2_with fail
  refine (next_four (some ⟨gB, 0, none⟩) x5 HSB.out).mono ?_
  rintro e x6 ⟨rfl, hb⟩
  have HXx6 := Lib.hid hb
  replace HAL := Lib.hid (HAL.out.keep hb HAL.out.lt)
  replace HNE := Lib.hid (HNE.out.keep hb HNE.out.lt)
  replace HSB := Lib.hid ((HSB.out.keep hb).more hb.size)
  replace HB := Lib.hid (HB.out.trans (hb.mono HB.out.size))
  clear hb
  go_wp2_with fail
  refine ⟨HXx6.out, ?_⟩
  try simp only [Act.put, List.setIfInBounds_toArray, List.set_cons_zero, List.set_cons_succ]
  refine ot_pure (v := ?_) (by kernel_rfl) ?_ ?_
  rotate_left
  · intro w' hv; clear hv; go_simp; try with_reducible rfl
  try simp only [Act.put, List.setIfInBounds_toArray, List.set_cons_zero, List.set_cons_succ]
  refine ot_pure (v := ?_) (by kernel_rfl) ?_ ?_
  rotate_left
  · intro w' hv; clear hv; go_simp; try with_reducible rfl
  try simp only [Act.put, List.setIfInBounds_toArray, List.set_cons_zero, List.set_cons_succ]
  refine ot_pure (v := ?_) (by kernel_rfl) ?_ ?_
  rotate_left
  · intro w' hv; clear hv; go_simp; try with_reducible rfl
  try simp only [Act.put, List.setIfInBounds_toArray, List.set_cons_zero, List.set_cons_succ]
  refine ot_pure (by kernel_rfl) (fun w' hv => load_at 25 (.tmp 3) rfl gA rfl 25 _ w' (HAL.out.keep hv HAL.out.lt) _ Try.underlying25 rfl (by kernel_rfl)) ?_
  try simp only [Act.put, List.setIfInBounds_toArray, List.set_cons_zero, List.set_cons_succ]
  refine ot_step (by kernel_rfl) (fun K hK => ?_)
  go_wp2_with fail
  refine (next_none x6).mono ?_
  rintro e x7 ⟨rfl, hb⟩
  have HXx7 := Lib.hid hb
  replace HAL := Lib.hid (HAL.out.keep hb HAL.out.lt)
  replace HNE := Lib.hid (HNE.out.keep hb HNE.out.lt)
  replace HSB := Lib.hid ((HSB.out.keep hb).more hb.size)
  replace HB := Lib.hid (HB.out.trans (hb.mono HB.out.size))
  clear hb
  go_wp2_with fail
  refine ⟨HXx7.out, ?_⟩
  try simp only [Act.put, List.setIfInBounds_toArray, List.set_cons_zero, List.set_cons_succ]
  refine ot_pure (v := ?_) (by kernel_rfl) ?_ ?_
  rotate_left
  · intro w' hv; clear hv; go_simp; try with_reducible rfl
  try simp only [Act.put, List.setIfInBounds_toArray, List.set_cons_zero, List.set_cons_succ]
  refine ot_pure (v := ?_) (by kernel_rfl) ?_ ?_
  rotate_left
  · intro w' hv; clear hv; go_simp; try with_reducible rfl
  try simp only [Act.put, List.setIfInBounds_toArray, List.set_cons_zero, List.set_cons_succ]
  refine ot_pure (v := ?_) (by kernel_rfl) ?_ ?_
  rotate_left
  · intro w' hv; clear hv; go_simp; try with_reducible rfl
  try simp only [Act.put, List.setIfInBounds_toArray, List.set_cons_zero, List.set_cons_succ]
  refine ot_pure (by kernel_rfl) (fun w' hv => load_at 25 (.tmp 3) rfl gA rfl 25 _ w' (HAL.out.keep hv HAL.out.lt) _ Try.underlying25 rfl (by kernel_rfl)) ?_
  try simp only [Act.put, List.setIfInBounds_toArray, List.set_cons_zero, List.set_cons_succ]
  refine ot_step (by kernel_rfl) (fun K hK => ?_)
  go_wp2_with fail
  refine (ends_none x7).mono ?_
  rintro e x8 ⟨q8, c8, rfl, hb⟩
  have HXx8 := Lib.hid hb
  replace HAL := Lib.hid (HAL.out.keep hb HAL.out.lt)
  replace HNE := Lib.hid (HNE.out.keep hb HNE.out.lt)
  replace HSB := Lib.hid ((HSB.out.keep hb).more hb.size)
  replace HB := Lib.hid (HB.out.trans (hb.mono HB.out.size))
  clear hb
  go_wp2_with fail
  refine ⟨HXx8.out, ?_⟩
  try simp only [Act.put, List.setIfInBounds_toArray, List.set_cons_zero, List.set_cons_succ]
  refine ot_pure (v := ?_) (by kernel_rfl) ?_ ?_
  rotate_left
  · intro w' hv; clear hv; go_simp; try with_reducible rfl
  try simp only [Act.put, List.setIfInBounds_toArray, List.set_cons_zero, List.set_cons_succ]
  refine ot_pure (v := ?_) (by kernel_rfl) ?_ ?_
  rotate_left
  · intro w' hv; clear hv; go_simp; try with_reducible rfl
  try simp only [Act.put, List.setIfInBounds_toArray, List.set_cons_zero, List.set_cons_succ]
  refine ot_pure (v := ?_) (by kernel_rfl) ?_ ?_
  rotate_left
  · intro w' hv; clear hv; go_simp; try with_reducible rfl
  try simp only [Act.put, List.setIfInBounds_toArray, List.set_cons_zero, List.set_cons_succ]
  refine ot_pure (v := ?_) (by kernel_rfl) ?_ ?_
  rotate_left
  · intro w' hv; clear hv; go_simp; try with_reducible rfl
  try simp only [Act.put, List.setIfInBounds_toArray, List.set_cons_zero]
  refine ot_nil ?_
  go_wp2_with fail
  go_ret
  exact ⟨rfl, HB.out⟩
end Go.Proofs.Ytkfelfcmpabjoaa
