/- The walk of the law SumRaw: it returns true, and writes nothing that was there. Conditions: the variables as laid; thirty-two bytes each. -/
import Derived.Test.YtpfckamobjcdhaaDoorXors
import Derived.Test.YtpfckamobjcdhaaDoorLess
import Derived.Test.YtpfckamobjcdhaaDoorRtext
import Derived.Deep.DeepCutAuto
import Derived.IntWalk
namespace Go.Proofs.YtpfckamobjcdhaaDoor
open Go.RowKit
theorem cmpL_anti : ∀ (x y : List (BitVec 8)), x.length = y.length → cmpL y x = - cmpL x y
  | [], [], _ => rfl
  | [], b :: y, h => by simp at h
  | a :: x, [], h => by simp at h
  | a :: x, b :: y, h => by
    have ih := cmpL_anti x y (by simpa using h)
    simp only [cmpL]
    by_cases h1 : B a < B b
    · rw [if_pos h1, if_neg (by omega), if_pos h1]; rfl
    · by_cases h2 : B b < B a
      · rw [if_pos h2, if_neg h1, if_pos h2]
      · rw [if_neg h1, if_neg h2, if_neg h2, if_neg h1, ih]
theorem cmpL_zero : ∀ (x y : List (BitVec 8)), x.length = y.length → cmpL x y = 0 → x = y
  | [], [], _, _ => rfl
  | [], b :: y, h, _ => by simp at h
  | a :: x, [], h, _ => by simp at h
  | a :: x, b :: y, h, h0 => by
    simp only [cmpL] at h0
    by_cases h1 : B a < B b
    · rw [if_pos h1] at h0; omega
    · by_cases h2 : B b < B a
      · rw [if_neg h1, if_pos h2] at h0; omega
      · rw [if_neg h1, if_neg h2] at h0
        rw [cmpL_zero x y (by simpa using h) h0, B_inj (show B a = B b by omega)]
theorem xorL_back (x y : List (BitVec 8)) (hx : x.length = 32) (hy : y.length = 32) : xorL (xorL x y) y = x := by
  rw [xorL_assoc, xorL_self y hy, xorL_zero x hx]
theorem xorL_nought (x y : List (BitVec 8)) (hx : x.length = 32) (hy : y.length = 32) : xorL x y = zero32 ↔ x = y := by
  constructor
  · intro h
    have := xorL_back x y hx hy
    rw [h, xorL_comm, xorL_zero y hy] at this
    exact this.symm
  · rintro rfl; exact xorL_self x hx
/-- Two blocks that are known whole. -/
def Two (t : TypeId) (a b : Nat) (x y : List Value) (w : World) : Prop := Has w a t x ∧ Has w b t y
namespace Two
variable {t : TypeId} {a b : Nat} {x y : List Value} {w w' : World}
theorem drew (h : Two t a b x y w) : Two t a b x y w.drew := h
theorem alloc (h : Two t a b x y w) (o : Obj) : Two t a b x y (w.alloc o) := ⟨h.1.alloc o, h.2.alloc o⟩
theorem row (h : Two t a b x y w) {g : Nat} (ha : a ≠ g) (hb : b ≠ g) (cs : Array Value) : Two t a b x y (w.setRow g cs) := ⟨h.1.offRow ha cs, h.2.offRow hb cs⟩
theorem keep (h : Two t a b x y w) (hb : Below w.heap.size w w') : Two t a b x y w' := ⟨h.1.keep hb h.1.lt, h.2.keep hb h.2.lt⟩
end Two
/-- Four blocks. -/
def Four (t u : TypeId) (a b c d : Nat) (x y : List Value) (w : World) : Prop := Two t a b x y w ∧ Two u c d x y w
namespace Four
variable {t u : TypeId} {a b c d : Nat} {x y : List Value} {w w' : World}
theorem drew (h : Four t u a b c d x y w) : Four t u a b c d x y w.drew := h
theorem alloc (h : Four t u a b c d x y w) (o : Obj) : Four t u a b c d x y (w.alloc o) := ⟨h.1.alloc o, h.2.alloc o⟩
theorem keep (h : Four t u a b c d x y w) (hb : Below w.heap.size w w') : Four t u a b c d x y w' := ⟨h.1.keep hb, h.2.keep hb⟩
theorem row (h : Four t u a b c d x y w) {g : Nat} (hg : w.heap.size ≤ g) (w2 : World) (h2 : Four t u a b c d x y w2) (cs : Array Value) : Four t u a b c d x y (w2.setRow g cs) :=
  ⟨h2.1.row (by have := h.1.1.lt; omega) (by have := h.1.2.lt; omega) cs, h2.2.row (by have := h.2.1.lt; omega) (by have := h.2.2.lt; omega) cs⟩
end Four
/-- Five blocks. -/
def Five (t u : TypeId) (a b c d f : Nat) (x y : List Value) (w : World) : Prop := Four t u a b c d x y w ∧ Has w f u x
namespace Five
variable {t u : TypeId} {a b c d f : Nat} {x y : List Value} {w w' : World}
theorem drew (h : Five t u a b c d f x y w) : Five t u a b c d f x y w.drew := h
theorem keep (h : Five t u a b c d f x y w) (hb : Below w.heap.size w w') : Five t u a b c d f x y w' := ⟨h.1.keep hb, h.2.keep hb h.2.lt⟩
end Five
theorem two_new {w : World} {x y : List Value} {b : Nat} (w1 : World) (T R : TypeId) {g1 g2 : Nat} (hB : Below b w w1) (s : Two R g1 g2 x y w1) (hb : b ≤ w1.heap.size) :
    let w3 := ((w1.alloc (.cells (brow 32 []).toArray T)).alloc (.cells (brow 32 []).toArray T)).drew
    Has w3 w1.heap.size T (brow 32 []) ∧ Has w3 (w1.heap.size + 1) T (brow 32 []) ∧ Below b w w3 ∧ Two R g1 g2 x y w3 := by
  intro w3
  exact ⟨((Has.made' w1 T _ _ rfl).alloc _).drew, (Has.made1 w1 _ T _ _ rfl).drew, ((hB.alloc hb _).alloc (by simp; omega) _).drew, ((s.alloc _).alloc _).drew⟩
set_option maxHeartbeats 4000000 in
set_option maxRecDepth 100000 in
theorem raw_any (x y : List (BitVec 8)) (hx : x.length = 32) (hy : y.length = 32) (i : Int) (w : World) (hL : Laid w) :
    Calls Tryd.prog 5 #[.agg (x.map u8v).toArray, .agg (y.map u8v).toArray, .int .i64 i] w fun e w' => e = .returned (.bool true) ∧ Below w.heap.size w w' := by
  obtain ⟨cx, hcx⟩ : ∃ cx, cx = x.map u8v := ⟨_, rfl⟩
  obtain ⟨cy, hcy⟩ : ∃ cy, cy = y.map u8v := ⟨_, rfl⟩
  rw [← hcx, ← hcy]
  have sz : ∀ (l : List (BitVec 8)), l.length = 32 → (Tryd.prog.info? 24).map (·.size) = some (l.map u8v).toArray.size := fun l hl => by rw [sum_info]; simp [hl]
  have i32 : (Tryd.prog.info? 23).map (·.size) = some 32 := by kernel_rfl
  have sr : ∀ (l : List (BitVec 8)), l.length = 32 → (Tryd.prog.info? 23).map (·.size) = some (l.map u8v).toArray.size := fun l hl => by rw [i32]; simp [hl]
  have HX : Hid ((Tryd.prog.info? 23).map (·.size) = some cx.toArray.size) := Lib.hid (by rw [hcx]; exact sr x hx)
  have KX : Hid ((Tryd.prog.info? 24).map (·.size) = some cx.toArray.size) := Lib.hid (by rw [hcx]; exact sz x hx)
  have OX : Hid (cx.toArray.all (·.oneCell') = true) := Lib.hid (by rw [hcx]; exact u8v_one x)
  have LX : Hid ((brow 32 []).toArray.size = cx.toArray.size) := Lib.hid (by rw [hcx]; simp [brow, hx])
  have HY : Hid ((Tryd.prog.info? 23).map (·.size) = some cy.toArray.size) := Lib.hid (by rw [hcy]; exact sr y hy)
  have KY : Hid ((Tryd.prog.info? 24).map (·.size) = some cy.toArray.size) := Lib.hid (by rw [hcy]; exact sz y hy)
  have OY : Hid (cy.toArray.all (·.oneCell') = true) := Lib.hid (by rw [hcy]; exact u8v_one y)
  have LY : Hid ((brow 32 []).toArray.size = cy.toArray.size) := Lib.hid (by rw [hcy]; simp [brow, hy])
  have Hcx := Lib.hid hcx
  have Hcy := Lib.hid hcy
  have Hx := Lib.hid hx
  have Hy := Lib.hid hy
  have HL := Lib.hid hL
  have hsz := hL.size
  clear hcx hcy hx hy hL sz sr i32
  go_enter Tryd.func5, Tryd.ntmps5
  go_wp2_with fail
  generalize hw0 : (w.alloc _).alloc _ = w0
  have h0 : Two 23 w.heap.size (w.heap.size + 1) cx cy w0 := by
    subst hw0
    exact ⟨(Has.made' _ _ _ _ rfl).alloc _, Has.made1 _ _ _ _ _ rfl⟩
  have hB0 : Below w.heap.size w w0 := by
    subst hw0; exact ((Below.refl _ _).alloc (Nat.le_refl _) _).alloc (by simp) _
  clear hw0
  refine (awake_any w0 (HL.out.keep hB0 hsz)).mono ?_
  rintro e w1 ⟨rfl, hb1⟩
  have h1 := h0.keep hb1
  have hB1 := hB0.trans (hb1.mono hB0.size)
  have hz1 : w.heap.size + 1 < w1.heap.size := h1.2.lt
  clear h0 hB0 hb1
  go_upto_region 3 with (fail)
  go_cut [7, 8] (fun p q wc => ∃ a b, p = .pointer (some ⟨a, 0, none⟩) ∧ q = .pointer (some ⟨b, 0, none⟩) ∧ Four 23 24 w.heap.size (w.heap.size + 1) a b cx cy wc ∧ Below w.heap.size w wc)
  case first =>
    have s0 := h1.drew
    have hn : w1.drew.heap.size = w1.heap.size := rfl
    refine held_start (Two 23 w.heap.size (w.heap.size + 1) cx cy) (by kernel_rfl) s0 ?_
    refine held_take 0 (by rfl) (by kernel_rfl) (by rfl) s0 (load_yield 23 (.tmp 3) (by rfl) _ (by rfl) 23 cx (fun _ h => h.1) _ Tryd.underlying23 rfl HX.out) ?_
    try simp only [Act.put, List.setIfInBounds_toArray, List.set_cons_zero, List.set_cons_succ]
    refine held_take 1 (by rfl) (by kernel_rfl) (by rfl) s0 (load_yield 23 (.tmp 4) (by rfl) _ (by rfl) 23 cy (fun _ h => h.2) _ Tryd.underlying23 rfl HY.out) ?_
    try simp only [Act.put, List.setIfInBounds_toArray, List.set_cons_zero, List.set_cons_succ]
    refine held_two 2 3 (by rfl) (by rfl) (by kernel_rfl) (by rfl) (by rfl) (fun K hK => ?_) (fun K hK => ?_)
    · go_wp2_with fail
      refine ⟨s0.alloc _, ?_⟩
      try simp only [Act.put, List.setIfInBounds_toArray, List.set_cons_zero, List.set_cons_succ]
      refine held_one 3 (by rfl) (by kernel_rfl) (by rfl) (fun K hK => ?_)
      go_wp2_with fail
      refine ⟨(s0.alloc _).alloc _, ?_⟩
      try simp only [Act.put, List.setIfInBounds_toArray, List.set_cons_zero, List.set_cons_succ]
      generalize hW : World.drew _ = w3
      have zn : Has w3 w1.heap.size 24 (brow 32 []) ∧ Has w3 (w1.heap.size + 1) 24 (brow 32 []) ∧ Below w.heap.size w w3 ∧ Two 23 w.heap.size (w.heap.size + 1) cx cy w3 := by subst hW; exact two_new w1 24 23 hB1 h1 hB1.size
      clear hW
      obtain ⟨z0, z1, hB3, s3⟩ := zn
      refine held_one 4 (by rfl) (by kernel_rfl) (by rfl) (fun K hK => ?_)
      refine wp_store_row 24 (.tmp 7) (.tmp 13) (by rfl) w1.heap.size cx.toArray (by rfl) (by rfl) 24 _ z0 KX.out LX.out OX.out ?_
      refine hK _ _ ⟨(s3.row (g := w1.heap.size) (by omega) (by omega) _), ?_⟩
      simp only [Act.put]
      refine held_one 5 (by rfl) (by kernel_rfl) (by rfl) (fun K hK => ?_)
      refine wp_store_row 24 (.tmp 8) (.tmp 14) (by rfl) (w1.heap.size + 1) cy.toArray (by rfl) (by rfl) 24 _ (z1.offRow (g' := w1.heap.size) (by omega) _) KY.out LY.out OY.out ?_
      refine hK _ _ ⟨((s3.row (g := w1.heap.size) (by omega) (by omega) _).row (g := (w1.heap.size + 1)) (by omega) (by omega) _), ?_⟩
      simp only [Act.put]
      refine held_done (by kernel_rfl) ?_
      go_wp2_with fail
      go_meet
      exact ⟨w1.heap.size, (w1.heap.size + 1), rfl, rfl, ⟨((s3.row (g := w1.heap.size) (by omega) (by omega) _).row (g := (w1.heap.size + 1)) (by omega) (by omega) _), ((z0.rowl _).offRow (g' := (w1.heap.size + 1)) (by omega) _), ((z1.offRow (g' := w1.heap.size) (by omega) _).rowl _)⟩, (below_row (below_row hB3 (g := w1.heap.size) (by omega) _) (g := (w1.heap.size + 1)) (by omega) _)⟩
    · go_wp2_with fail
      refine ⟨s0.alloc _, ?_⟩
      try simp only [Act.put, List.setIfInBounds_toArray, List.set_cons_zero, List.set_cons_succ]
      refine held_one 2 (by rfl) (by kernel_rfl) (by rfl) (fun K hK => ?_)
      go_wp2_with fail
      refine ⟨(s0.alloc _).alloc _, ?_⟩
      try simp only [Act.put, List.setIfInBounds_toArray, List.set_cons_zero, List.set_cons_succ]
      generalize hW : World.drew _ = w3
      have zn : Has w3 w1.heap.size 24 (brow 32 []) ∧ Has w3 (w1.heap.size + 1) 24 (brow 32 []) ∧ Below w.heap.size w w3 ∧ Two 23 w.heap.size (w.heap.size + 1) cx cy w3 := by subst hW; exact two_new w1 24 23 hB1 h1 hB1.size
      clear hW
      obtain ⟨z0, z1, hB3, s3⟩ := zn
      refine held_one 4 (by rfl) (by kernel_rfl) (by rfl) (fun K hK => ?_)
      refine wp_store_row 24 (.tmp 7) (.tmp 13) (by rfl) (w1.heap.size + 1) cx.toArray (by rfl) (by rfl) 24 _ z1 KX.out LX.out OX.out ?_
      refine hK _ _ ⟨(s3.row (g := (w1.heap.size + 1)) (by omega) (by omega) _), ?_⟩
      simp only [Act.put]
      refine held_one 5 (by rfl) (by kernel_rfl) (by rfl) (fun K hK => ?_)
      refine wp_store_row 24 (.tmp 8) (.tmp 14) (by rfl) w1.heap.size cy.toArray (by rfl) (by rfl) 24 _ (z0.offRow (g' := (w1.heap.size + 1)) (by omega) _) KY.out LY.out OY.out ?_
      refine hK _ _ ⟨((s3.row (g := (w1.heap.size + 1)) (by omega) (by omega) _).row (g := w1.heap.size) (by omega) (by omega) _), ?_⟩
      simp only [Act.put]
      refine held_done (by kernel_rfl) ?_
      go_wp2_with fail
      go_meet
      exact ⟨(w1.heap.size + 1), w1.heap.size, rfl, rfl, ⟨((s3.row (g := (w1.heap.size + 1)) (by omega) (by omega) _).row (g := w1.heap.size) (by omega) (by omega) _), ((z1.rowl _).offRow (g' := w1.heap.size) (by omega) _), ((z0.offRow (g' := (w1.heap.size + 1)) (by omega) _).rowl _)⟩, (below_row (below_row hB3 (g := (w1.heap.size + 1)) (by omega) _) (g := w1.heap.size) (by omega) _)⟩
  case rest =>
    obtain ⟨a, b, rfl, rfl, hT, hB⟩ := hcut
    clear h1 hB1 hz1
    have lx := Hx.out
    have ly := Hy.out
    have T1 : Hid (∀ w, Calls Tryd.prog 12 #[.agg cx.toArray] w fun e w' => e = .returned (.string (strB (textOf x))) ∧ Below w.heap.size w w') := Lib.hid fun w => by
      rw [Hcx.out]; exact text_any x lx w
    have P1 : Hid (∀ w, Calls Tryd.prog 11 #[.string (strB (textOf x))] w fun e w' => e = .returned (.tuple #[.agg cx.toArray, .bool true]) ∧ Below w.heap.size w w') := Lib.hid fun w => by
      rw [Hcx.out]; exact parse_text x lx w
    have T2 : Hid (∀ w, Calls Tryd.prog 19 #[.agg cx.toArray] w fun e w' => e = .returned (.string (strB (textOf x))) ∧ Below w.heap.size w w') := Lib.hid fun w => by
      rw [Hcx.out]; exact rtext_any x lx w
    generalize strB (textOf x) = tx at *
    go_upto_region 4 with (fail)
    go_cut [9, 10] (fun r o wc => ∃ c, r = .pointer (some ⟨c, 0, none⟩) ∧ o = .bool true ∧ Five 23 24 w.heap.size (w.heap.size + 1) a b c cx cy wc ∧ Below w.heap.size w wc)
    case first =>
      clear lx ly
      go_wp2_with (first
        | (refine wpList_load_row rfl 24 _ rfl a rfl 24 _ (0, 0) _ hT.2.1 Tryd.underlying24 rfl KX.out ?_)
        | (go_at_call 12; with_reducible refine (T1.out _).mono ?_; rintro e v1 ⟨rfl, hb1⟩)
        | (go_at_call 11; with_reducible refine (P1.out _).mono ?_; rintro e v2 ⟨rfl, hb2⟩)
        | (refine wpList_store_row rfl 24 _ _ rfl v2.heap.size _ rfl rfl 24 _ (Has.made' v2 24 _ (brow 32 []) rfl) KX.out LX.out OX.out ?_))
      go_meet
      have f1 := hT.keep hb1
      have f2 := f1.keep hb2
      have g1 := hB.trans (hb1.mono hB.size)
      have g2 := g1.trans (hb2.mono g1.size)
      have f3 := f2.alloc (.cells (brow 32 []).toArray 24)
      exact ⟨v2.heap.size, rfl, rfl, ⟨f2.row (Nat.le_refl _) _ f3 _, (Has.made' v2 24 _ (brow 32 []) rfl).rowl cx⟩, below_row (g2.alloc g2.size _) g2.size _⟩
    case rest =>
      obtain ⟨c, rfl, rfl, hV, hB5⟩ := hcut
      clear hT hB
      obtain ⟨c1, hc1⟩ : ∃ c1, c1 = (xorL x y).map u8v := ⟨_, rfl⟩
      have l1 := xorL_length x y lx ly
      have C1 : Hid (∀ w, Calls Tryd.prog 15 #[.agg cx.toArray, .agg cy.toArray] w fun e w' => e = .returned (.int .i64 (cmpL x y)) ∧ Below w.heap.size w w') := Lib.hid fun w => by
        rw [Hcx.out, Hcy.out]; exact cmp_any x y lx ly w
      have C2 : Hid (∀ w, Calls Tryd.prog 15 #[.agg cy.toArray, .agg cx.toArray] w fun e w' => e = .returned (.int .i64 (- cmpL x y)) ∧ Below w.heap.size w w') := Lib.hid fun w => by
        rw [Hcx.out, Hcy.out, ← cmpL_anti x y (by rw [lx, ly])]; exact cmp_any y x ly lx w
      have C3 : Hid (∀ w, Calls Tryd.prog 20 #[.agg cx.toArray, .agg cy.toArray] w fun e w' => e = .returned (.int .i64 (cmpL x y)) ∧ Below w.heap.size w w') := Lib.hid fun w => by
        rw [Hcx.out, Hcy.out]; exact rcmp_any x y lx ly w
      have X1 : Hid (∀ w, Calls Tryd.prog 16 #[.agg cx.toArray, .agg cy.toArray] w fun e w' => e = .returned (.agg c1.toArray) ∧ Below w.heap.size w w') := Lib.hid fun w => by
        rw [Hcx.out, Hcy.out, hc1]; exact xor_any x y lx ly w
      have X2 : Hid (∀ w, Calls Tryd.prog 16 #[.agg cy.toArray, .agg cx.toArray] w fun e w' => e = .returned (.agg c1.toArray) ∧ Below w.heap.size w w') := Lib.hid fun w => by
        rw [Hcx.out, Hcy.out, hc1, xorL_comm x y]; exact xor_any y x ly lx w
      have X3 : Hid (∀ w, Calls Tryd.prog 16 #[.agg c1.toArray, .agg cy.toArray] w fun e w' => e = .returned (.agg cx.toArray) ∧ Below w.heap.size w w') := Lib.hid fun w => by
        have := xor_any (xorL x y) y l1 ly w
        rw [xorL_back x y lx ly] at this
        rw [Hcx.out, Hcy.out, hc1]; exact this
      have W1 : Hid (∀ w, Calls Tryd.prog 14 #[.agg cx.toArray, .int .i64 i] w fun e w' => e = .returned (.int .u64 (M (wordOf x i))) ∧ Below w.heap.size w w') := Lib.hid fun w => by
        rw [Hcx.out]; exact word_any x lx i w
      have W2 : Hid (∀ w, Calls Tryd.prog 22 #[.agg cx.toArray, .int .i64 i] w fun e w' => e = .returned (.int .u64 (M (wordOf x i))) ∧ Below w.heap.size w w') := Lib.hid fun w => by
        rw [Hcx.out]; exact rword_any x lx i w
      have Z1 : Hid (∀ w, Calls Tryd.prog 13 #[.agg c1.toArray] w fun e w' => e = .returned (.bool (decide (x = y))) ∧ Below w.heap.size w w') := Lib.hid fun w => by
        have := zero_any (xorL x y) l1 w
        rw [show decide (xorL x y = zero32) = decide (x = y) by rw [Bool.eq_iff_iff, decide_eq_true_eq, decide_eq_true_eq]; exact xorL_nought x y lx ly] at this
        rw [hc1]; exact this
      have E1 : ∀ w' : World, (binOp .eql 24 (.agg cx.toArray) (.agg cx.toArray)).run Tryd.prog w' = .ok (.bool true) w' := fun w' => by
        have := arr_eql 24 Tryd.underlying24 _ _ lx lx w'
        rw [decide_eq_true (rfl : x = x), ← Hcx.out] at this
        exact this
      have E2 : ∀ w' : World, (binOp .eql 24 (.agg c1.toArray) (.agg c1.toArray)).run Tryd.prog w' = .ok (.bool true) w' := fun w' => by
        have := arr_eql 24 Tryd.underlying24 _ _ l1 l1 w'
        rw [decide_eq_true (rfl : xorL x y = _), ← hc1] at this
        exact this
      have E3 : ∀ w' : World, (binOp .eql 23 (.agg cx.toArray) (.agg cy.toArray)).run Tryd.prog w' = .ok (.bool (decide (x = y))) w' := fun w' => by
        have := arr_eql 23 Tryd.underlying23 _ _ lx ly w'
        rw [← Hcx.out, ← Hcy.out] at this
        exact this
      have vp := cmpL_vals x y
      have vz : cmpL x y = 0 ↔ decide (x = y) = true := by
        rw [decide_eq_true_eq]
        exact ⟨cmpL_zero x y (by rw [lx, ly]), fun h => by rw [h, cmpL_self]⟩
      clear hc1 lx ly l1
      generalize cmpL x y = p at *
      generalize decide (x = y) = bb at *
      generalize M (wordOf x i) = m at *
      have s0 := hV.drew
      have b0 := hB5.drew
      clear hV hB5
      go_wp2_with fail
      simp only [List.append_eq, List.cons_append, List.nil_append]
      refine wp_region_ors (Five 23 24 w.heap.size (w.heap.size + 1) a b c cx cy) [(0, true), (1, true), (2, true), (3, true), (4, true), (5, true), (6, true), (7, true), (9, true), (8, false), (10, false), (11, true), (12, true), (13, true), (14, true), (15, true), (17, true), (18, true), (16, false), (19, false), (20, true), (21, true), (22, true), (23, true), (24, true), (25, true), (28, true), (29, true), (30, true), (26, false), (27, true), (31, true), (32, true), (33, true), (34, true), (35, true), (37, true), (38, true), (36, false), (39, false), (40, true), (41, true), (42, true), (43, true), (44, true), (46, true), (47, true), (45, false), (48, false), (49, true), (50, true), (51, true), (52, true), (53, true), (55, true), (57, true), (54, false), (56, false), (58, true), (59, true), (60, true), (61, true), (62, true), (64, true), (65, true), (63, false), (66, false), (67, true), (68, true), (69, true), (70, true), (71, true), (74, true), (75, true), (76, true), (72, false), (73, false), (77, true), (78, true), (79, true)] (by kernel_rfl) (by kernel_rfl) (by kernel_rfl) s0 ?_
      simp only [pickOrs, List.getElem?_cons_zero, List.getElem?_cons_succ]
      generalize wc.drew = v0 at *
      have hp1 : -1 ≤ p := by rcases vp with rfl | rfl | rfl <;> omega
      have hp2 : p ≤ 1 := by rcases vp with rfl | rfl | rfl <;> omega
      have hq : (p == 0) = bb := by rw [Bool.eq_iff_iff, beq_iff_eq]; exact vz
      have hn : IntKind.i64.wrap (- - p) = p := by rw [Int.neg_neg]; exact IntWalk.i64_in _ (by omega)
      have hn2 : IntKind.i64.wrap p = p := IntWalk.i64_in _ (by omega)
      clear vp vz
      refine ors_pure (v := ?_) (by rfl) ?_ ?_
      rotate_left
      · intro w' _; go_simp; try with_reducible rfl
      try simp only [Act.put, List.setIfInBounds_toArray, List.set_cons_zero, List.set_cons_succ]
      refine ors_pure (v := ?_) (by rfl) ?_ ?_
      rotate_left
      · intro w' _; go_simp; try with_reducible rfl
      try simp only [Act.put, List.setIfInBounds_toArray, List.set_cons_zero, List.set_cons_succ]
      refine ors_pure (by rfl) (load_yield 24 (.tmp 9) (by rfl) _ (by rfl) 24 cx (fun _ h => h.2) _ Tryd.underlying24 rfl KX.out) ?_
      try simp only [Act.put, List.setIfInBounds_toArray, List.set_cons_zero, List.set_cons_succ]
      refine ors_pure (by rfl) (load_yield 24 (.tmp 7) (by rfl) _ (by rfl) 24 cx (fun _ h => h.1.2.1) _ Tryd.underlying24 rfl KX.out) ?_
      try simp only [Act.put, List.setIfInBounds_toArray, List.set_cons_zero, List.set_cons_succ]
      refine ors_pure (v := ?_) (by rfl) ?_ ?_
      rotate_left
      · intro w' _; go_simp; try with_reducible rfl
      try simp only [Act.put, List.setIfInBounds_toArray, List.set_cons_zero, List.set_cons_succ]
      refine ors_pure (v := ?_) (by rfl) ?_ ?_
      rotate_left
      · intro w' _; go_simp; try with_reducible rfl
      try simp only [Act.put, List.setIfInBounds_toArray, List.set_cons_zero, List.set_cons_succ]
      refine ors_pure (v := ?_) (by rfl) ?_ ?_
      rotate_left
      · intro w' _; go_simp; try with_reducible rfl
      try simp only [Act.put, List.setIfInBounds_toArray, List.set_cons_zero, List.set_cons_succ]
      refine ors_pure (by rfl) (load_yield 24 (.tmp 7) (by rfl) _ (by rfl) 24 cx (fun _ h => h.1.2.1) _ Tryd.underlying24 rfl KX.out) ?_
      try simp only [Act.put, List.setIfInBounds_toArray, List.set_cons_zero, List.set_cons_succ]
      refine ors_pure (by rfl) (load_yield 23 (.tmp 3) (by rfl) _ (by rfl) 23 cx (fun _ h => h.1.1.1) _ Tryd.underlying23 rfl HX.out) ?_
      try simp only [Act.put, List.setIfInBounds_toArray, List.set_cons_zero, List.set_cons_succ]
      refine ors_step (by rfl) (fun K hK => ?_)
      go_wp2_with fail
      with_reducible refine (T1.out _).mono ?_
      rintro e v1 ⟨rfl, hb⟩
      have s1 := s0.keep hb
      have b1 := b0.trans (hb.mono b0.size)
      clear hb b0
      go_wp2_with fail
      refine ⟨s1, ?_⟩
      clear s0
      try simp only [Act.put, List.setIfInBounds_toArray, List.set_cons_zero, List.set_cons_succ]
      refine ors_step (by rfl) (fun K hK => ?_)
      go_wp2_with fail
      with_reducible refine (T2.out _).mono ?_
      rintro e v2 ⟨rfl, hb⟩
      have s2 := s1.keep hb
      have b2 := b1.trans (hb.mono b1.size)
      clear hb b1
      go_wp2_with fail
      refine ⟨s2, ?_⟩
      clear s1
      try simp only [Act.put, List.setIfInBounds_toArray, List.set_cons_zero, List.set_cons_succ]
      refine ors_pure (v := ?_) (by rfl) ?_ ?_
      rotate_left
      · intro w' _; go_simp; try with_reducible rfl
      try simp only [Act.put, List.setIfInBounds_toArray, List.set_cons_zero, List.set_cons_succ]
      refine ors_pure (v := ?_) (by rfl) ?_ ?_
      rotate_left
      · intro w' _; go_simp; try with_reducible rfl
      try simp only [Act.put, List.setIfInBounds_toArray, List.set_cons_zero, List.set_cons_succ]
      refine ors_pure (v := ?_) (by rfl) ?_ ?_
      rotate_left
      · intro w' _; go_simp; try with_reducible rfl
      try simp only [Act.put, List.setIfInBounds_toArray, List.set_cons_zero, List.set_cons_succ]
      refine ors_pure (by rfl) (load_yield 24 (.tmp 7) (by rfl) _ (by rfl) 24 cx (fun _ h => h.1.2.1) _ Tryd.underlying24 rfl KX.out) ?_
      try simp only [Act.put, List.setIfInBounds_toArray, List.set_cons_zero, List.set_cons_succ]
      refine ors_pure (by rfl) (load_yield 24 (.tmp 8) (by rfl) _ (by rfl) 24 cy (fun _ h => h.1.2.2) _ Tryd.underlying24 rfl KY.out) ?_
      try simp only [Act.put, List.setIfInBounds_toArray, List.set_cons_zero, List.set_cons_succ]
      refine ors_pure (by rfl) (load_yield 24 (.tmp 8) (by rfl) _ (by rfl) 24 cy (fun _ h => h.1.2.2) _ Tryd.underlying24 rfl KY.out) ?_
      try simp only [Act.put, List.setIfInBounds_toArray, List.set_cons_zero, List.set_cons_succ]
      refine ors_pure (by rfl) (load_yield 24 (.tmp 7) (by rfl) _ (by rfl) 24 cx (fun _ h => h.1.2.1) _ Tryd.underlying24 rfl KX.out) ?_
      try simp only [Act.put, List.setIfInBounds_toArray, List.set_cons_zero, List.set_cons_succ]
      refine ors_step (by rfl) (fun K hK => ?_)
      go_wp2_with fail
      with_reducible refine (C1.out _).mono ?_
      rintro e v3 ⟨rfl, hb⟩
      have s3 := s2.keep hb
      have b3 := b2.trans (hb.mono b2.size)
      clear hb b2
      go_wp2_with fail
      refine ⟨s3, ?_⟩
      clear s2
      try simp only [Act.put, List.setIfInBounds_toArray, List.set_cons_zero, List.set_cons_succ]
      refine ors_step (by rfl) (fun K hK => ?_)
      go_wp2_with fail
      with_reducible refine (C2.out _).mono ?_
      rintro e v4 ⟨rfl, hb⟩
      have s4 := s3.keep hb
      have b4 := b3.trans (hb.mono b3.size)
      clear hb b3
      go_wp2_with fail
      refine ⟨s4, ?_⟩
      clear s3
      try simp only [Act.put, List.setIfInBounds_toArray, List.set_cons_zero, List.set_cons_succ]
      refine ors_pure (v := ?_) (by rfl) ?_ ?_
      rotate_left
      · intro w' _; go_simp; try with_reducible rfl
      try simp only [Act.put, List.setIfInBounds_toArray, List.set_cons_zero, List.set_cons_succ]
      refine ors_pure (v := ?_) (by rfl) ?_ ?_
      rotate_left
      · intro w' _; go_simp; try with_reducible rfl
      try simp only [Act.put, List.setIfInBounds_toArray, List.set_cons_zero, List.set_cons_succ]
      refine ors_pure (v := ?_) (by rfl) ?_ ?_
      rotate_left
      · intro w' _; go_simp; try with_reducible rfl
      try simp only [Act.put, List.setIfInBounds_toArray, List.set_cons_zero, List.set_cons_succ]
      refine ors_pure (v := ?_) (by rfl) ?_ ?_
      rotate_left
      · intro w' _; go_simp; try with_reducible rfl
      try simp only [Act.put, List.setIfInBounds_toArray, List.set_cons_zero, List.set_cons_succ]
      refine ors_pure (by rfl) (load_yield 24 (.tmp 7) (by rfl) _ (by rfl) 24 cx (fun _ h => h.1.2.1) _ Tryd.underlying24 rfl KX.out) ?_
      try simp only [Act.put, List.setIfInBounds_toArray, List.set_cons_zero, List.set_cons_succ]
      refine ors_pure (by rfl) (load_yield 24 (.tmp 8) (by rfl) _ (by rfl) 24 cy (fun _ h => h.1.2.2) _ Tryd.underlying24 rfl KY.out) ?_
      try simp only [Act.put, List.setIfInBounds_toArray, List.set_cons_zero, List.set_cons_succ]
      refine ors_pure (by rfl) (load_yield 23 (.tmp 3) (by rfl) _ (by rfl) 23 cx (fun _ h => h.1.1.1) _ Tryd.underlying23 rfl HX.out) ?_
      try simp only [Act.put, List.setIfInBounds_toArray, List.set_cons_zero, List.set_cons_succ]
      refine ors_pure (by rfl) (load_yield 23 (.tmp 4) (by rfl) _ (by rfl) 23 cy (fun _ h => h.1.1.2) _ Tryd.underlying23 rfl HY.out) ?_
      try simp only [Act.put, List.setIfInBounds_toArray, List.set_cons_zero, List.set_cons_succ]
      refine ors_pure (v := ?_) (by rfl) ?_ ?_
      rotate_left
      · intro w' _; go_simp; try with_reducible rfl
      try simp only [Act.put, List.setIfInBounds_toArray, List.set_cons_zero, List.set_cons_succ]
      refine ors_step (by rfl) (fun K hK => ?_)
      go_wp2_with fail
      with_reducible refine (C1.out _).mono ?_
      rintro e v5 ⟨rfl, hb⟩
      have s5 := s4.keep hb
      have b5 := b4.trans (hb.mono b4.size)
      clear hb b4
      go_wp2_with fail
      refine ⟨s5, ?_⟩
      clear s4
      try simp only [Act.put, List.setIfInBounds_toArray, List.set_cons_zero, List.set_cons_succ]
      refine ors_pure (v := ?_) (by rfl) ?_ ?_
      rotate_left
      · intro w' _; go_simp; try with_reducible rfl
      try simp only [Act.put, List.setIfInBounds_toArray, List.set_cons_zero, List.set_cons_succ]
      refine ors_pure (v := ?_) (by rfl) ?_ ?_
      rotate_left
      · intro w' _; go_simp; try with_reducible rfl
      try simp only [Act.put, List.setIfInBounds_toArray, List.set_cons_zero, List.set_cons_succ]
      refine ors_pure (v := ?_) (by rfl) ?_ ?_
      rotate_left
      · intro w' _; go_simp; try with_reducible rfl
      try simp only [Act.put, List.setIfInBounds_toArray, List.set_cons_zero, List.set_cons_succ]
      refine ors_pure (v := ?_) (by rfl) ?_ ?_
      rotate_left
      · intro w' _; go_simp; try with_reducible rfl
      try simp only [Act.put, List.setIfInBounds_toArray, List.set_cons_zero, List.set_cons_succ]
      refine ors_pure (by rfl) (load_yield 24 (.tmp 7) (by rfl) _ (by rfl) 24 cx (fun _ h => h.1.2.1) _ Tryd.underlying24 rfl KX.out) ?_
      try simp only [Act.put, List.setIfInBounds_toArray, List.set_cons_zero, List.set_cons_succ]
      refine ors_pure (by rfl) (load_yield 24 (.tmp 8) (by rfl) _ (by rfl) 24 cy (fun _ h => h.1.2.2) _ Tryd.underlying24 rfl KY.out) ?_
      try simp only [Act.put, List.setIfInBounds_toArray, List.set_cons_zero, List.set_cons_succ]
      refine ors_pure (by rfl) (load_yield 23 (.tmp 3) (by rfl) _ (by rfl) 23 cx (fun _ h => h.1.1.1) _ Tryd.underlying23 rfl HX.out) ?_
      try simp only [Act.put, List.setIfInBounds_toArray, List.set_cons_zero, List.set_cons_succ]
      refine ors_pure (by rfl) (load_yield 23 (.tmp 4) (by rfl) _ (by rfl) 23 cy (fun _ h => h.1.1.2) _ Tryd.underlying23 rfl HY.out) ?_
      try simp only [Act.put, List.setIfInBounds_toArray, List.set_cons_zero, List.set_cons_succ]
      refine ors_step (by rfl) (fun K hK => ?_)
      go_wp2_with fail
      with_reducible refine (C1.out _).mono ?_
      rintro e v6 ⟨rfl, hb⟩
      have s6 := s5.keep hb
      have b6 := b5.trans (hb.mono b5.size)
      clear hb b5
      go_wp2_with fail
      refine ⟨s6, ?_⟩
      clear s5
      try simp only [Act.put, List.setIfInBounds_toArray, List.set_cons_zero, List.set_cons_succ]
      refine ors_step (by rfl) (fun K hK => ?_)
      go_wp2_with fail
      with_reducible refine (C3.out _).mono ?_
      rintro e v7 ⟨rfl, hb⟩
      have s7 := s6.keep hb
      have b7 := b6.trans (hb.mono b6.size)
      clear hb b6
      go_wp2_with fail
      refine ⟨s7, ?_⟩
      clear s6
      try simp only [Act.put, List.setIfInBounds_toArray, List.set_cons_zero, List.set_cons_succ]
      refine ors_pure (v := ?_) (by rfl) ?_ ?_
      rotate_left
      · intro w' _; go_simp; try with_reducible rfl
      try simp only [Act.put, List.setIfInBounds_toArray, List.set_cons_zero, List.set_cons_succ]
      refine ors_pure (v := ?_) (by rfl) ?_ ?_
      rotate_left
      · intro w' _; go_simp; try with_reducible rfl
      try simp only [Act.put, List.setIfInBounds_toArray, List.set_cons_zero, List.set_cons_succ]
      refine ors_pure (v := ?_) (by rfl) ?_ ?_
      rotate_left
      · intro w' _; go_simp; try with_reducible rfl
      try simp only [Act.put, List.setIfInBounds_toArray, List.set_cons_zero, List.set_cons_succ]
      refine ors_pure (by rfl) (load_yield 24 (.tmp 7) (by rfl) _ (by rfl) 24 cx (fun _ h => h.1.2.1) _ Tryd.underlying24 rfl KX.out) ?_
      try simp only [Act.put, List.setIfInBounds_toArray, List.set_cons_zero, List.set_cons_succ]
      refine ors_pure (by rfl) (load_yield 24 (.tmp 8) (by rfl) _ (by rfl) 24 cy (fun _ h => h.1.2.2) _ Tryd.underlying24 rfl KY.out) ?_
      try simp only [Act.put, List.setIfInBounds_toArray, List.set_cons_zero, List.set_cons_succ]
      refine ors_pure (by rfl) (load_yield 24 (.tmp 8) (by rfl) _ (by rfl) 24 cy (fun _ h => h.1.2.2) _ Tryd.underlying24 rfl KY.out) ?_
      try simp only [Act.put, List.setIfInBounds_toArray, List.set_cons_zero, List.set_cons_succ]
      refine ors_pure (by rfl) (load_yield 24 (.tmp 7) (by rfl) _ (by rfl) 24 cx (fun _ h => h.1.2.1) _ Tryd.underlying24 rfl KX.out) ?_
      try simp only [Act.put, List.setIfInBounds_toArray, List.set_cons_zero, List.set_cons_succ]
      refine ors_step (by rfl) (fun K hK => ?_)
      go_wp2_with fail
      with_reducible refine (X1.out _).mono ?_
      rintro e v8 ⟨rfl, hb⟩
      have s8 := s7.keep hb
      have b8 := b7.trans (hb.mono b7.size)
      clear hb b7
      go_wp2_with fail
      refine ⟨s8, ?_⟩
      clear s7
      try simp only [Act.put, List.setIfInBounds_toArray, List.set_cons_zero, List.set_cons_succ]
      refine ors_step (by rfl) (fun K hK => ?_)
      go_wp2_with fail
      with_reducible refine (X2.out _).mono ?_
      rintro e v9 ⟨rfl, hb⟩
      have s9 := s8.keep hb
      have b9 := b8.trans (hb.mono b8.size)
      clear hb b8
      go_wp2_with fail
      refine ⟨s9, ?_⟩
      clear s8
      try simp only [Act.put, List.setIfInBounds_toArray, List.set_cons_zero, List.set_cons_succ]
      refine ors_pure (v := ?_) (by rfl) ?_ ?_
      rotate_left
      · intro w' _; go_simp; try with_reducible rfl
      try simp only [Act.put, List.setIfInBounds_toArray, List.set_cons_zero, List.set_cons_succ]
      refine ors_pure (v := ?_) (by rfl) ?_ ?_
      rotate_left
      · intro w' _; go_simp; try with_reducible rfl
      try simp only [Act.put, List.setIfInBounds_toArray, List.set_cons_zero, List.set_cons_succ]
      refine ors_pure (v := ?_) (by rfl) ?_ ?_
      rotate_left
      · intro w' _; go_simp; try with_reducible rfl
      try simp only [Act.put, List.setIfInBounds_toArray, List.set_cons_zero, List.set_cons_succ]
      refine ors_pure (by rfl) (load_yield 24 (.tmp 7) (by rfl) _ (by rfl) 24 cx (fun _ h => h.1.2.1) _ Tryd.underlying24 rfl KX.out) ?_
      try simp only [Act.put, List.setIfInBounds_toArray, List.set_cons_zero, List.set_cons_succ]
      refine ors_pure (by rfl) (load_yield 24 (.tmp 8) (by rfl) _ (by rfl) 24 cy (fun _ h => h.1.2.2) _ Tryd.underlying24 rfl KY.out) ?_
      try simp only [Act.put, List.setIfInBounds_toArray, List.set_cons_zero, List.set_cons_succ]
      refine ors_pure (by rfl) (load_yield 24 (.tmp 8) (by rfl) _ (by rfl) 24 cy (fun _ h => h.1.2.2) _ Tryd.underlying24 rfl KY.out) ?_
      try simp only [Act.put, List.setIfInBounds_toArray, List.set_cons_zero, List.set_cons_succ]
      refine ors_pure (by rfl) (load_yield 24 (.tmp 7) (by rfl) _ (by rfl) 24 cx (fun _ h => h.1.2.1) _ Tryd.underlying24 rfl KX.out) ?_
      try simp only [Act.put, List.setIfInBounds_toArray, List.set_cons_zero, List.set_cons_succ]
      refine ors_step (by rfl) (fun K hK => ?_)
      go_wp2_with fail
      with_reducible refine (X1.out _).mono ?_
      rintro e v10 ⟨rfl, hb⟩
      have s10 := s9.keep hb
      have b10 := b9.trans (hb.mono b9.size)
      clear hb b9
      go_wp2_with fail
      refine ⟨s10, ?_⟩
      clear s9
      try simp only [Act.put, List.setIfInBounds_toArray, List.set_cons_zero, List.set_cons_succ]
      refine ors_step (by rfl) (fun K hK => ?_)
      go_wp2_with fail
      with_reducible refine (X3.out _).mono ?_
      rintro e v11 ⟨rfl, hb⟩
      have s11 := s10.keep hb
      have b11 := b10.trans (hb.mono b10.size)
      clear hb b10
      go_wp2_with fail
      refine ⟨s11, ?_⟩
      clear s10
      try simp only [Act.put, List.setIfInBounds_toArray, List.set_cons_zero, List.set_cons_succ]
      refine ors_pure (v := ?_) (by rfl) ?_ ?_
      rotate_left
      · intro w' _; go_simp; try with_reducible rfl
      try simp only [Act.put, List.setIfInBounds_toArray, List.set_cons_zero, List.set_cons_succ]
      refine ors_pure (v := ?_) (by rfl) ?_ ?_
      rotate_left
      · intro w' _; go_simp; try with_reducible rfl
      try simp only [Act.put, List.setIfInBounds_toArray, List.set_cons_zero, List.set_cons_succ]
      refine ors_pure (v := ?_) (by rfl) ?_ ?_
      rotate_left
      · intro w' _; go_simp; try with_reducible rfl
      try simp only [Act.put, List.setIfInBounds_toArray, List.set_cons_zero, List.set_cons_succ]
      refine ors_pure (by rfl) (load_yield 24 (.tmp 7) (by rfl) _ (by rfl) 24 cx (fun _ h => h.1.2.1) _ Tryd.underlying24 rfl KX.out) ?_
      try simp only [Act.put, List.setIfInBounds_toArray, List.set_cons_zero, List.set_cons_succ]
      refine ors_pure (v := ?_) (by rfl) ?_ ?_
      rotate_left
      · intro w' _; go_simp; try with_reducible rfl
      try simp only [Act.put, List.setIfInBounds_toArray, List.set_cons_zero, List.set_cons_succ]
      refine ors_pure (by rfl) (load_yield 23 (.tmp 3) (by rfl) _ (by rfl) 23 cx (fun _ h => h.1.1.1) _ Tryd.underlying23 rfl HX.out) ?_
      try simp only [Act.put, List.setIfInBounds_toArray, List.set_cons_zero, List.set_cons_succ]
      refine ors_pure (v := ?_) (by rfl) ?_ ?_
      rotate_left
      · intro w' _; go_simp; try with_reducible rfl
      try simp only [Act.put, List.setIfInBounds_toArray, List.set_cons_zero, List.set_cons_succ]
      refine ors_step (by rfl) (fun K hK => ?_)
      go_wp2_with fail
      with_reducible refine (W1.out _).mono ?_
      rintro e v12 ⟨rfl, hb⟩
      have s12 := s11.keep hb
      have b12 := b11.trans (hb.mono b11.size)
      clear hb b11
      go_wp2_with fail
      refine ⟨s12, ?_⟩
      clear s11
      try simp only [Act.put, List.setIfInBounds_toArray, List.set_cons_zero, List.set_cons_succ]
      refine ors_step (by rfl) (fun K hK => ?_)
      go_wp2_with fail
      with_reducible refine (W2.out _).mono ?_
      rintro e v13 ⟨rfl, hb⟩
      have s13 := s12.keep hb
      have b13 := b12.trans (hb.mono b12.size)
      clear hb b12
      go_wp2_with fail
      refine ⟨s13, ?_⟩
      clear s12
      try simp only [Act.put, List.setIfInBounds_toArray, List.set_cons_zero, List.set_cons_succ]
      refine ors_pure (v := ?_) (by rfl) ?_ ?_
      rotate_left
      · intro w' _; go_simp; try with_reducible rfl
      try simp only [Act.put, List.setIfInBounds_toArray, List.set_cons_zero, List.set_cons_succ]
      refine ors_pure (v := ?_) (by rfl) ?_ ?_
      rotate_left
      · intro w' _; go_simp; try with_reducible rfl
      try simp only [Act.put, List.setIfInBounds_toArray, List.set_cons_zero, List.set_cons_succ]
      refine ors_pure (v := ?_) (by rfl) ?_ ?_
      rotate_left
      · intro w' _; go_simp; try with_reducible rfl
      try simp only [Act.put, List.setIfInBounds_toArray, List.set_cons_zero, List.set_cons_succ]
      refine ors_pure (by rfl) (load_yield 24 (.tmp 7) (by rfl) _ (by rfl) 24 cx (fun _ h => h.1.2.1) _ Tryd.underlying24 rfl KX.out) ?_
      try simp only [Act.put, List.setIfInBounds_toArray, List.set_cons_zero, List.set_cons_succ]
      refine ors_pure (by rfl) (load_yield 24 (.tmp 8) (by rfl) _ (by rfl) 24 cy (fun _ h => h.1.2.2) _ Tryd.underlying24 rfl KY.out) ?_
      try simp only [Act.put, List.setIfInBounds_toArray, List.set_cons_zero, List.set_cons_succ]
      refine ors_pure (by rfl) (load_yield 23 (.tmp 3) (by rfl) _ (by rfl) 23 cx (fun _ h => h.1.1.1) _ Tryd.underlying23 rfl HX.out) ?_
      try simp only [Act.put, List.setIfInBounds_toArray, List.set_cons_zero, List.set_cons_succ]
      refine ors_pure (by rfl) (load_yield 23 (.tmp 4) (by rfl) _ (by rfl) 23 cy (fun _ h => h.1.1.2) _ Tryd.underlying23 rfl HY.out) ?_
      try simp only [Act.put, List.setIfInBounds_toArray, List.set_cons_zero, List.set_cons_succ]
      refine ors_pure (v := ?_) (by rfl) ?_ ?_
      rotate_left
      · intro w' _; go_simp; try with_reducible rfl
      try simp only [Act.put, List.setIfInBounds_toArray, List.set_cons_zero, List.set_cons_succ]
      refine ors_step (by rfl) (fun K hK => ?_)
      go_wp2_with fail
      with_reducible refine (X1.out _).mono ?_
      rintro e v14 ⟨rfl, hb⟩
      have s14 := s13.keep hb
      have b14 := b13.trans (hb.mono b13.size)
      clear hb b13
      go_wp2_with fail
      refine ⟨s14, ?_⟩
      clear s13
      try simp only [Act.put, List.setIfInBounds_toArray, List.set_cons_zero, List.set_cons_succ]
      refine ors_step (by rfl) (fun K hK => ?_)
      go_wp2_with fail
      with_reducible refine (Z1.out _).mono ?_
      rintro e v15 ⟨rfl, hb⟩
      have s15 := s14.keep hb
      have b15 := b14.trans (hb.mono b14.size)
      clear hb b14
      go_wp2_with fail
      refine ⟨s15, ?_⟩
      clear s14
      try simp only [Act.put, List.setIfInBounds_toArray, List.set_cons_zero, List.set_cons_succ]
      refine ors_pure (v := ?_) (by rfl) ?_ ?_
      rotate_left
      · intro w' _; go_simp; try with_reducible rfl
      try simp only [Act.put, List.setIfInBounds_toArray, List.set_cons_zero, List.set_cons_succ]
      refine ors_pure (v := ?_) (by rfl) ?_ ?_
      rotate_left
      · intro w' _; go_simp; try with_reducible rfl
      try simp only [Act.put, List.setIfInBounds_toArray, List.set_cons_zero, List.set_cons_succ]
      refine ors_pure (v := ?_) (by rfl) ?_ ?_
      rotate_left
      · intro w' _; go_simp; try with_reducible rfl
      try simp only [Act.put, List.setIfInBounds_toArray, List.set_cons_zero, List.set_cons_succ]
      refine ors_nil ?_
      go_wp2_with fail
      go_ret
      exact ⟨rfl, b15⟩
end Go.Proofs.YtpfckamobjcdhaaDoor
