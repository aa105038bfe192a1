/- The walk of the law SumOrder: it returns true, and writes nothing that was there. Conditions: the variables as laid; thirty-two bytes each. -/
import Derived.Test.YtlcclboiocodpaaDoorXors
import Derived.Test.YtlcclboiocodpaaDoorLess
import Derived.Test.YtlcclboiocodpaaDoorOrs
import Derived.Deep.DeepCutAuto
namespace Go.Proofs.YtlcclboiocodpaaDoor
open Go.RowKit
set_option maxHeartbeats 2000000 in
set_option maxRecDepth 100000 in
theorem order_any (x y z : List (BitVec 8)) (hx : x.length = 32) (hy : y.length = 32) (hz : z.length = 32) (w : World) (hL : Laid w) :
    Calls Tryd.prog 8 #[.agg (x.map u8v).toArray, .agg (y.map u8v).toArray, .agg (z.map u8v).toArray] w fun e w' => e = .returned (.bool true) ∧ Below w.heap.size w w' := by
  obtain ⟨cx, hcx⟩ : ∃ cx, cx = x.map u8v := ⟨_, rfl⟩
  obtain ⟨cy, hcy⟩ : ∃ cy, cy = y.map u8v := ⟨_, rfl⟩
  obtain ⟨cz, hcz⟩ : ∃ cz, cz = z.map u8v := ⟨_, rfl⟩
  rw [← hcx, ← hcy, ← hcz]
  have sz : ∀ (l : List (BitVec 8)), l.length = 32 → (Tryd.prog.info? 24).map (·.size) = some (l.map u8v).toArray.size := fun l hl => by rw [sum_info]; simp [hl]
  have i32 : (Tryd.prog.info? 23).map (·.size) = some 32 := by kernel_rfl
  have sr : ∀ (l : List (BitVec 8)), l.length = 32 → (Tryd.prog.info? 23).map (·.size) = some (l.map u8v).toArray.size := fun l hl => by rw [i32]; simp [hl]
  have HX : Hid ((Tryd.prog.info? 23).map (·.size) = some cx.toArray.size) := Lib.hid (by rw [hcx]; exact sr x hx)
  have KX : Hid ((Tryd.prog.info? 24).map (·.size) = some cx.toArray.size) := Lib.hid (by rw [hcx]; exact sz x hx)
  have OX : Hid (cx.toArray.all (·.oneCell') = true) := Lib.hid (by rw [hcx]; exact u8v_one x)
  have LX : Hid ((brow 32 []).toArray.size = cx.toArray.size) := Lib.hid (by rw [hcx]; simp [brow, hx])
  have HY : Hid ((Tryd.prog.info? 23).map (·.size) = some cy.toArray.size) := Lib.hid (by rw [hcy]; exact sr y hy)
  have KY : Hid ((Tryd.prog.info? 24).map (·.size) = some cy.toArray.size) := Lib.hid (by rw [hcy]; exact sz y hy)
  have OY : Hid (cy.toArray.all (·.oneCell') = true) := Lib.hid (by rw [hcy]; exact u8v_one y)
  have LY : Hid ((brow 32 []).toArray.size = cy.toArray.size) := Lib.hid (by rw [hcy]; simp [brow, hy])
  have HZ : Hid ((Tryd.prog.info? 23).map (·.size) = some cz.toArray.size) := Lib.hid (by rw [hcz]; exact sr z hz)
  have KZ : Hid ((Tryd.prog.info? 24).map (·.size) = some cz.toArray.size) := Lib.hid (by rw [hcz]; exact sz z hz)
  have OZ : Hid (cz.toArray.all (·.oneCell') = true) := Lib.hid (by rw [hcz]; exact u8v_one z)
  have LZ : Hid ((brow 32 []).toArray.size = cz.toArray.size) := Lib.hid (by rw [hcz]; simp [brow, hz])
  have Hcx := Lib.hid hcx
  have Hcy := Lib.hid hcy
  have Hcz := Lib.hid hcz
  have Hx := Lib.hid hx
  have Hy := Lib.hid hy
  have Hz := Lib.hid hz
  have HL := Lib.hid hL
  have hsz := hL.size
  clear hcx hcy hcz hx hy hz hL sz sr i32
  go_enter Tryd.func8, Tryd.ntmps8
  go_wp2_with fail
  generalize hw0 : ((w.alloc _).alloc _).alloc _ = w0
  have h0 : Three 23 w.heap.size (w.heap.size + 1) (w.heap.size + 2) cx cy cz w0 := by
    subst hw0
    refine ⟨((Has.made' _ _ _ _ rfl).alloc _).alloc _, (Has.made1 _ _ _ _ _ rfl).alloc _, ?_⟩
    have := Has.made' ((w.alloc (.cells cx.toArray 23)).alloc (.cells cy.toArray 23)) 23 _ cz rfl
    simpa using this
  have hB0 : Below w.heap.size w w0 := by
    subst hw0; exact (((Below.refl _ _).alloc (Nat.le_refl _) _).alloc (by simp) _).alloc (by simp; omega) _
  clear hw0
  refine (awake_any w0 (HL.out.keep hB0 hsz)).mono ?_
  rintro e w1 ⟨rfl, hb1⟩
  have h1 := h0.keep hb1
  have hB1 := hB0.trans (hb1.mono hB0.size)
  have hz1 : w.heap.size + 2 < w1.heap.size := h1.2.2.lt
  clear h0 hB0 hb1
  go_upto_region 3 with (fail)
  go_cut [7, 8, 9] (fun p q r wc => ∃ a b c, p = .pointer (some ⟨a, 0, none⟩) ∧ q = .pointer (some ⟨b, 0, none⟩) ∧ r = .pointer (some ⟨c, 0, none⟩) ∧ Three 24 a b c cx cy cz wc ∧ Below w.heap.size w wc)
  case first =>
    have s0 := h1.drew
    have hn : w1.drew.heap.size = w1.heap.size := rfl
    refine held_start (Three 23 w.heap.size (w.heap.size + 1) (w.heap.size + 2) cx cy cz) (by kernel_rfl) s0 ?_
    refine held_take 0 (by rfl) (by kernel_rfl) (by rfl) s0 (load_yield 23 (.tmp 3) (by rfl) _ (by rfl) 23 cx (fun _ h => h.1) _ Tryd.underlying23 rfl HX.out) ?_
    try simp only [Act.put, List.setIfInBounds_toArray, List.set_cons_zero, List.set_cons_succ]
    refine held_take 1 (by rfl) (by kernel_rfl) (by rfl) s0 (load_yield 23 (.tmp 4) (by rfl) _ (by rfl) 23 cy (fun _ h => h.2.1) _ Tryd.underlying23 rfl HY.out) ?_
    try simp only [Act.put, List.setIfInBounds_toArray, List.set_cons_zero, List.set_cons_succ]
    refine held_take 2 (by rfl) (by kernel_rfl) (by rfl) s0 (load_yield 23 (.tmp 5) (by rfl) _ (by rfl) 23 cz (fun _ h => h.2.2) _ Tryd.underlying23 rfl HZ.out) ?_
    try simp only [Act.put, List.setIfInBounds_toArray, List.set_cons_zero, List.set_cons_succ]
    refine held_three 3 4 5 (by rfl) (by rfl) (by rfl) (by kernel_rfl) (by rfl) (by rfl) (by rfl) (fun K hK => ?_) (fun K hK => ?_) (fun K hK => ?_)
    · go_wp2_with fail
      refine ⟨s0.alloc _, ?_⟩
      try simp only [Act.put, List.setIfInBounds_toArray, List.set_cons_zero, List.set_cons_succ]
      refine held_two 4 5 (by rfl) (by rfl) (by kernel_rfl) (by rfl) (by rfl) (fun K hK => ?_) (fun K hK => ?_)
      · go_wp2_with fail
        refine ⟨(s0.alloc _).alloc _, ?_⟩
        try simp only [Act.put, List.setIfInBounds_toArray, List.set_cons_zero, List.set_cons_succ]
        refine held_one 5 (by rfl) (by kernel_rfl) (by rfl) (fun K hK => ?_)
        go_wp2_with fail
        refine ⟨((s0.alloc _).alloc _).alloc _, ?_⟩
        try simp only [Act.put, List.setIfInBounds_toArray, List.set_cons_zero, List.set_cons_succ]
        generalize hW : World.drew _ = w3
        have zn : Has w3 w1.heap.size 24 (brow 32 []) ∧ Has w3 (w1.heap.size + 1) 24 (brow 32 []) ∧ Has w3 (w1.heap.size + 2) 24 (brow 32 []) ∧ Below w.heap.size w w3 ∧ Three 23 w.heap.size (w.heap.size + 1) (w.heap.size + 2) cx cy cz w3 := by subst hW; exact three_new w1 24 23 hB1 h1 hB1.size
        clear hW
        obtain ⟨z0, z1, z2, hB3, s3⟩ := zn
        refine held_one 6 (by rfl) (by kernel_rfl) (by rfl) (fun K hK => ?_)
        refine wp_store_row 24 (.tmp 7) (.tmp 17) (by rfl) w1.heap.size cx.toArray (by rfl) (by rfl) 24 _ z0 KX.out LX.out OX.out ?_
        refine hK _ _ ⟨(s3.row (g := w1.heap.size) (by omega) (by omega) (by omega) _), ?_⟩
        simp only [Act.put]
        refine held_one 7 (by rfl) (by kernel_rfl) (by rfl) (fun K hK => ?_)
        refine wp_store_row 24 (.tmp 8) (.tmp 18) (by rfl) (w1.heap.size + 1) cy.toArray (by rfl) (by rfl) 24 _ (z1.offRow (g' := w1.heap.size) (by omega) _) KY.out LY.out OY.out ?_
        refine hK _ _ ⟨((s3.row (g := w1.heap.size) (by omega) (by omega) (by omega) _).row (g := (w1.heap.size + 1)) (by omega) (by omega) (by omega) _), ?_⟩
        simp only [Act.put]
        refine held_one 8 (by rfl) (by kernel_rfl) (by rfl) (fun K hK => ?_)
        refine wp_store_row 24 (.tmp 9) (.tmp 19) (by rfl) (w1.heap.size + 2) cz.toArray (by rfl) (by rfl) 24 _ ((z2.offRow (g' := w1.heap.size) (by omega) _).offRow (g' := (w1.heap.size + 1)) (by omega) _) KZ.out LZ.out OZ.out ?_
        refine hK _ _ ⟨(((s3.row (g := w1.heap.size) (by omega) (by omega) (by omega) _).row (g := (w1.heap.size + 1)) (by omega) (by omega) (by omega) _).row (g := (w1.heap.size + 2)) (by omega) (by omega) (by omega) _), ?_⟩
        simp only [Act.put]
        refine held_done (by kernel_rfl) ?_
        go_wp2_with fail
        go_meet
        exact ⟨w1.heap.size, (w1.heap.size + 1), (w1.heap.size + 2), rfl, rfl, rfl, ⟨(((z0.rowl _).offRow (g' := (w1.heap.size + 1)) (by omega) _).offRow (g' := (w1.heap.size + 2)) (by omega) _), (((z1.offRow (g' := w1.heap.size) (by omega) _).rowl _).offRow (g' := (w1.heap.size + 2)) (by omega) _), (((z2.offRow (g' := w1.heap.size) (by omega) _).offRow (g' := (w1.heap.size + 1)) (by omega) _).rowl _)⟩, (below_row (below_row (below_row hB3 (g := w1.heap.size) (by omega) _) (g := (w1.heap.size + 1)) (by omega) _) (g := (w1.heap.size + 2)) (by omega) _)⟩
      · go_wp2_with fail
        refine ⟨(s0.alloc _).alloc _, ?_⟩
        try simp only [Act.put, List.setIfInBounds_toArray, List.set_cons_zero, List.set_cons_succ]
        refine held_one 4 (by rfl) (by kernel_rfl) (by rfl) (fun K hK => ?_)
        go_wp2_with fail
        refine ⟨((s0.alloc _).alloc _).alloc _, ?_⟩
        try simp only [Act.put, List.setIfInBounds_toArray, List.set_cons_zero, List.set_cons_succ]
        generalize hW : World.drew _ = w3
        have zn : Has w3 w1.heap.size 24 (brow 32 []) ∧ Has w3 (w1.heap.size + 1) 24 (brow 32 []) ∧ Has w3 (w1.heap.size + 2) 24 (brow 32 []) ∧ Below w.heap.size w w3 ∧ Three 23 w.heap.size (w.heap.size + 1) (w.heap.size + 2) cx cy cz w3 := by subst hW; exact three_new w1 24 23 hB1 h1 hB1.size
        clear hW
        obtain ⟨z0, z1, z2, hB3, s3⟩ := zn
        refine held_one 6 (by rfl) (by kernel_rfl) (by rfl) (fun K hK => ?_)
        refine wp_store_row 24 (.tmp 7) (.tmp 17) (by rfl) w1.heap.size cx.toArray (by rfl) (by rfl) 24 _ z0 KX.out LX.out OX.out ?_
        refine hK _ _ ⟨(s3.row (g := w1.heap.size) (by omega) (by omega) (by omega) _), ?_⟩
        simp only [Act.put]
        refine held_one 7 (by rfl) (by kernel_rfl) (by rfl) (fun K hK => ?_)
        refine wp_store_row 24 (.tmp 8) (.tmp 18) (by rfl) (w1.heap.size + 2) cy.toArray (by rfl) (by rfl) 24 _ (z2.offRow (g' := w1.heap.size) (by omega) _) KY.out LY.out OY.out ?_
        refine hK _ _ ⟨((s3.row (g := w1.heap.size) (by omega) (by omega) (by omega) _).row (g := (w1.heap.size + 2)) (by omega) (by omega) (by omega) _), ?_⟩
        simp only [Act.put]
        refine held_one 8 (by rfl) (by kernel_rfl) (by rfl) (fun K hK => ?_)
        refine wp_store_row 24 (.tmp 9) (.tmp 19) (by rfl) (w1.heap.size + 1) cz.toArray (by rfl) (by rfl) 24 _ ((z1.offRow (g' := w1.heap.size) (by omega) _).offRow (g' := (w1.heap.size + 2)) (by omega) _) KZ.out LZ.out OZ.out ?_
        refine hK _ _ ⟨(((s3.row (g := w1.heap.size) (by omega) (by omega) (by omega) _).row (g := (w1.heap.size + 2)) (by omega) (by omega) (by omega) _).row (g := (w1.heap.size + 1)) (by omega) (by omega) (by omega) _), ?_⟩
        simp only [Act.put]
        refine held_done (by kernel_rfl) ?_
        go_wp2_with fail
        go_meet
        exact ⟨w1.heap.size, (w1.heap.size + 2), (w1.heap.size + 1), rfl, rfl, rfl, ⟨(((z0.rowl _).offRow (g' := (w1.heap.size + 2)) (by omega) _).offRow (g' := (w1.heap.size + 1)) (by omega) _), (((z2.offRow (g' := w1.heap.size) (by omega) _).rowl _).offRow (g' := (w1.heap.size + 1)) (by omega) _), (((z1.offRow (g' := w1.heap.size) (by omega) _).offRow (g' := (w1.heap.size + 2)) (by omega) _).rowl _)⟩, (below_row (below_row (below_row hB3 (g := w1.heap.size) (by omega) _) (g := (w1.heap.size + 2)) (by omega) _) (g := (w1.heap.size + 1)) (by omega) _)⟩
    · go_wp2_with fail
      refine ⟨s0.alloc _, ?_⟩
      try simp only [Act.put, List.setIfInBounds_toArray, List.set_cons_zero, List.set_cons_succ]
      refine held_two 3 5 (by rfl) (by rfl) (by kernel_rfl) (by rfl) (by rfl) (fun K hK => ?_) (fun K hK => ?_)
      · go_wp2_with fail
        refine ⟨(s0.alloc _).alloc _, ?_⟩
        try simp only [Act.put, List.setIfInBounds_toArray, List.set_cons_zero, List.set_cons_succ]
        refine held_one 5 (by rfl) (by kernel_rfl) (by rfl) (fun K hK => ?_)
        go_wp2_with fail
        refine ⟨((s0.alloc _).alloc _).alloc _, ?_⟩
        try simp only [Act.put, List.setIfInBounds_toArray, List.set_cons_zero, List.set_cons_succ]
        generalize hW : World.drew _ = w3
        have zn : Has w3 w1.heap.size 24 (brow 32 []) ∧ Has w3 (w1.heap.size + 1) 24 (brow 32 []) ∧ Has w3 (w1.heap.size + 2) 24 (brow 32 []) ∧ Below w.heap.size w w3 ∧ Three 23 w.heap.size (w.heap.size + 1) (w.heap.size + 2) cx cy cz w3 := by subst hW; exact three_new w1 24 23 hB1 h1 hB1.size
        clear hW
        obtain ⟨z0, z1, z2, hB3, s3⟩ := zn
        refine held_one 6 (by rfl) (by kernel_rfl) (by rfl) (fun K hK => ?_)
        refine wp_store_row 24 (.tmp 7) (.tmp 17) (by rfl) (w1.heap.size + 1) cx.toArray (by rfl) (by rfl) 24 _ z1 KX.out LX.out OX.out ?_
        refine hK _ _ ⟨(s3.row (g := (w1.heap.size + 1)) (by omega) (by omega) (by omega) _), ?_⟩
        simp only [Act.put]
        refine held_one 7 (by rfl) (by kernel_rfl) (by rfl) (fun K hK => ?_)
        refine wp_store_row 24 (.tmp 8) (.tmp 18) (by rfl) w1.heap.size cy.toArray (by rfl) (by rfl) 24 _ (z0.offRow (g' := (w1.heap.size + 1)) (by omega) _) KY.out LY.out OY.out ?_
        refine hK _ _ ⟨((s3.row (g := (w1.heap.size + 1)) (by omega) (by omega) (by omega) _).row (g := w1.heap.size) (by omega) (by omega) (by omega) _), ?_⟩
        simp only [Act.put]
        refine held_one 8 (by rfl) (by kernel_rfl) (by rfl) (fun K hK => ?_)
        refine wp_store_row 24 (.tmp 9) (.tmp 19) (by rfl) (w1.heap.size + 2) cz.toArray (by rfl) (by rfl) 24 _ ((z2.offRow (g' := (w1.heap.size + 1)) (by omega) _).offRow (g' := w1.heap.size) (by omega) _) KZ.out LZ.out OZ.out ?_
        refine hK _ _ ⟨(((s3.row (g := (w1.heap.size + 1)) (by omega) (by omega) (by omega) _).row (g := w1.heap.size) (by omega) (by omega) (by omega) _).row (g := (w1.heap.size + 2)) (by omega) (by omega) (by omega) _), ?_⟩
        simp only [Act.put]
        refine held_done (by kernel_rfl) ?_
        go_wp2_with fail
        go_meet
        exact ⟨(w1.heap.size + 1), w1.heap.size, (w1.heap.size + 2), rfl, rfl, rfl, ⟨(((z1.rowl _).offRow (g' := w1.heap.size) (by omega) _).offRow (g' := (w1.heap.size + 2)) (by omega) _), (((z0.offRow (g' := (w1.heap.size + 1)) (by omega) _).rowl _).offRow (g' := (w1.heap.size + 2)) (by omega) _), (((z2.offRow (g' := (w1.heap.size + 1)) (by omega) _).offRow (g' := w1.heap.size) (by omega) _).rowl _)⟩, (below_row (below_row (below_row hB3 (g := (w1.heap.size + 1)) (by omega) _) (g := w1.heap.size) (by omega) _) (g := (w1.heap.size + 2)) (by omega) _)⟩
      · go_wp2_with fail
        refine ⟨(s0.alloc _).alloc _, ?_⟩
        try simp only [Act.put, List.setIfInBounds_toArray, List.set_cons_zero, List.set_cons_succ]
        refine held_one 3 (by rfl) (by kernel_rfl) (by rfl) (fun K hK => ?_)
        go_wp2_with fail
        refine ⟨((s0.alloc _).alloc _).alloc _, ?_⟩
        try simp only [Act.put, List.setIfInBounds_toArray, List.set_cons_zero, List.set_cons_succ]
        generalize hW : World.drew _ = w3
        have zn : Has w3 w1.heap.size 24 (brow 32 []) ∧ Has w3 (w1.heap.size + 1) 24 (brow 32 []) ∧ Has w3 (w1.heap.size + 2) 24 (brow 32 []) ∧ Below w.heap.size w w3 ∧ Three 23 w.heap.size (w.heap.size + 1) (w.heap.size + 2) cx cy cz w3 := by subst hW; exact three_new w1 24 23 hB1 h1 hB1.size
        clear hW
        obtain ⟨z0, z1, z2, hB3, s3⟩ := zn
        refine held_one 6 (by rfl) (by kernel_rfl) (by rfl) (fun K hK => ?_)
        refine wp_store_row 24 (.tmp 7) (.tmp 17) (by rfl) (w1.heap.size + 2) cx.toArray (by rfl) (by rfl) 24 _ z2 KX.out LX.out OX.out ?_
        refine hK _ _ ⟨(s3.row (g := (w1.heap.size + 2)) (by omega) (by omega) (by omega) _), ?_⟩
        simp only [Act.put]
        refine held_one 7 (by rfl) (by kernel_rfl) (by rfl) (fun K hK => ?_)
        refine wp_store_row 24 (.tmp 8) (.tmp 18) (by rfl) w1.heap.size cy.toArray (by rfl) (by rfl) 24 _ (z0.offRow (g' := (w1.heap.size + 2)) (by omega) _) KY.out LY.out OY.out ?_
        refine hK _ _ ⟨((s3.row (g := (w1.heap.size + 2)) (by omega) (by omega) (by omega) _).row (g := w1.heap.size) (by omega) (by omega) (by omega) _), ?_⟩
        simp only [Act.put]
        refine held_one 8 (by rfl) (by kernel_rfl) (by rfl) (fun K hK => ?_)
        refine wp_store_row 24 (.tmp 9) (.tmp 19) (by rfl) (w1.heap.size + 1) cz.toArray (by rfl) (by rfl) 24 _ ((z1.offRow (g' := (w1.heap.size + 2)) (by omega) _).offRow (g' := w1.heap.size) (by omega) _) KZ.out LZ.out OZ.out ?_
        refine hK _ _ ⟨(((s3.row (g := (w1.heap.size + 2)) (by omega) (by omega) (by omega) _).row (g := w1.heap.size) (by omega) (by omega) (by omega) _).row (g := (w1.heap.size + 1)) (by omega) (by omega) (by omega) _), ?_⟩
        simp only [Act.put]
        refine held_done (by kernel_rfl) ?_
        go_wp2_with fail
        go_meet
        exact ⟨(w1.heap.size + 2), w1.heap.size, (w1.heap.size + 1), rfl, rfl, rfl, ⟨(((z2.rowl _).offRow (g' := w1.heap.size) (by omega) _).offRow (g' := (w1.heap.size + 1)) (by omega) _), (((z0.offRow (g' := (w1.heap.size + 2)) (by omega) _).rowl _).offRow (g' := (w1.heap.size + 1)) (by omega) _), (((z1.offRow (g' := (w1.heap.size + 2)) (by omega) _).offRow (g' := w1.heap.size) (by omega) _).rowl _)⟩, (below_row (below_row (below_row hB3 (g := (w1.heap.size + 2)) (by omega) _) (g := w1.heap.size) (by omega) _) (g := (w1.heap.size + 1)) (by omega) _)⟩
    · go_wp2_with fail
      refine ⟨s0.alloc _, ?_⟩
      try simp only [Act.put, List.setIfInBounds_toArray, List.set_cons_zero, List.set_cons_succ]
      refine held_two 3 4 (by rfl) (by rfl) (by kernel_rfl) (by rfl) (by rfl) (fun K hK => ?_) (fun K hK => ?_)
      · go_wp2_with fail
        refine ⟨(s0.alloc _).alloc _, ?_⟩
        try simp only [Act.put, List.setIfInBounds_toArray, List.set_cons_zero, List.set_cons_succ]
        refine held_one 4 (by rfl) (by kernel_rfl) (by rfl) (fun K hK => ?_)
        go_wp2_with fail
        refine ⟨((s0.alloc _).alloc _).alloc _, ?_⟩
        try simp only [Act.put, List.setIfInBounds_toArray, List.set_cons_zero, List.set_cons_succ]
        generalize hW : World.drew _ = w3
        have zn : Has w3 w1.heap.size 24 (brow 32 []) ∧ Has w3 (w1.heap.size + 1) 24 (brow 32 []) ∧ Has w3 (w1.heap.size + 2) 24 (brow 32 []) ∧ Below w.heap.size w w3 ∧ Three 23 w.heap.size (w.heap.size + 1) (w.heap.size + 2) cx cy cz w3 := by subst hW; exact three_new w1 24 23 hB1 h1 hB1.size
        clear hW
        obtain ⟨z0, z1, z2, hB3, s3⟩ := zn
        refine held_one 6 (by rfl) (by kernel_rfl) (by rfl) (fun K hK => ?_)
        refine wp_store_row 24 (.tmp 7) (.tmp 17) (by rfl) (w1.heap.size + 1) cx.toArray (by rfl) (by rfl) 24 _ z1 KX.out LX.out OX.out ?_
        refine hK _ _ ⟨(s3.row (g := (w1.heap.size + 1)) (by omega) (by omega) (by omega) _), ?_⟩
        simp only [Act.put]
        refine held_one 7 (by rfl) (by kernel_rfl) (by rfl) (fun K hK => ?_)
        refine wp_store_row 24 (.tmp 8) (.tmp 18) (by rfl) (w1.heap.size + 2) cy.toArray (by rfl) (by rfl) 24 _ (z2.offRow (g' := (w1.heap.size + 1)) (by omega) _) KY.out LY.out OY.out ?_
        refine hK _ _ ⟨((s3.row (g := (w1.heap.size + 1)) (by omega) (by omega) (by omega) _).row (g := (w1.heap.size + 2)) (by omega) (by omega) (by omega) _), ?_⟩
        simp only [Act.put]
        refine held_one 8 (by rfl) (by kernel_rfl) (by rfl) (fun K hK => ?_)
        refine wp_store_row 24 (.tmp 9) (.tmp 19) (by rfl) w1.heap.size cz.toArray (by rfl) (by rfl) 24 _ ((z0.offRow (g' := (w1.heap.size + 1)) (by omega) _).offRow (g' := (w1.heap.size + 2)) (by omega) _) KZ.out LZ.out OZ.out ?_
        refine hK _ _ ⟨(((s3.row (g := (w1.heap.size + 1)) (by omega) (by omega) (by omega) _).row (g := (w1.heap.size + 2)) (by omega) (by omega) (by omega) _).row (g := w1.heap.size) (by omega) (by omega) (by omega) _), ?_⟩
        simp only [Act.put]
        refine held_done (by kernel_rfl) ?_
        go_wp2_with fail
        go_meet
        exact ⟨(w1.heap.size + 1), (w1.heap.size + 2), w1.heap.size, rfl, rfl, rfl, ⟨(((z1.rowl _).offRow (g' := (w1.heap.size + 2)) (by omega) _).offRow (g' := w1.heap.size) (by omega) _), (((z2.offRow (g' := (w1.heap.size + 1)) (by omega) _).rowl _).offRow (g' := w1.heap.size) (by omega) _), (((z0.offRow (g' := (w1.heap.size + 1)) (by omega) _).offRow (g' := (w1.heap.size + 2)) (by omega) _).rowl _)⟩, (below_row (below_row (below_row hB3 (g := (w1.heap.size + 1)) (by omega) _) (g := (w1.heap.size + 2)) (by omega) _) (g := w1.heap.size) (by omega) _)⟩
      · go_wp2_with fail
        refine ⟨(s0.alloc _).alloc _, ?_⟩
        try simp only [Act.put, List.setIfInBounds_toArray, List.set_cons_zero, List.set_cons_succ]
        refine held_one 3 (by rfl) (by kernel_rfl) (by rfl) (fun K hK => ?_)
        go_wp2_with fail
        refine ⟨((s0.alloc _).alloc _).alloc _, ?_⟩
        try simp only [Act.put, List.setIfInBounds_toArray, List.set_cons_zero, List.set_cons_succ]
        generalize hW : World.drew _ = w3
        have zn : Has w3 w1.heap.size 24 (brow 32 []) ∧ Has w3 (w1.heap.size + 1) 24 (brow 32 []) ∧ Has w3 (w1.heap.size + 2) 24 (brow 32 []) ∧ Below w.heap.size w w3 ∧ Three 23 w.heap.size (w.heap.size + 1) (w.heap.size + 2) cx cy cz w3 := by subst hW; exact three_new w1 24 23 hB1 h1 hB1.size
        clear hW
        obtain ⟨z0, z1, z2, hB3, s3⟩ := zn
        refine held_one 6 (by rfl) (by kernel_rfl) (by rfl) (fun K hK => ?_)
        refine wp_store_row 24 (.tmp 7) (.tmp 17) (by rfl) (w1.heap.size + 2) cx.toArray (by rfl) (by rfl) 24 _ z2 KX.out LX.out OX.out ?_
        refine hK _ _ ⟨(s3.row (g := (w1.heap.size + 2)) (by omega) (by omega) (by omega) _), ?_⟩
        simp only [Act.put]
        refine held_one 7 (by rfl) (by kernel_rfl) (by rfl) (fun K hK => ?_)
        refine wp_store_row 24 (.tmp 8) (.tmp 18) (by rfl) (w1.heap.size + 1) cy.toArray (by rfl) (by rfl) 24 _ (z1.offRow (g' := (w1.heap.size + 2)) (by omega) _) KY.out LY.out OY.out ?_
        refine hK _ _ ⟨((s3.row (g := (w1.heap.size + 2)) (by omega) (by omega) (by omega) _).row (g := (w1.heap.size + 1)) (by omega) (by omega) (by omega) _), ?_⟩
        simp only [Act.put]
        refine held_one 8 (by rfl) (by kernel_rfl) (by rfl) (fun K hK => ?_)
        refine wp_store_row 24 (.tmp 9) (.tmp 19) (by rfl) w1.heap.size cz.toArray (by rfl) (by rfl) 24 _ ((z0.offRow (g' := (w1.heap.size + 2)) (by omega) _).offRow (g' := (w1.heap.size + 1)) (by omega) _) KZ.out LZ.out OZ.out ?_
        refine hK _ _ ⟨(((s3.row (g := (w1.heap.size + 2)) (by omega) (by omega) (by omega) _).row (g := (w1.heap.size + 1)) (by omega) (by omega) (by omega) _).row (g := w1.heap.size) (by omega) (by omega) (by omega) _), ?_⟩
        simp only [Act.put]
        refine held_done (by kernel_rfl) ?_
        go_wp2_with fail
        go_meet
        exact ⟨(w1.heap.size + 2), (w1.heap.size + 1), w1.heap.size, rfl, rfl, rfl, ⟨(((z2.rowl _).offRow (g' := (w1.heap.size + 1)) (by omega) _).offRow (g' := w1.heap.size) (by omega) _), (((z1.offRow (g' := (w1.heap.size + 2)) (by omega) _).rowl _).offRow (g' := w1.heap.size) (by omega) _), (((z0.offRow (g' := (w1.heap.size + 2)) (by omega) _).offRow (g' := (w1.heap.size + 1)) (by omega) _).rowl _)⟩, (below_row (below_row (below_row hB3 (g := (w1.heap.size + 2)) (by omega) _) (g := (w1.heap.size + 1)) (by omega) _) (g := w1.heap.size) (by omega) _)⟩
  case rest =>
    obtain ⟨a, b, c, rfl, rfl, rfl, hT, hB⟩ := hcut
    clear h1 hB1 hz1
    have lx := Hx.out
    have ly := Hy.out
    have lz := Hz.out
    have C1 : Hid (∀ w, Calls Tryd.prog 15 #[.agg cx.toArray, .agg cy.toArray] w fun e w' => e = .returned (.int .i64 (cmpL x y)) ∧ Below w.heap.size w w') := Lib.hid fun w => by
      rw [Hcx.out, Hcy.out]; exact cmp_any x y lx ly w
    have C2 : Hid (∀ w, Calls Tryd.prog 15 #[.agg cy.toArray, .agg cz.toArray] w fun e w' => e = .returned (.int .i64 (cmpL y z)) ∧ Below w.heap.size w w') := Lib.hid fun w => by
      rw [Hcy.out, Hcz.out]; exact cmp_any y z ly lz w
    have C3 : Hid (∀ w, Calls Tryd.prog 15 #[.agg cx.toArray, .agg cz.toArray] w fun e w' => e = .returned (.int .i64 (cmpL x z)) ∧ Below w.heap.size w w') := Lib.hid fun w => by
      rw [Hcx.out, Hcz.out]; exact cmp_any x z lx lz w
    have W1 : Hid (∀ (i : Int) w, Calls Tryd.prog 14 #[.agg cx.toArray, .int .i64 i] w fun e w' => e = .returned (.int .u64 (M (wordOf x i))) ∧ Below w.heap.size w w') := Lib.hid fun i w => by
      rw [Hcx.out]; exact word_any x lx i w
    have W2 : Hid (∀ (i : Int) w, Calls Tryd.prog 14 #[.agg cy.toArray, .int .i64 i] w fun e w' => e = .returned (.int .u64 (M (wordOf y i))) ∧ Below w.heap.size w w') := Lib.hid fun i w => by
      rw [Hcy.out]; exact word_any y ly i w
    have T1 : Hid (∀ w, Calls Tryd.prog 12 #[.agg cx.toArray] w fun e w' => e = .returned (.string (strB (textOf x))) ∧ Below w.heap.size w w') := Lib.hid fun w => by
      rw [Hcx.out]; exact text_any x lx w
    have T2 : Hid (∀ w, Calls Tryd.prog 12 #[.agg cy.toArray] w fun e w' => e = .returned (.string (strB (textOf y))) ∧ Below w.heap.size w w') := Lib.hid fun w => by
      rw [Hcy.out]; exact text_any y ly w
    have E1 : ∀ w' : World, (binOp .eql 24 (.agg cx.toArray) (.agg cy.toArray)).run Tryd.prog w' = .ok (.bool (decide (x = y))) w' := fun w' => by
      have := arr_eql 24 Tryd.underlying24 _ _ lx ly w'
      rw [← Hcx.out, ← Hcy.out] at this
      exact this
    have L1 : Hid _ := Lib.hid (str_less x y (by rw [lx, ly]))
    have we := Lib.hid (words_eq x y lx ly)
    have vp := cmpL_vals x y
    have vq := cmpL_vals y z
    have vr := cmpL_vals x z
    have tr := Lib.hid (cmpL_trans x y z (by rw [lx, ly]) (by rw [ly, lz]))
    clear lx ly lz
    generalize cmpL x y = p at *
    generalize cmpL y z = q at *
    generalize cmpL x z = r at *
    have s0 := hT.drew
    have b0 := hB.drew
    clear hT hB
    go_wp2_with fail
    refine wp_region_ors (Three 24 a b c cx cy cz) [(0, true), (1, true), (3, true), (4, true), (6, true), (7, true), (2, false), (5, false), (8, false), (9, true), (10, true), (11, true)] (by kernel_rfl) (by kernel_rfl) (by kernel_rfl) s0 ?_
    simp only [pickOrs, List.getElem?_cons_zero, List.getElem?_cons_succ]
    generalize wc.drew = v0 at *
    refine ors_pure (by rfl) (load_yield 24 (.tmp 7) (by rfl) _ (by rfl) 24 cx (fun _ h => h.1) _ Tryd.underlying24 rfl KX.out) ?_
    try simp only [Act.put, List.setIfInBounds_toArray, List.set_cons_zero, List.set_cons_succ]
    refine ors_pure (by rfl) (load_yield 24 (.tmp 8) (by rfl) _ (by rfl) 24 cy (fun _ h => h.2.1) _ Tryd.underlying24 rfl KY.out) ?_
    try simp only [Act.put, List.setIfInBounds_toArray, List.set_cons_zero, List.set_cons_succ]
    refine ors_pure (by rfl) (load_yield 24 (.tmp 8) (by rfl) _ (by rfl) 24 cy (fun _ h => h.2.1) _ Tryd.underlying24 rfl KY.out) ?_
    try simp only [Act.put, List.setIfInBounds_toArray, List.set_cons_zero, List.set_cons_succ]
    refine ors_pure (by rfl) (load_yield 24 (.tmp 9) (by rfl) _ (by rfl) 24 cz (fun _ h => h.2.2) _ Tryd.underlying24 rfl KZ.out) ?_
    try simp only [Act.put, List.setIfInBounds_toArray, List.set_cons_zero, List.set_cons_succ]
    refine ors_pure (by rfl) (load_yield 24 (.tmp 7) (by rfl) _ (by rfl) 24 cx (fun _ h => h.1) _ Tryd.underlying24 rfl KX.out) ?_
    try simp only [Act.put, List.setIfInBounds_toArray, List.set_cons_zero, List.set_cons_succ]
    refine ors_pure (by rfl) (load_yield 24 (.tmp 9) (by rfl) _ (by rfl) 24 cz (fun _ h => h.2.2) _ Tryd.underlying24 rfl KZ.out) ?_
    try simp only [Act.put, List.setIfInBounds_toArray, List.set_cons_zero, List.set_cons_succ]
    refine ors_step (by rfl) (fun K hK => ?_)
    go_wp2_with fail
    refine (C1.out _).mono ?_
    rintro e v1 ⟨rfl, hb⟩
    have s1 := s0.keep hb
    have b1 := b0.trans (hb.mono b0.size)
    clear hb b0
    go_wp2_with fail
    refine ⟨s1, ?_⟩
    clear s0
    try simp only [Act.put, List.setIfInBounds_toArray, List.set_cons_zero, List.set_cons_succ]
    refine ors_step (by rfl) (fun K hK => ?_)
    go_wp2_with fail
    refine (C2.out _).mono ?_
    rintro e v2 ⟨rfl, hb⟩
    have s2 := s1.keep hb
    have b2 := b1.trans (hb.mono b1.size)
    clear hb b1
    go_wp2_with fail
    refine ⟨s2, ?_⟩
    clear s1
    try simp only [Act.put, List.setIfInBounds_toArray, List.set_cons_zero, List.set_cons_succ]
    refine ors_step (by rfl) (fun K hK => ?_)
    go_wp2_with fail
    refine (C3.out _).mono ?_
    rintro e v3 ⟨rfl, hb⟩
    have s3 := s2.keep hb
    have b3 := b2.trans (hb.mono b2.size)
    clear hb b2
    go_wp2_with fail
    refine ⟨s3, ?_⟩
    clear s2
    try simp only [Act.put, List.setIfInBounds_toArray, List.set_cons_zero, List.set_cons_succ]
    refine ors_pure (v := ?_) (by rfl) ?_ ?_
    rotate_left
    · intro w' _; go_simp; try with_reducible rfl
    try simp only [Act.put, List.setIfInBounds_toArray, List.set_cons_zero, List.set_cons_succ]
    refine ors_pure (v := ?_) (by rfl) ?_ ?_
    rotate_left
    · intro w' _; go_simp; try with_reducible rfl
    try simp only [Act.put, List.setIfInBounds_toArray, List.set_cons_zero, List.set_cons_succ]
    refine ors_pure (v := ?_) (by rfl) ?_ ?_
    rotate_left
    · intro w' _; go_simp; try with_reducible rfl
    try simp only [Act.put, List.setIfInBounds_toArray, List.set_cons_zero, List.set_cons_succ]
    refine ors_nil ?_
    go_wp2_with fail
    clear C1 C2 C3
    go_loopw [13, 14] (fun sm i wr => ∃ k : Nat, k ≤ 4 ∧ i = .int .i64 k ∧ sm = .bool (decide (∀ j : Nat, j < k → wordOf x j = wordOf y j)) ∧ Three 24 a b c cx cy cz wr ∧ Below w.heap.size w wr)
      (fun _ i _ => 4 - (intOf i).toNat)
    case atStart => exact ⟨0, by omega, rfl, by simp, s3, b3⟩
    case round =>
      clear s3 b3
      rename_i wr
      obtain ⟨k, hk, rfl, rfl, hT, hB⟩ := hrel
      by_cases hlt : k < 4
      · have k1 : (k : Int) < 4 := by omega
        obtain ⟨sm, hsm⟩ : ∃ sm, sm = decide (∀ j : Nat, j < k → wordOf x j = wordOf y j) := ⟨_, rfl⟩
        have Hsm := Lib.hid hsm
        rw [← hsm]
        clear hsm
        have s0 := hT.drew
        have b0 := hB.drew
        clear hT hB
        cases sm with
        | true =>
          go_wp2_with fail
          refine wp_region_ors (Three 24 a b c cx cy cz) [(0, true), (1, true), (2, true), (3, true), (5, true), (6, true), (4, false), (7, false), (8, true), (9, true), (10, true)] (by kernel_rfl) (by kernel_rfl) (by kernel_rfl) s0 ?_
          simp only [pickOrs, List.getElem?_cons_zero, List.getElem?_cons_succ]
          generalize wr.drew = v0 at *
          refine ors_pure (v := ?_) (by rfl) ?_ ?_
          rotate_left
          · intro w' _; go_simp; try with_reducible rfl
          try simp only [Act.put, List.setIfInBounds_toArray, List.set_cons_zero, List.set_cons_succ]
          refine ors_pure (v := ?_) (by rfl) ?_ ?_
          rotate_left
          · intro w' _; go_simp; try with_reducible rfl
          try simp only [Act.put, List.setIfInBounds_toArray, List.set_cons_zero, List.set_cons_succ]
          refine ors_pure (by rfl) (load_yield 24 (.tmp 7) (by rfl) _ (by rfl) 24 cx (fun _ h => h.1) _ Tryd.underlying24 rfl KX.out) ?_
          try simp only [Act.put, List.setIfInBounds_toArray, List.set_cons_zero, List.set_cons_succ]
          refine ors_pure (v := ?_) (by rfl) ?_ ?_
          rotate_left
          · intro w' _; go_simp; try with_reducible rfl
          try simp only [Act.put, List.setIfInBounds_toArray, List.set_cons_zero, List.set_cons_succ]
          refine ors_pure (by rfl) (load_yield 24 (.tmp 8) (by rfl) _ (by rfl) 24 cy (fun _ h => h.2.1) _ Tryd.underlying24 rfl KY.out) ?_
          try simp only [Act.put, List.setIfInBounds_toArray, List.set_cons_zero, List.set_cons_succ]
          refine ors_pure (v := ?_) (by rfl) ?_ ?_
          rotate_left
          · intro w' _; go_simp; try with_reducible rfl
          try simp only [Act.put, List.setIfInBounds_toArray, List.set_cons_zero, List.set_cons_succ]
          refine ors_step (by rfl) (fun K hK => ?_)
          go_wp2_with fail
          refine (W1.out _ _).mono ?_
          rintro e v1 ⟨rfl, hb⟩
          have s1 := s0.keep hb
          have b1 := b0.trans (hb.mono b0.size)
          clear hb b0
          go_wp2_with fail
          refine ⟨s1, ?_⟩
          clear s0
          try simp only [Act.put, List.setIfInBounds_toArray, List.set_cons_zero, List.set_cons_succ]
          refine ors_step (by rfl) (fun K hK => ?_)
          go_wp2_with fail
          refine (W2.out _ _).mono ?_
          rintro e v2 ⟨rfl, hb⟩
          have s2 := s1.keep hb
          have b2 := b1.trans (hb.mono b1.size)
          clear hb b1
          go_wp2_with fail
          refine ⟨s2, ?_⟩
          clear s1
          try simp only [Act.put, List.setIfInBounds_toArray, List.set_cons_zero, List.set_cons_succ]
          refine ors_pure (v := ?_) (by rfl) ?_ ?_
          rotate_left
          · intro w' _; go_simp; try with_reducible rfl
          try simp only [Act.put, List.setIfInBounds_toArray, List.set_cons_zero, List.set_cons_succ]
          refine ors_pure (v := ?_) (by rfl) ?_ ?_
          rotate_left
          · intro w' _; go_simp; try with_reducible rfl
          try simp only [Act.put, List.setIfInBounds_toArray, List.set_cons_zero, List.set_cons_succ]
          refine ors_pure (v := ?_) (by rfl) ?_ ?_
          rotate_left
          · intro w' _; go_simp; try with_reducible rfl
          try simp only [Act.put, List.setIfInBounds_toArray, List.set_cons_zero, List.set_cons_succ]
          refine ors_nil ?_
          go_wp2_with fail
          have hd : (M (wordOf x k) == M (wordOf y k)) = decide (∀ j : Nat, j < k + 1 → wordOf x j = wordOf y j) := by
            have ha : ∀ j : Nat, j < k → wordOf x j = wordOf y j := of_decide_eq_true Hsm.out.symm
            rw [Bool.eq_iff_iff, beq_iff_eq, decide_eq_true_eq]
            refine ⟨fun h j hj => ?_, fun h => by rw [h k (by omega)]⟩
            by_cases hjk : j = k
            · subst hjk; exact M_inj h
            · exact ha j (by omega)
          have Hd := Lib.hid hd
          clear hd
          go_roundw
          case rel => exact ⟨k + 1, by omega, by go_num, congrArg Value.bool Hd.out, s2, b2⟩
          case measure => simp [intOf]; omega
        | false =>
          go_wp2_with fail
          refine wp_region_ors (Three 24 a b c cx cy cz) [(0, true), (1, true), (2, true), (3, true), (5, true), (6, true), (4, false), (7, false), (8, true), (9, true), (10, true)] (by kernel_rfl) (by kernel_rfl) (by kernel_rfl) s0 ?_
          simp only [pickOrs, List.getElem?_cons_zero, List.getElem?_cons_succ]
          generalize wr.drew = v0 at *
          refine ors_pure (v := ?_) (by rfl) ?_ ?_
          rotate_left
          · intro w' _; go_simp; try with_reducible rfl
          try simp only [Act.put, List.setIfInBounds_toArray, List.set_cons_zero, List.set_cons_succ]
          refine ors_pure (v := ?_) (by rfl) ?_ ?_
          rotate_left
          · intro w' _; go_simp; try with_reducible rfl
          try simp only [Act.put, List.setIfInBounds_toArray, List.set_cons_zero, List.set_cons_succ]
          refine ors_skip (by rfl) ?_
          try simp only [Act.put, List.setIfInBounds_toArray, List.set_cons_zero, List.set_cons_succ]
          refine ors_skip (by rfl) ?_
          try simp only [Act.put, List.setIfInBounds_toArray, List.set_cons_zero, List.set_cons_succ]
          refine ors_skip (by rfl) ?_
          try simp only [Act.put, List.setIfInBounds_toArray, List.set_cons_zero, List.set_cons_succ]
          refine ors_skip (by rfl) ?_
          try simp only [Act.put, List.setIfInBounds_toArray, List.set_cons_zero, List.set_cons_succ]
          refine ors_pass (by rfl) s0 ?_
          try simp only [Act.put, List.setIfInBounds_toArray, List.set_cons_zero, List.set_cons_succ]
          refine ors_pass (by rfl) s0 ?_
          try simp only [Act.put, List.setIfInBounds_toArray, List.set_cons_zero, List.set_cons_succ]
          refine ors_skip (by rfl) ?_
          try simp only [Act.put, List.setIfInBounds_toArray, List.set_cons_zero, List.set_cons_succ]
          refine ors_pure (v := ?_) (by rfl) ?_ ?_
          rotate_left
          · intro w' _; go_simp; try with_reducible rfl
          try simp only [Act.put, List.setIfInBounds_toArray, List.set_cons_zero, List.set_cons_succ]
          refine ors_pure (v := ?_) (by rfl) ?_ ?_
          rotate_left
          · intro w' _; go_simp; try with_reducible rfl
          try simp only [Act.put, List.setIfInBounds_toArray, List.set_cons_zero, List.set_cons_succ]
          refine ors_nil ?_
          go_wp2_with fail
          have hd : false = decide (∀ j : Nat, j < k + 1 → wordOf x j = wordOf y j) := by
            have ha : ¬ ∀ j : Nat, j < k → wordOf x j = wordOf y j := of_decide_eq_false Hsm.out.symm
            exact (decide_eq_false (fun h => ha fun j hj => h j (by omega))).symm
          have Hd := Lib.hid hd
          clear hd
          go_roundw
          case rel => exact ⟨k + 1, by omega, by go_num, congrArg Value.bool Hd.out, s0, b0⟩
          case measure => simp [intOf]; omega
      · have : k = 4 := by omega
        subst this
        have hw : decide (∀ j : Nat, j < 4 → wordOf x j = wordOf y j) = decide (x = y) := by
          rw [Bool.eq_iff_iff, decide_eq_true_eq, decide_eq_true_eq]; exact we.out
        rw [hw]
        clear hw hlt hk
        generalize decide (x = y) = bb at *
        generalize strB (textOf x) = sx at *
        generalize strB (textOf y) = sy at *
        have t1 := tr.out
        have s0 := hT.drew
        have b0 := hB.drew
        clear hT hB tr
        go_wp2_with fail
        refine wp_region_ors (Three 24 a b c cx cy cz) [(0, true), (1, true), (2, true), (3, true), (4, true), (5, true), (6, true), (7, true), (8, true), (9, true), (10, true), (11, true), (12, true), (13, true), (14, true), (15, true), (16, true), (17, true), (18, true), (19, true), (20, true), (21, true), (22, true), (23, true), (24, true), (25, true), (26, true), (27, true), (28, true), (29, true), (30, true), (32, true), (35, true), (36, true), (31, false), (33, false), (34, true), (37, true), (38, true), (39, true)] (by kernel_rfl) (by kernel_rfl) (by kernel_rfl) s0 ?_
        simp only [pickOrs, List.getElem?_cons_zero, List.getElem?_cons_succ]
        generalize wr.drew = v0 at *
        rcases vp with rfl | rfl | rfl <;> rcases vq with rfl | rfl | rfl <;> rcases vr with rfl | rfl | rfl <;> first | (exfalso; omega) | skip
        all_goals
          clear t1
          refine ors_pure (v := ?_) (by rfl) ?_ ?_
          rotate_left
          · intro w' _; go_simp; try with_reducible rfl
          try simp only [Act.put, List.setIfInBounds_toArray, List.set_cons_zero, List.set_cons_succ]
          refine ors_pure (v := ?_) (by rfl) ?_ ?_
          rotate_left
          · intro w' _; go_simp; try with_reducible rfl
          try simp only [Act.put, List.setIfInBounds_toArray, List.set_cons_zero, List.set_cons_succ]
          refine ors_pure (v := ?_) (by rfl) ?_ ?_
          rotate_left
          · intro w' _; go_simp; try with_reducible rfl
          try simp only [Act.put, List.setIfInBounds_toArray, List.set_cons_zero, List.set_cons_succ]
          first | (refine ors_skip (by rfl) ?_) | (refine ors_pure (v := ?_) (by rfl) ?_ ?_; rotate_left; (· intro w' _; go_simp; try with_reducible rfl))
          try simp only [Act.put, List.setIfInBounds_toArray, List.set_cons_zero, List.set_cons_succ]
          first | (refine ors_skip (by rfl) ?_) | (refine ors_pure (v := ?_) (by rfl) ?_ ?_; rotate_left; (· intro w' _; go_simp; try with_reducible rfl))
          try simp only [Act.put, List.setIfInBounds_toArray, List.set_cons_zero, List.set_cons_succ]
          refine ors_pure (v := ?_) (by rfl) ?_ ?_
          rotate_left
          · intro w' _; go_simp; try with_reducible rfl
          try simp only [Act.put, List.setIfInBounds_toArray, List.set_cons_zero, List.set_cons_succ]
          refine ors_pure (v := ?_) (by rfl) ?_ ?_
          rotate_left
          · intro w' _; go_simp; try with_reducible rfl
          try simp only [Act.put, List.setIfInBounds_toArray, List.set_cons_zero, List.set_cons_succ]
          first | (refine ors_skip (by rfl) ?_) | (refine ors_pure (v := ?_) (by rfl) ?_ ?_; rotate_left; (· intro w' _; go_simp; try with_reducible rfl))
          try simp only [Act.put, List.setIfInBounds_toArray, List.set_cons_zero, List.set_cons_succ]
          first | (refine ors_skip (by rfl) ?_) | (refine ors_pure (v := ?_) (by rfl) ?_ ?_; rotate_left; (· intro w' _; go_simp; try with_reducible rfl))
          try simp only [Act.put, List.setIfInBounds_toArray, List.set_cons_zero, List.set_cons_succ]
          refine ors_pure (v := ?_) (by rfl) ?_ ?_
          rotate_left
          · intro w' _; go_simp; try with_reducible rfl
          try simp only [Act.put, List.setIfInBounds_toArray, List.set_cons_zero, List.set_cons_succ]
          refine ors_pure (v := ?_) (by rfl) ?_ ?_
          rotate_left
          · intro w' _; go_simp; try with_reducible rfl
          try simp only [Act.put, List.setIfInBounds_toArray, List.set_cons_zero, List.set_cons_succ]
          first | (refine ors_skip (by rfl) ?_) | (refine ors_pure (v := ?_) (by rfl) ?_ ?_; rotate_left; (· intro w' _; go_simp; try with_reducible rfl))
          try simp only [Act.put, List.setIfInBounds_toArray, List.set_cons_zero, List.set_cons_succ]
          first | (refine ors_skip (by rfl) ?_) | (refine ors_pure (v := ?_) (by rfl) ?_ ?_; rotate_left; (· intro w' _; go_simp; try with_reducible rfl))
          try simp only [Act.put, List.setIfInBounds_toArray, List.set_cons_zero, List.set_cons_succ]
          first | (refine ors_skip (by rfl) ?_) | (refine ors_pure (v := ?_) (by rfl) ?_ ?_; rotate_left; (· intro w' _; go_simp; try with_reducible rfl))
          try simp only [Act.put, List.setIfInBounds_toArray, List.set_cons_zero, List.set_cons_succ]
          first | (refine ors_skip (by rfl) ?_) | (refine ors_pure (v := ?_) (by rfl) ?_ ?_; rotate_left; (· intro w' _; go_simp; try with_reducible rfl))
          try simp only [Act.put, List.setIfInBounds_toArray, List.set_cons_zero, List.set_cons_succ]
          first | (refine ors_skip (by rfl) ?_) | (refine ors_pure (v := ?_) (by rfl) ?_ ?_; rotate_left; (· intro w' _; go_simp; try with_reducible rfl))
          try simp only [Act.put, List.setIfInBounds_toArray, List.set_cons_zero, List.set_cons_succ]
          first | (refine ors_skip (by rfl) ?_) | (refine ors_pure (v := ?_) (by rfl) ?_ ?_; rotate_left; (· intro w' _; go_simp; try with_reducible rfl))
          try simp only [Act.put, List.setIfInBounds_toArray, List.set_cons_zero, List.set_cons_succ]
          first | (refine ors_skip (by rfl) ?_) | (refine ors_pure (v := ?_) (by rfl) ?_ ?_; rotate_left; (· intro w' _; go_simp; try with_reducible rfl))
          try simp only [Act.put, List.setIfInBounds_toArray, List.set_cons_zero, List.set_cons_succ]
          first | (refine ors_skip (by rfl) ?_) | (refine ors_pure (v := ?_) (by rfl) ?_ ?_; rotate_left; (· intro w' _; go_simp; try with_reducible rfl))
          try simp only [Act.put, List.setIfInBounds_toArray, List.set_cons_zero, List.set_cons_succ]
          first | (refine ors_skip (by rfl) ?_) | (refine ors_pure (v := ?_) (by rfl) ?_ ?_; rotate_left; (· intro w' _; go_simp; try with_reducible rfl))
          try simp only [Act.put, List.setIfInBounds_toArray, List.set_cons_zero, List.set_cons_succ]
          first | (refine ors_skip (by rfl) ?_) | (refine ors_pure (v := ?_) (by rfl) ?_ ?_; rotate_left; (· intro w' _; go_simp; try with_reducible rfl))
          try simp only [Act.put, List.setIfInBounds_toArray, List.set_cons_zero, List.set_cons_succ]
          refine ors_pure (v := ?_) (by rfl) ?_ ?_
          rotate_left
          · intro w' _; go_simp; try with_reducible rfl
          try simp only [Act.put, List.setIfInBounds_toArray, List.set_cons_zero, List.set_cons_succ]
          refine ors_pure (v := ?_) (by rfl) ?_ ?_
          rotate_left
          · intro w' _; go_simp; try with_reducible rfl
          try simp only [Act.put, List.setIfInBounds_toArray, List.set_cons_zero, List.set_cons_succ]
          refine ors_pure (v := ?_) (by rfl) ?_ ?_
          rotate_left
          · intro w' _; go_simp; try with_reducible rfl
          try simp only [Act.put, List.setIfInBounds_toArray, List.set_cons_zero, List.set_cons_succ]
          refine ors_pure (by rfl) (load_yield 24 (.tmp 7) (by rfl) _ (by rfl) 24 cx (fun _ h => h.1) _ Tryd.underlying24 rfl KX.out) ?_
          try simp only [Act.put, List.setIfInBounds_toArray, List.set_cons_zero, List.set_cons_succ]
          refine ors_pure (by rfl) (load_yield 24 (.tmp 8) (by rfl) _ (by rfl) 24 cy (fun _ h => h.2.1) _ Tryd.underlying24 rfl KY.out) ?_
          try simp only [Act.put, List.setIfInBounds_toArray, List.set_cons_zero, List.set_cons_succ]
          refine ors_pure (v := ?_) (by rfl) ?_ ?_
          rotate_left
          · intro w' _; go_simp; try with_reducible rfl
          try simp only [Act.put, List.setIfInBounds_toArray, List.set_cons_zero, List.set_cons_succ]
          refine ors_pure (v := ?_) (by rfl) ?_ ?_
          rotate_left
          · intro w' _; go_simp; try with_reducible rfl
          try simp only [Act.put, List.setIfInBounds_toArray, List.set_cons_zero, List.set_cons_succ]
          refine ors_pure (v := ?_) (by rfl) ?_ ?_
          rotate_left
          · intro w' _; go_simp; try with_reducible rfl
          try simp only [Act.put, List.setIfInBounds_toArray, List.set_cons_zero, List.set_cons_succ]
          refine ors_pure (v := ?_) (by rfl) ?_ ?_
          rotate_left
          · intro w' _; go_simp; try with_reducible rfl
          try simp only [Act.put, List.setIfInBounds_toArray, List.set_cons_zero, List.set_cons_succ]
          refine ors_pure (by rfl) (load_yield 24 (.tmp 7) (by rfl) _ (by rfl) 24 cx (fun _ h => h.1) _ Tryd.underlying24 rfl KX.out) ?_
          try simp only [Act.put, List.setIfInBounds_toArray, List.set_cons_zero, List.set_cons_succ]
          refine ors_pure (by rfl) (load_yield 24 (.tmp 8) (by rfl) _ (by rfl) 24 cy (fun _ h => h.2.1) _ Tryd.underlying24 rfl KY.out) ?_
          try simp only [Act.put, List.setIfInBounds_toArray, List.set_cons_zero, List.set_cons_succ]
          refine ors_pure (v := ?_) (by rfl) ?_ ?_
          rotate_left
          · intro w' _; go_simp; try with_reducible rfl
          try simp only [Act.put, List.setIfInBounds_toArray, List.set_cons_zero, List.set_cons_succ]
          refine ors_pure (v := ?_) (by rfl) ?_ ?_
          rotate_left
          · intro w' _; go_simp; try with_reducible rfl
          try simp only [Act.put, List.setIfInBounds_toArray, List.set_cons_zero, List.set_cons_succ]
          refine ors_step (by rfl) (fun K hK => ?_)
          go_wp2_with fail
          refine (T1.out _).mono ?_
          rintro e v1 ⟨rfl, hb⟩
          have s1 := s0.keep hb
          have b1 := b0.trans (hb.mono b0.size)
          clear hb b0
          go_wp2_with fail
          refine ⟨s1, ?_⟩
          clear s0
          try simp only [Act.put, List.setIfInBounds_toArray, List.set_cons_zero, List.set_cons_succ]
          refine ors_step (by rfl) (fun K hK => ?_)
          go_wp2_with fail
          refine (T2.out _).mono ?_
          rintro e v2 ⟨rfl, hb⟩
          have s2 := s1.keep hb
          have b2 := b1.trans (hb.mono b1.size)
          clear hb b1
          go_wp2_with fail
          refine ⟨s2, ?_⟩
          clear s1
          try simp only [Act.put, List.setIfInBounds_toArray, List.set_cons_zero, List.set_cons_succ]
          refine ors_pure (v := ?_) (by rfl) ?_ ?_
          rotate_left
          · intro w' _; go_simp; try with_reducible rfl
          try simp only [Act.put, List.setIfInBounds_toArray, List.set_cons_zero, List.set_cons_succ]
          refine ors_pure (v := ?_) (by rfl) ?_ ?_
          rotate_left
          · intro w' _; go_simp; try with_reducible rfl
          try simp only [Act.put, List.setIfInBounds_toArray, List.set_cons_zero, List.set_cons_succ]
          refine ors_pure (v := ?_) (by rfl) ?_ ?_
          rotate_left
          · intro w' _; go_simp; try with_reducible rfl
          try simp only [Act.put, List.setIfInBounds_toArray, List.set_cons_zero, List.set_cons_succ]
          refine ors_pure (v := ?_) (by rfl) ?_ ?_
          rotate_left
          · intro w' _; go_simp; try with_reducible rfl
          try simp only [Act.put, List.setIfInBounds_toArray, List.set_cons_zero, List.set_cons_succ]
          refine ors_nil ?_
          go_wp2_with fail
          go_ret
          exact ⟨congrArg (fun b => Ending.returned (.bool b)) (by rw [L1.out]; rfl), b2⟩
end Go.Proofs.YtlcclboiocodpaaDoor
