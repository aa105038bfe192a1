/- The walk of the law SumXors: it returns true, and writes nothing that was there. Conditions: the variables as laid; thirty-two bytes each. -/
import Derived.Test.YtpfckamobjcdhaaDoorAwake
import Derived.Test.YtpfckamobjcdhaaDoorXor
import Derived.Deep.DeepCutAuto
namespace Go.Proofs.YtpfckamobjcdhaaDoor
open Go.RowKit
/-- Three blocks that are known whole. -/
def Three (t : TypeId) (a b c : Nat) (x y z : List Value) (w : World) : Prop := Has w a t x ∧ Has w b t y ∧ Has w c t z
namespace Three
variable {t : TypeId} {a b c : Nat} {x y z : List Value} {w w' : World}
theorem alloc (h : Three t a b c x y z w) (o : Obj) : Three t a b c x y z (w.alloc o) := ⟨h.1.alloc o, h.2.1.alloc o, h.2.2.alloc o⟩
theorem row (h : Three t a b c x y z w) {g : Nat} (ha : a ≠ g) (hb : b ≠ g) (hc : c ≠ g) (cs : Array Value) : Three t a b c x y z (w.setRow g cs) := ⟨h.1.offRow ha cs, h.2.1.offRow hb cs, h.2.2.offRow hc cs⟩
theorem keep (h : Three t a b c x y z w) (hb : Below w.heap.size w w') : Three t a b c x y z w' := ⟨h.1.keep hb h.1.lt, h.2.1.keep hb h.2.1.lt, h.2.2.keep hb h.2.2.lt⟩
theorem drew (h : Three t a b c x y z w) : Three t a b c x y z w.drew := h
end Three
/-- A whole row, loaded: the same in every world in which it lies. -/
theorem load_yield {P : Program} {S : World → Prop} {o : Oper} {ev : Operand → Value} (T : TypeId) (x : Operand) (ho : o.op = .load T x) (g : Nat) (hx : ev x = .pointer (some ⟨g, 0, none⟩)) (t : TypeId) (l : List Value)
    (hS : ∀ w, S w → Has w g t l) (d : TypeDesc) (hu : P.underlying T = some d) (hd : (match d with | .struct _ | .array _ _ => true | _ => false) = true) (hi : (P.info? T).map (·.size) = some l.toArray.size) :
    ∀ w', S w' → (execOp ev o).run P w' = .ok (.value (.agg l.toArray)) w' := by
  intro w' h
  unfold execOp
  simp only [ho, hx, Instr.loadAt, Instr.sureAddr, Sem.run_bind, Sem.run_pure, Result.andThen_ok, run_loadVar_row w' g t T l.toArray (0, 0) d (hS w' h) hu hd hi]
theorem xorL_comm (x y : List (BitVec 8)) : xorL x y = xorL y x := by
  unfold xorL; rw [List.zipWith_comm]; congr 1; funext a b; exact BitVec.xor_comm _ _
theorem xorL_assoc (x y z : List (BitVec 8)) : xorL (xorL x y) z = xorL x (xorL y z) := by
  unfold xorL
  induction x generalizing y z with
  | nil => simp
  | cons a x ih => cases y with
    | nil => simp
    | cons b y => cases z with
      | nil => simp
      | cons c z => simp [ih, BitVec.xor_assoc]
theorem xorL_self (x : List (BitVec 8)) (h : x.length = 32) : xorL x x = zero32 := by
  have : xorL x x = List.replicate x.length 0 := by
    clear h
    induction x with
    | nil => rfl
    | cons a x ih => show (a ^^^ a) :: xorL x x = _; rw [ih, BitVec.xor_self]; rfl
  rw [this, h]; rfl
theorem xorL_zero (x : List (BitVec 8)) (h : x.length = 32) : xorL x zero32 = x := by
  have : xorL x (List.replicate x.length 0) = x := by
    clear h
    induction x with
    | nil => rfl
    | cons a x ih => show (a ^^^ 0#8) :: xorL x (List.replicate x.length 0) = _; rw [ih, BitVec.xor_zero]
  rw [h] at this; exact this

theorem three_new {w : World} {x y z : List Value} {b : Nat} (w1 : World) (T R : TypeId) {g1 g2 g3 : Nat} (hB : Below b w w1) (s : Three R g1 g2 g3 x y z w1) :
    let w3 := (((w1.alloc (.cells (brow 32 []).toArray T)).alloc (.cells (brow 32 []).toArray T)).alloc (.cells (brow 32 []).toArray T)).drew
    b ≤ w1.heap.size → Has w3 w1.heap.size T (brow 32 []) ∧ Has w3 (w1.heap.size + 1) T (brow 32 []) ∧ Has w3 (w1.heap.size + 2) T (brow 32 []) ∧ Below b w w3 ∧ Three R g1 g2 g3 x y z w3 := by
  intro w3 hb
  refine ⟨(((Has.made' w1 T _ _ rfl).alloc _).alloc _).drew, ((Has.made1 w1 _ T _ _ rfl).alloc _).drew, ?_, (((hB.alloc hb _).alloc (by simp; omega) _).alloc (by simp; omega) _).drew, (((s.alloc _).alloc _).alloc _).drew⟩
  have := (Has.made' ((w1.alloc (.cells (brow 32 []).toArray T)).alloc (.cells (brow 32 []).toArray T)) T _ (brow 32 []) rfl).drew
  simpa using this
set_option maxHeartbeats 2000000 in
set_option maxRecDepth 100000 in
theorem xors_any (x y z : List (BitVec 8)) (hx : x.length = 32) (hy : y.length = 32) (hz : z.length = 32) (w : World) (hL : Laid w) :
    Calls Tryd.prog 7 #[.agg (x.map u8v).toArray, .agg (y.map u8v).toArray, .agg (z.map u8v).toArray] w fun e w' => e = .returned (.bool true) ∧ Below w.heap.size w w' := by
  obtain ⟨cx, hcx⟩ : ∃ cx, cx = x.map u8v := ⟨_, rfl⟩
  obtain ⟨cy, hcy⟩ : ∃ cy, cy = y.map u8v := ⟨_, rfl⟩
  obtain ⟨cz, hcz⟩ : ∃ cz, cz = z.map u8v := ⟨_, rfl⟩
  rw [← hcx, ← hcy, ← hcz]
  have sz : ∀ (l : List (BitVec 8)), l.length = 32 → (Tryd.prog.info? 24).map (·.size) = some (l.map u8v).toArray.size := fun l hl => by rw [sum_info]; simp [hl]
  have i32 : (Tryd.prog.info? 23).map (·.size) = some 32 := by kernel_rfl
  have sr : ∀ (l : List (BitVec 8)), l.length = 32 → (Tryd.prog.info? 23).map (·.size) = some (l.map u8v).toArray.size := fun l hl => by rw [i32]; simp [hl]
  have HX : Hid ((Tryd.prog.info? 23).map (·.size) = some cx.toArray.size) := Lib.hid (by rw [hcx]; exact sr x hx)
  have KX : Hid ((Tryd.prog.info? 24).map (·.size) = some cx.toArray.size) := Lib.hid (by rw [hcx]; exact sz x hx)
  have OX : Hid (cx.toArray.all (·.oneCell') = true) := Lib.hid (by rw [hcx]; exact u8v_one x)
  have LX : Hid ((brow 32 []).toArray.size = cx.toArray.size) := Lib.hid (by rw [hcx]; simp [brow, hx])
  have HY : Hid ((Tryd.prog.info? 23).map (·.size) = some cy.toArray.size) := Lib.hid (by rw [hcy]; exact sr y hy)
  have KY : Hid ((Tryd.prog.info? 24).map (·.size) = some cy.toArray.size) := Lib.hid (by rw [hcy]; exact sz y hy)
  have OY : Hid (cy.toArray.all (·.oneCell') = true) := Lib.hid (by rw [hcy]; exact u8v_one y)
  have LY : Hid ((brow 32 []).toArray.size = cy.toArray.size) := Lib.hid (by rw [hcy]; simp [brow, hy])
  have HZ : Hid ((Tryd.prog.info? 23).map (·.size) = some cz.toArray.size) := Lib.hid (by rw [hcz]; exact sr z hz)
  have KZ : Hid ((Tryd.prog.info? 24).map (·.size) = some cz.toArray.size) := Lib.hid (by rw [hcz]; exact sz z hz)
  have OZ : Hid (cz.toArray.all (·.oneCell') = true) := Lib.hid (by rw [hcz]; exact u8v_one z)
  have LZ : Hid ((brow 32 []).toArray.size = cz.toArray.size) := Lib.hid (by rw [hcz]; simp [brow, hz])
  have Hcx := Lib.hid hcx
  have Hcy := Lib.hid hcy
  have Hcz := Lib.hid hcz
  have Hx := Lib.hid hx
  have Hy := Lib.hid hy
  have Hz := Lib.hid hz
  have HL := Lib.hid hL
  have hsz := hL.size
  clear hcx hcy hcz hx hy hz hL sz sr i32
  go_enter Tryd.func7, Tryd.ntmps7
  go_wp2_with fail
  generalize hw0 : ((w.alloc _).alloc _).alloc _ = w0
  have h0 : Three 23 w.heap.size (w.heap.size + 1) (w.heap.size + 2) cx cy cz w0 := by
    subst hw0
    refine ⟨((Has.made' _ _ _ _ rfl).alloc _).alloc _, (Has.made1 _ _ _ _ _ rfl).alloc _, ?_⟩
    have := Has.made' ((w.alloc (.cells cx.toArray 23)).alloc (.cells cy.toArray 23)) 23 _ cz rfl
    simpa using this
  have hB0 : Below w.heap.size w w0 := by
    subst hw0; exact (((Below.refl _ _).alloc (Nat.le_refl _) _).alloc (by simp) _).alloc (by simp; omega) _
  clear hw0
  refine (awake_any w0 (HL.out.keep hB0 hsz)).mono ?_
  rintro e w1 ⟨rfl, hb1⟩
  have h1 := h0.keep hb1
  have hB1 := hB0.trans (hb1.mono hB0.size)
  have hz1 : w.heap.size + 2 < w1.heap.size := h1.2.2.lt
  clear h0 hB0 hb1
  go_upto_region 3 with (fail)
  go_cut [7, 8, 9] (fun p q r wc => ∃ a b c, p = .pointer (some ⟨a, 0, none⟩) ∧ q = .pointer (some ⟨b, 0, none⟩) ∧ r = .pointer (some ⟨c, 0, none⟩) ∧ Three 24 a b c cx cy cz wc ∧ Below w.heap.size w wc)
  case first =>
    have s0 := h1.drew
    have hn : w1.drew.heap.size = w1.heap.size := rfl
    refine held_start (Three 23 w.heap.size (w.heap.size + 1) (w.heap.size + 2) cx cy cz) (by kernel_rfl) s0 ?_
    refine held_take 0 (by rfl) (by kernel_rfl) (by rfl) s0 (load_yield 23 (.tmp 3) (by rfl) _ (by rfl) 23 cx (fun _ h => h.1) _ Tryd.underlying23 rfl HX.out) ?_
    try simp only [Act.put, List.setIfInBounds_toArray, List.set_cons_zero, List.set_cons_succ]
    refine held_take 1 (by rfl) (by kernel_rfl) (by rfl) s0 (load_yield 23 (.tmp 4) (by rfl) _ (by rfl) 23 cy (fun _ h => h.2.1) _ Tryd.underlying23 rfl HY.out) ?_
    try simp only [Act.put, List.setIfInBounds_toArray, List.set_cons_zero, List.set_cons_succ]
    refine held_take 2 (by rfl) (by kernel_rfl) (by rfl) s0 (load_yield 23 (.tmp 5) (by rfl) _ (by rfl) 23 cz (fun _ h => h.2.2) _ Tryd.underlying23 rfl HZ.out) ?_
    try simp only [Act.put, List.setIfInBounds_toArray, List.set_cons_zero, List.set_cons_succ]
    refine held_three 3 4 5 (by rfl) (by rfl) (by rfl) (by kernel_rfl) (by rfl) (by rfl) (by rfl) (fun K hK => ?_) (fun K hK => ?_) (fun K hK => ?_)
    · go_wp2_with fail
      refine ⟨s0.alloc _, ?_⟩
      try simp only [Act.put, List.setIfInBounds_toArray, List.set_cons_zero, List.set_cons_succ]
      refine held_two 4 5 (by rfl) (by rfl) (by kernel_rfl) (by rfl) (by rfl) (fun K hK => ?_) (fun K hK => ?_)
      · go_wp2_with fail
        refine ⟨(s0.alloc _).alloc _, ?_⟩
        try simp only [Act.put, List.setIfInBounds_toArray, List.set_cons_zero, List.set_cons_succ]
        refine held_one 5 (by rfl) (by kernel_rfl) (by rfl) (fun K hK => ?_)
        go_wp2_with fail
        refine ⟨((s0.alloc _).alloc _).alloc _, ?_⟩
        try simp only [Act.put, List.setIfInBounds_toArray, List.set_cons_zero, List.set_cons_succ]
        generalize hW : World.drew _ = w3
        have zn : Has w3 w1.heap.size 24 (brow 32 []) ∧ Has w3 (w1.heap.size + 1) 24 (brow 32 []) ∧ Has w3 (w1.heap.size + 2) 24 (brow 32 []) ∧ Below w.heap.size w w3 ∧ Three 23 w.heap.size (w.heap.size + 1) (w.heap.size + 2) cx cy cz w3 := by subst hW; exact three_new w1 24 23 hB1 h1 hB1.size
        clear hW
        obtain ⟨z0, z1, z2, hB3, s3⟩ := zn
        refine held_one 6 (by rfl) (by kernel_rfl) (by rfl) (fun K hK => ?_)
        refine wp_store_row 24 (.tmp 7) (.tmp 12) (by rfl) w1.heap.size cx.toArray (by rfl) (by rfl) 24 _ z0 KX.out LX.out OX.out ?_
        refine hK _ _ ⟨(s3.row (g := w1.heap.size) (by omega) (by omega) (by omega) _), ?_⟩
        simp only [Act.put]
        refine held_one 7 (by rfl) (by kernel_rfl) (by rfl) (fun K hK => ?_)
        refine wp_store_row 24 (.tmp 8) (.tmp 13) (by rfl) (w1.heap.size + 1) cy.toArray (by rfl) (by rfl) 24 _ (z1.offRow (g' := w1.heap.size) (by omega) _) KY.out LY.out OY.out ?_
        refine hK _ _ ⟨((s3.row (g := w1.heap.size) (by omega) (by omega) (by omega) _).row (g := (w1.heap.size + 1)) (by omega) (by omega) (by omega) _), ?_⟩
        simp only [Act.put]
        refine held_one 8 (by rfl) (by kernel_rfl) (by rfl) (fun K hK => ?_)
        refine wp_store_row 24 (.tmp 9) (.tmp 14) (by rfl) (w1.heap.size + 2) cz.toArray (by rfl) (by rfl) 24 _ ((z2.offRow (g' := w1.heap.size) (by omega) _).offRow (g' := (w1.heap.size + 1)) (by omega) _) KZ.out LZ.out OZ.out ?_
        refine hK _ _ ⟨(((s3.row (g := w1.heap.size) (by omega) (by omega) (by omega) _).row (g := (w1.heap.size + 1)) (by omega) (by omega) (by omega) _).row (g := (w1.heap.size + 2)) (by omega) (by omega) (by omega) _), ?_⟩
        simp only [Act.put]
        refine held_done (by kernel_rfl) ?_
        go_wp2_with fail
        go_meet
        exact ⟨w1.heap.size, (w1.heap.size + 1), (w1.heap.size + 2), rfl, rfl, rfl, ⟨(((z0.rowl _).offRow (g' := (w1.heap.size + 1)) (by omega) _).offRow (g' := (w1.heap.size + 2)) (by omega) _), (((z1.offRow (g' := w1.heap.size) (by omega) _).rowl _).offRow (g' := (w1.heap.size + 2)) (by omega) _), (((z2.offRow (g' := w1.heap.size) (by omega) _).offRow (g' := (w1.heap.size + 1)) (by omega) _).rowl _)⟩, (below_row (below_row (below_row hB3 (g := w1.heap.size) (by omega) _) (g := (w1.heap.size + 1)) (by omega) _) (g := (w1.heap.size + 2)) (by omega) _)⟩
      · go_wp2_with fail
        refine ⟨(s0.alloc _).alloc _, ?_⟩
        try simp only [Act.put, List.setIfInBounds_toArray, List.set_cons_zero, List.set_cons_succ]
        refine held_one 4 (by rfl) (by kernel_rfl) (by rfl) (fun K hK => ?_)
        go_wp2_with fail
        refine ⟨((s0.alloc _).alloc _).alloc _, ?_⟩
        try simp only [Act.put, List.setIfInBounds_toArray, List.set_cons_zero, List.set_cons_succ]
        generalize hW : World.drew _ = w3
        have zn : Has w3 w1.heap.size 24 (brow 32 []) ∧ Has w3 (w1.heap.size + 1) 24 (brow 32 []) ∧ Has w3 (w1.heap.size + 2) 24 (brow 32 []) ∧ Below w.heap.size w w3 ∧ Three 23 w.heap.size (w.heap.size + 1) (w.heap.size + 2) cx cy cz w3 := by subst hW; exact three_new w1 24 23 hB1 h1 hB1.size
        clear hW
        obtain ⟨z0, z1, z2, hB3, s3⟩ := zn
        refine held_one 6 (by rfl) (by kernel_rfl) (by rfl) (fun K hK => ?_)
        refine wp_store_row 24 (.tmp 7) (.tmp 12) (by rfl) w1.heap.size cx.toArray (by rfl) (by rfl) 24 _ z0 KX.out LX.out OX.out ?_
        refine hK _ _ ⟨(s3.row (g := w1.heap.size) (by omega) (by omega) (by omega) _), ?_⟩
        simp only [Act.put]
        refine held_one 7 (by rfl) (by kernel_rfl) (by rfl) (fun K hK => ?_)
        refine wp_store_row 24 (.tmp 8) (.tmp 13) (by rfl) (w1.heap.size + 2) cy.toArray (by rfl) (by rfl) 24 _ (z2.offRow (g' := w1.heap.size) (by omega) _) KY.out LY.out OY.out ?_
        refine hK _ _ ⟨((s3.row (g := w1.heap.size) (by omega) (by omega) (by omega) _).row (g := (w1.heap.size + 2)) (by omega) (by omega) (by omega) _), ?_⟩
        simp only [Act.put]
        refine held_one 8 (by rfl) (by kernel_rfl) (by rfl) (fun K hK => ?_)
        refine wp_store_row 24 (.tmp 9) (.tmp 14) (by rfl) (w1.heap.size + 1) cz.toArray (by rfl) (by rfl) 24 _ ((z1.offRow (g' := w1.heap.size) (by omega) _).offRow (g' := (w1.heap.size + 2)) (by omega) _) KZ.out LZ.out OZ.out ?_
        refine hK _ _ ⟨(((s3.row (g := w1.heap.size) (by omega) (by omega) (by omega) _).row (g := (w1.heap.size + 2)) (by omega) (by omega) (by omega) _).row (g := (w1.heap.size + 1)) (by omega) (by omega) (by omega) _), ?_⟩
        simp only [Act.put]
        refine held_done (by kernel_rfl) ?_
        go_wp2_with fail
        go_meet
        exact ⟨w1.heap.size, (w1.heap.size + 2), (w1.heap.size + 1), rfl, rfl, rfl, ⟨(((z0.rowl _).offRow (g' := (w1.heap.size + 2)) (by omega) _).offRow (g' := (w1.heap.size + 1)) (by omega) _), (((z2.offRow (g' := w1.heap.size) (by omega) _).rowl _).offRow (g' := (w1.heap.size + 1)) (by omega) _), (((z1.offRow (g' := w1.heap.size) (by omega) _).offRow (g' := (w1.heap.size + 2)) (by omega) _).rowl _)⟩, (below_row (below_row (below_row hB3 (g := w1.heap.size) (by omega) _) (g := (w1.heap.size + 2)) (by omega) _) (g := (w1.heap.size + 1)) (by omega) _)⟩
    · go_wp2_with fail
      refine ⟨s0.alloc _, ?_⟩
      try simp only [Act.put, List.setIfInBounds_toArray, List.set_cons_zero, List.set_cons_succ]
      refine held_two 3 5 (by rfl) (by rfl) (by kernel_rfl) (by rfl) (by rfl) (fun K hK => ?_) (fun K hK => ?_)
      · go_wp2_with fail
        refine ⟨(s0.alloc _).alloc _, ?_⟩
        try simp only [Act.put, List.setIfInBounds_toArray, List.set_cons_zero, List.set_cons_succ]
        refine held_one 5 (by rfl) (by kernel_rfl) (by rfl) (fun K hK => ?_)
        go_wp2_with fail
        refine ⟨((s0.alloc _).alloc _).alloc _, ?_⟩
        try simp only [Act.put, List.setIfInBounds_toArray, List.set_cons_zero, List.set_cons_succ]
        generalize hW : World.drew _ = w3
        have zn : Has w3 w1.heap.size 24 (brow 32 []) ∧ Has w3 (w1.heap.size + 1) 24 (brow 32 []) ∧ Has w3 (w1.heap.size + 2) 24 (brow 32 []) ∧ Below w.heap.size w w3 ∧ Three 23 w.heap.size (w.heap.size + 1) (w.heap.size + 2) cx cy cz w3 := by subst hW; exact three_new w1 24 23 hB1 h1 hB1.size
        clear hW
        obtain ⟨z0, z1, z2, hB3, s3⟩ := zn
        refine held_one 6 (by rfl) (by kernel_rfl) (by rfl) (fun K hK => ?_)
        refine wp_store_row 24 (.tmp 7) (.tmp 12) (by rfl) (w1.heap.size + 1) cx.toArray (by rfl) (by rfl) 24 _ z1 KX.out LX.out OX.out ?_
        refine hK _ _ ⟨(s3.row (g := (w1.heap.size + 1)) (by omega) (by omega) (by omega) _), ?_⟩
        simp only [Act.put]
        refine held_one 7 (by rfl) (by kernel_rfl) (by rfl) (fun K hK => ?_)
        refine wp_store_row 24 (.tmp 8) (.tmp 13) (by rfl) w1.heap.size cy.toArray (by rfl) (by rfl) 24 _ (z0.offRow (g' := (w1.heap.size + 1)) (by omega) _) KY.out LY.out OY.out ?_
        refine hK _ _ ⟨((s3.row (g := (w1.heap.size + 1)) (by omega) (by omega) (by omega) _).row (g := w1.heap.size) (by omega) (by omega) (by omega) _), ?_⟩
        simp only [Act.put]
        refine held_one 8 (by rfl) (by kernel_rfl) (by rfl) (fun K hK => ?_)
        refine wp_store_row 24 (.tmp 9) (.tmp 14) (by rfl) (w1.heap.size + 2) cz.toArray (by rfl) (by rfl) 24 _ ((z2.offRow (g' := (w1.heap.size + 1)) (by omega) _).offRow (g' := w1.heap.size) (by omega) _) KZ.out LZ.out OZ.out ?_
        refine hK _ _ ⟨(((s3.row (g := (w1.heap.size + 1)) (by omega) (by omega) (by omega) _).row (g := w1.heap.size) (by omega) (by omega) (by omega) _).row (g := (w1.heap.size + 2)) (by omega) (by omega) (by omega) _), ?_⟩
        simp only [Act.put]
        refine held_done (by kernel_rfl) ?_
        go_wp2_with fail
        go_meet
        exact ⟨(w1.heap.size + 1), w1.heap.size, (w1.heap.size + 2), rfl, rfl, rfl, ⟨(((z1.rowl _).offRow (g' := w1.heap.size) (by omega) _).offRow (g' := (w1.heap.size + 2)) (by omega) _), (((z0.offRow (g' := (w1.heap.size + 1)) (by omega) _).rowl _).offRow (g' := (w1.heap.size + 2)) (by omega) _), (((z2.offRow (g' := (w1.heap.size + 1)) (by omega) _).offRow (g' := w1.heap.size) (by omega) _).rowl _)⟩, (below_row (below_row (below_row hB3 (g := (w1.heap.size + 1)) (by omega) _) (g := w1.heap.size) (by omega) _) (g := (w1.heap.size + 2)) (by omega) _)⟩
      · go_wp2_with fail
        refine ⟨(s0.alloc _).alloc _, ?_⟩
        try simp only [Act.put, List.setIfInBounds_toArray, List.set_cons_zero, List.set_cons_succ]
        refine held_one 3 (by rfl) (by kernel_rfl) (by rfl) (fun K hK => ?_)
        go_wp2_with fail
        refine ⟨((s0.alloc _).alloc _).alloc _, ?_⟩
        try simp only [Act.put, List.setIfInBounds_toArray, List.set_cons_zero, List.set_cons_succ]
        generalize hW : World.drew _ = w3
        have zn : Has w3 w1.heap.size 24 (brow 32 []) ∧ Has w3 (w1.heap.size + 1) 24 (brow 32 []) ∧ Has w3 (w1.heap.size + 2) 24 (brow 32 []) ∧ Below w.heap.size w w3 ∧ Three 23 w.heap.size (w.heap.size + 1) (w.heap.size + 2) cx cy cz w3 := by subst hW; exact three_new w1 24 23 hB1 h1 hB1.size
        clear hW
        obtain ⟨z0, z1, z2, hB3, s3⟩ := zn
        refine held_one 6 (by rfl) (by kernel_rfl) (by rfl) (fun K hK => ?_)
        refine wp_store_row 24 (.tmp 7) (.tmp 12) (by rfl) (w1.heap.size + 2) cx.toArray (by rfl) (by rfl) 24 _ z2 KX.out LX.out OX.out ?_
        refine hK _ _ ⟨(s3.row (g := (w1.heap.size + 2)) (by omega) (by omega) (by omega) _), ?_⟩
        simp only [Act.put]
        refine held_one 7 (by rfl) (by kernel_rfl) (by rfl) (fun K hK => ?_)
        refine wp_store_row 24 (.tmp 8) (.tmp 13) (by rfl) w1.heap.size cy.toArray (by rfl) (by rfl) 24 _ (z0.offRow (g' := (w1.heap.size + 2)) (by omega) _) KY.out LY.out OY.out ?_
        refine hK _ _ ⟨((s3.row (g := (w1.heap.size + 2)) (by omega) (by omega) (by omega) _).row (g := w1.heap.size) (by omega) (by omega) (by omega) _), ?_⟩
        simp only [Act.put]
        refine held_one 8 (by rfl) (by kernel_rfl) (by rfl) (fun K hK => ?_)
        refine wp_store_row 24 (.tmp 9) (.tmp 14) (by rfl) (w1.heap.size + 1) cz.toArray (by rfl) (by rfl) 24 _ ((z1.offRow (g' := (w1.heap.size + 2)) (by omega) _).offRow (g' := w1.heap.size) (by omega) _) KZ.out LZ.out OZ.out ?_
        refine hK _ _ ⟨(((s3.row (g := (w1.heap.size + 2)) (by omega) (by omega) (by omega) _).row (g := w1.heap.size) (by omega) (by omega) (by omega) _).row (g := (w1.heap.size + 1)) (by omega) (by omega) (by omega) _), ?_⟩
        simp only [Act.put]
        refine held_done (by kernel_rfl) ?_
        go_wp2_with fail
        go_meet
        exact ⟨(w1.heap.size + 2), w1.heap.size, (w1.heap.size + 1), rfl, rfl, rfl, ⟨(((z2.rowl _).offRow (g' := w1.heap.size) (by omega) _).offRow (g' := (w1.heap.size + 1)) (by omega) _), (((z0.offRow (g' := (w1.heap.size + 2)) (by omega) _).rowl _).offRow (g' := (w1.heap.size + 1)) (by omega) _), (((z1.offRow (g' := (w1.heap.size + 2)) (by omega) _).offRow (g' := w1.heap.size) (by omega) _).rowl _)⟩, (below_row (below_row (below_row hB3 (g := (w1.heap.size + 2)) (by omega) _) (g := w1.heap.size) (by omega) _) (g := (w1.heap.size + 1)) (by omega) _)⟩
    · go_wp2_with fail
      refine ⟨s0.alloc _, ?_⟩
      try simp only [Act.put, List.setIfInBounds_toArray, List.set_cons_zero, List.set_cons_succ]
      refine held_two 3 4 (by rfl) (by rfl) (by kernel_rfl) (by rfl) (by rfl) (fun K hK => ?_) (fun K hK => ?_)
      · go_wp2_with fail
        refine ⟨(s0.alloc _).alloc _, ?_⟩
        try simp only [Act.put, List.setIfInBounds_toArray, List.set_cons_zero, List.set_cons_succ]
        refine held_one 4 (by rfl) (by kernel_rfl) (by rfl) (fun K hK => ?_)
        go_wp2_with fail
        refine ⟨((s0.alloc _).alloc _).alloc _, ?_⟩
        try simp only [Act.put, List.setIfInBounds_toArray, List.set_cons_zero, List.set_cons_succ]
        generalize hW : World.drew _ = w3
        have zn : Has w3 w1.heap.size 24 (brow 32 []) ∧ Has w3 (w1.heap.size + 1) 24 (brow 32 []) ∧ Has w3 (w1.heap.size + 2) 24 (brow 32 []) ∧ Below w.heap.size w w3 ∧ Three 23 w.heap.size (w.heap.size + 1) (w.heap.size + 2) cx cy cz w3 := by subst hW; exact three_new w1 24 23 hB1 h1 hB1.size
        clear hW
        obtain ⟨z0, z1, z2, hB3, s3⟩ := zn
        refine held_one 6 (by rfl) (by kernel_rfl) (by rfl) (fun K hK => ?_)
        refine wp_store_row 24 (.tmp 7) (.tmp 12) (by rfl) (w1.heap.size + 1) cx.toArray (by rfl) (by rfl) 24 _ z1 KX.out LX.out OX.out ?_
        refine hK _ _ ⟨(s3.row (g := (w1.heap.size + 1)) (by omega) (by omega) (by omega) _), ?_⟩
        simp only [Act.put]
        refine held_one 7 (by rfl) (by kernel_rfl) (by rfl) (fun K hK => ?_)
        refine wp_store_row 24 (.tmp 8) (.tmp 13) (by rfl) (w1.heap.size + 2) cy.toArray (by rfl) (by rfl) 24 _ (z2.offRow (g' := (w1.heap.size + 1)) (by omega) _) KY.out LY.out OY.out ?_
        refine hK _ _ ⟨((s3.row (g := (w1.heap.size + 1)) (by omega) (by omega) (by omega) _).row (g := (w1.heap.size + 2)) (by omega) (by omega) (by omega) _), ?_⟩
        simp only [Act.put]
        refine held_one 8 (by rfl) (by kernel_rfl) (by rfl) (fun K hK => ?_)
        refine wp_store_row 24 (.tmp 9) (.tmp 14) (by rfl) w1.heap.size cz.toArray (by rfl) (by rfl) 24 _ ((z0.offRow (g' := (w1.heap.size + 1)) (by omega) _).offRow (g' := (w1.heap.size + 2)) (by omega) _) KZ.out LZ.out OZ.out ?_
        refine hK _ _ ⟨(((s3.row (g := (w1.heap.size + 1)) (by omega) (by omega) (by omega) _).row (g := (w1.heap.size + 2)) (by omega) (by omega) (by omega) _).row (g := w1.heap.size) (by omega) (by omega) (by omega) _), ?_⟩
        simp only [Act.put]
        refine held_done (by kernel_rfl) ?_
        go_wp2_with fail
        go_meet
        exact ⟨(w1.heap.size + 1), (w1.heap.size + 2), w1.heap.size, rfl, rfl, rfl, ⟨(((z1.rowl _).offRow (g' := (w1.heap.size + 2)) (by omega) _).offRow (g' := w1.heap.size) (by omega) _), (((z2.offRow (g' := (w1.heap.size + 1)) (by omega) _).rowl _).offRow (g' := w1.heap.size) (by omega) _), (((z0.offRow (g' := (w1.heap.size + 1)) (by omega) _).offRow (g' := (w1.heap.size + 2)) (by omega) _).rowl _)⟩, (below_row (below_row (below_row hB3 (g := (w1.heap.size + 1)) (by omega) _) (g := (w1.heap.size + 2)) (by omega) _) (g := w1.heap.size) (by omega) _)⟩
      · go_wp2_with fail
        refine ⟨(s0.alloc _).alloc _, ?_⟩
        try simp only [Act.put, List.setIfInBounds_toArray, List.set_cons_zero, List.set_cons_succ]
        refine held_one 3 (by rfl) (by kernel_rfl) (by rfl) (fun K hK => ?_)
        go_wp2_with fail
        refine ⟨((s0.alloc _).alloc _).alloc _, ?_⟩
        try simp only [Act.put, List.setIfInBounds_toArray, List.set_cons_zero, List.set_cons_succ]
        generalize hW : World.drew _ = w3
        have zn : Has w3 w1.heap.size 24 (brow 32 []) ∧ Has w3 (w1.heap.size + 1) 24 (brow 32 []) ∧ Has w3 (w1.heap.size + 2) 24 (brow 32 []) ∧ Below w.heap.size w w3 ∧ Three 23 w.heap.size (w.heap.size + 1) (w.heap.size + 2) cx cy cz w3 := by subst hW; exact three_new w1 24 23 hB1 h1 hB1.size
        clear hW
        obtain ⟨z0, z1, z2, hB3, s3⟩ := zn
        refine held_one 6 (by rfl) (by kernel_rfl) (by rfl) (fun K hK => ?_)
        refine wp_store_row 24 (.tmp 7) (.tmp 12) (by rfl) (w1.heap.size + 2) cx.toArray (by rfl) (by rfl) 24 _ z2 KX.out LX.out OX.out ?_
        refine hK _ _ ⟨(s3.row (g := (w1.heap.size + 2)) (by omega) (by omega) (by omega) _), ?_⟩
        simp only [Act.put]
        refine held_one 7 (by rfl) (by kernel_rfl) (by rfl) (fun K hK => ?_)
        refine wp_store_row 24 (.tmp 8) (.tmp 13) (by rfl) (w1.heap.size + 1) cy.toArray (by rfl) (by rfl) 24 _ (z1.offRow (g' := (w1.heap.size + 2)) (by omega) _) KY.out LY.out OY.out ?_
        refine hK _ _ ⟨((s3.row (g := (w1.heap.size + 2)) (by omega) (by omega) (by omega) _).row (g := (w1.heap.size + 1)) (by omega) (by omega) (by omega) _), ?_⟩
        simp only [Act.put]
        refine held_one 8 (by rfl) (by kernel_rfl) (by rfl) (fun K hK => ?_)
        refine wp_store_row 24 (.tmp 9) (.tmp 14) (by rfl) w1.heap.size cz.toArray (by rfl) (by rfl) 24 _ ((z0.offRow (g' := (w1.heap.size + 2)) (by omega) _).offRow (g' := (w1.heap.size + 1)) (by omega) _) KZ.out LZ.out OZ.out ?_
        refine hK _ _ ⟨(((s3.row (g := (w1.heap.size + 2)) (by omega) (by omega) (by omega) _).row (g := (w1.heap.size + 1)) (by omega) (by omega) (by omega) _).row (g := w1.heap.size) (by omega) (by omega) (by omega) _), ?_⟩
        simp only [Act.put]
        refine held_done (by kernel_rfl) ?_
        go_wp2_with fail
        go_meet
        exact ⟨(w1.heap.size + 2), (w1.heap.size + 1), w1.heap.size, rfl, rfl, rfl, ⟨(((z2.rowl _).offRow (g' := (w1.heap.size + 1)) (by omega) _).offRow (g' := w1.heap.size) (by omega) _), (((z1.offRow (g' := (w1.heap.size + 2)) (by omega) _).rowl _).offRow (g' := w1.heap.size) (by omega) _), (((z0.offRow (g' := (w1.heap.size + 2)) (by omega) _).offRow (g' := (w1.heap.size + 1)) (by omega) _).rowl _)⟩, (below_row (below_row (below_row hB3 (g := (w1.heap.size + 2)) (by omega) _) (g := (w1.heap.size + 1)) (by omega) _) (g := w1.heap.size) (by omega) _)⟩
  case rest =>
    obtain ⟨a, b, c, rfl, rfl, rfl, hT, hB⟩ := hcut
    clear h1 hB1 hz1
    obtain ⟨c1, hc1⟩ : ∃ c1, c1 = (xorL x y).map u8v := ⟨_, rfl⟩
    obtain ⟨c2, hc2⟩ : ∃ c2, c2 = (xorL (xorL x y) z).map u8v := ⟨_, rfl⟩
    obtain ⟨c3, hc3⟩ : ∃ c3, c3 = (xorL y z).map u8v := ⟨_, rfl⟩
    have lx := Hx.out
    have ly := Hy.out
    have lz := Hz.out
    have l1 := xorL_length x y lx ly
    have l3 := xorL_length y z ly lz
    have l2 := xorL_length (xorL x y) z l1 lz
    have C1 : Hid (∀ w, Calls Tryd.prog 16 #[.agg cx.toArray, .agg cy.toArray] w fun e w' => e = .returned (.agg c1.toArray) ∧ Below w.heap.size w w') := Lib.hid fun w => by
      rw [Hcx.out, Hcy.out, hc1]; exact xor_any x y lx ly w
    have C2 : Hid (∀ w, Calls Tryd.prog 16 #[.agg c1.toArray, .agg cz.toArray] w fun e w' => e = .returned (.agg c2.toArray) ∧ Below w.heap.size w w') := Lib.hid fun w => by
      rw [Hcz.out, hc1, hc2]; exact xor_any (xorL x y) z l1 lz w
    have C3 : Hid (∀ w, Calls Tryd.prog 16 #[.agg cy.toArray, .agg cz.toArray] w fun e w' => e = .returned (.agg c3.toArray) ∧ Below w.heap.size w w') := Lib.hid fun w => by
      rw [Hcy.out, Hcz.out, hc3]; exact xor_any y z ly lz w
    have C4 : Hid (∀ w, Calls Tryd.prog 16 #[.agg cx.toArray, .agg c3.toArray] w fun e w' => e = .returned (.agg c2.toArray) ∧ Below w.heap.size w w') := Lib.hid fun w => by
      rw [Hcx.out, hc3, hc2, xorL_assoc]; exact xor_any x (xorL y z) lx l3 w
    have C5 : Hid (∀ w, Calls Tryd.prog 16 #[.agg cy.toArray, .agg cx.toArray] w fun e w' => e = .returned (.agg c1.toArray) ∧ Below w.heap.size w w') := Lib.hid fun w => by
      rw [Hcx.out, Hcy.out, hc1, xorL_comm x y]; exact xor_any y x ly lx w
    have C6 : Hid (∀ w, Calls Tryd.prog 16 #[.agg cx.toArray, .agg cx.toArray] w fun e w' => e = .returned (.agg #[.int .u8 0, .int .u8 0, .int .u8 0, .int .u8 0, .int .u8 0, .int .u8 0, .int .u8 0, .int .u8 0, .int .u8 0, .int .u8 0, .int .u8 0, .int .u8 0, .int .u8 0, .int .u8 0, .int .u8 0, .int .u8 0, .int .u8 0, .int .u8 0, .int .u8 0, .int .u8 0, .int .u8 0, .int .u8 0, .int .u8 0, .int .u8 0, .int .u8 0, .int .u8 0, .int .u8 0, .int .u8 0, .int .u8 0, .int .u8 0, .int .u8 0, .int .u8 0]) ∧ Below w.heap.size w w') := Lib.hid fun w => by
      have := xor_any x x lx lx w
      rw [xorL_self x lx, ← Hcx.out] at this
      exact this
    have C7 : Hid (∀ w, Calls Tryd.prog 13 #[.agg #[.int .u8 0, .int .u8 0, .int .u8 0, .int .u8 0, .int .u8 0, .int .u8 0, .int .u8 0, .int .u8 0, .int .u8 0, .int .u8 0, .int .u8 0, .int .u8 0, .int .u8 0, .int .u8 0, .int .u8 0, .int .u8 0, .int .u8 0, .int .u8 0, .int .u8 0, .int .u8 0, .int .u8 0, .int .u8 0, .int .u8 0, .int .u8 0, .int .u8 0, .int .u8 0, .int .u8 0, .int .u8 0, .int .u8 0, .int .u8 0, .int .u8 0, .int .u8 0]] w fun e w' => e = .returned (.bool true) ∧ Below w.heap.size w w') := Lib.hid fun w => by
      have := zero_any zero32 rfl w
      rw [decide_eq_true (rfl : zero32 = zero32)] at this
      exact this
    have C8 : Hid (∀ w, Calls Tryd.prog 16 #[.agg cx.toArray, .agg #[.int .u8 0, .int .u8 0, .int .u8 0, .int .u8 0, .int .u8 0, .int .u8 0, .int .u8 0, .int .u8 0, .int .u8 0, .int .u8 0, .int .u8 0, .int .u8 0, .int .u8 0, .int .u8 0, .int .u8 0, .int .u8 0, .int .u8 0, .int .u8 0, .int .u8 0, .int .u8 0, .int .u8 0, .int .u8 0, .int .u8 0, .int .u8 0, .int .u8 0, .int .u8 0, .int .u8 0, .int .u8 0, .int .u8 0, .int .u8 0, .int .u8 0, .int .u8 0]] w fun e w' => e = .returned (.agg cx.toArray) ∧ Below w.heap.size w w') := Lib.hid fun w => by
      have := xor_any x zero32 lx rfl w
      rw [xorL_zero x lx, ← Hcx.out] at this
      exact this
    have E1 : ∀ w' : World, (binOp .eql 24 (.agg c2.toArray) (.agg c2.toArray)).run Tryd.prog w' = .ok (.bool true) w' := fun w' => by
      have := arr_eql 24 Tryd.underlying24 _ _ l2 l2 w'
      rw [decide_eq_true (rfl : xorL (xorL x y) z = _), ← hc2] at this
      exact this
    have E2 : ∀ w' : World, (binOp .eql 24 (.agg c1.toArray) (.agg c1.toArray)).run Tryd.prog w' = .ok (.bool true) w' := fun w' => by
      have := arr_eql 24 Tryd.underlying24 _ _ l1 l1 w'
      rw [decide_eq_true (rfl : xorL x y = _), ← hc1] at this
      exact this
    have E3 : ∀ w' : World, (binOp .eql 24 (.agg cx.toArray) (.agg cx.toArray)).run Tryd.prog w' = .ok (.bool true) w' := fun w' => by
      have := arr_eql 24 Tryd.underlying24 _ _ lx lx w'
      rw [decide_eq_true (rfl : x = x), ← Hcx.out] at this
      exact this
    clear hc1 hc2 hc3 lx ly lz l1 l2 l3
    have s0 := hT.drew
    have b0 := hB.drew
    clear hT hB
    go_wp2_with fail
    refine held_start (Three 24 a b c cx cy cz) (by kernel_rfl) s0 ?_
    generalize wc.drew = v0 at *
    refine held_take 0 (by rfl) (by kernel_rfl) (by rfl) s0 (load_yield 24 (.tmp 7) (by rfl) _ (by rfl) 24 cx (fun _ h => h.1) _ Tryd.underlying24 rfl KX.out) ?_
    try simp only [Act.put, List.setIfInBounds_toArray, List.set_cons_zero, List.set_cons_succ]
    refine held_take 1 (by rfl) (by kernel_rfl) (by rfl) s0 (load_yield 24 (.tmp 8) (by rfl) _ (by rfl) 24 cy (fun _ h => h.2.1) _ Tryd.underlying24 rfl KY.out) ?_
    try simp only [Act.put, List.setIfInBounds_toArray, List.set_cons_zero, List.set_cons_succ]
    refine held_take 3 (by rfl) (by kernel_rfl) (by rfl) s0 (load_yield 24 (.tmp 9) (by rfl) _ (by rfl) 24 cz (fun _ h => h.2.2) _ Tryd.underlying24 rfl KZ.out) ?_
    try simp only [Act.put, List.setIfInBounds_toArray, List.set_cons_zero, List.set_cons_succ]
    refine held_take 5 (by rfl) (by kernel_rfl) (by rfl) s0 (load_yield 24 (.tmp 7) (by rfl) _ (by rfl) 24 cx (fun _ h => h.1) _ Tryd.underlying24 rfl KX.out) ?_
    try simp only [Act.put, List.setIfInBounds_toArray, List.set_cons_zero, List.set_cons_succ]
    refine held_take 6 (by rfl) (by kernel_rfl) (by rfl) s0 (load_yield 24 (.tmp 8) (by rfl) _ (by rfl) 24 cy (fun _ h => h.2.1) _ Tryd.underlying24 rfl KY.out) ?_
    try simp only [Act.put, List.setIfInBounds_toArray, List.set_cons_zero, List.set_cons_succ]
    refine held_take 7 (by rfl) (by kernel_rfl) (by rfl) s0 (load_yield 24 (.tmp 9) (by rfl) _ (by rfl) 24 cz (fun _ h => h.2.2) _ Tryd.underlying24 rfl KZ.out) ?_
    try simp only [Act.put, List.setIfInBounds_toArray, List.set_cons_zero, List.set_cons_succ]
    refine held_one 2 (by rfl) (by kernel_rfl) (by rfl) (fun K hK => ?_)
    go_wp2_with fail
    refine (C1.out _).mono ?_
    rintro e v1 ⟨rfl, hb⟩
    have s1 := s0.keep hb
    have b1 := b0.trans (hb.mono b0.size)
    clear hb b0
    go_wp2_with fail
    refine ⟨s1, ?_⟩
    clear s0
    try simp only [Act.put, List.setIfInBounds_toArray, List.set_cons_zero, List.set_cons_succ]
    refine held_one 4 (by rfl) (by kernel_rfl) (by rfl) (fun K hK => ?_)
    go_wp2_with fail
    refine (C2.out _).mono ?_
    rintro e v2 ⟨rfl, hb⟩
    have s2 := s1.keep hb
    have b2 := b1.trans (hb.mono b1.size)
    clear hb b1
    go_wp2_with fail
    refine ⟨s2, ?_⟩
    clear s1
    try simp only [Act.put, List.setIfInBounds_toArray, List.set_cons_zero, List.set_cons_succ]
    refine held_one 8 (by rfl) (by kernel_rfl) (by rfl) (fun K hK => ?_)
    go_wp2_with fail
    refine (C3.out _).mono ?_
    rintro e v3 ⟨rfl, hb⟩
    have s3 := s2.keep hb
    have b3 := b2.trans (hb.mono b2.size)
    clear hb b2
    go_wp2_with fail
    refine ⟨s3, ?_⟩
    clear s2
    try simp only [Act.put, List.setIfInBounds_toArray, List.set_cons_zero, List.set_cons_succ]
    refine held_one 9 (by rfl) (by kernel_rfl) (by rfl) (fun K hK => ?_)
    go_wp2_with fail
    refine (C4.out _).mono ?_
    rintro e v4 ⟨rfl, hb⟩
    have s4 := s3.keep hb
    have b4 := b3.trans (hb.mono b3.size)
    clear hb b3
    go_wp2_with fail
    refine ⟨s4, ?_⟩
    clear s3
    try simp only [Act.put, List.setIfInBounds_toArray, List.set_cons_zero, List.set_cons_succ]
    refine held_take 10 (v := ?_) (by rfl) (by kernel_rfl) (by rfl) s4 ?_ ?_
    rotate_left
    · intro w' _; go_simp; try with_reducible rfl
    try simp only [Act.put, List.setIfInBounds_toArray, List.set_cons_zero, List.set_cons_succ]
    refine held_take 11 (v := ?_) (by rfl) (by kernel_rfl) (by rfl) s4 ?_ ?_
    rotate_left
    · intro w' _; go_simp; try with_reducible rfl
    try simp only [Act.put, List.setIfInBounds_toArray, List.set_cons_zero, List.set_cons_succ]
    refine held_take 12 (by rfl) (by kernel_rfl) (by rfl) s4 (load_yield 24 (.tmp 7) (by rfl) _ (by rfl) 24 cx (fun _ h => h.1) _ Tryd.underlying24 rfl KX.out) ?_
    try simp only [Act.put, List.setIfInBounds_toArray, List.set_cons_zero, List.set_cons_succ]
    refine held_take 13 (by rfl) (by kernel_rfl) (by rfl) s4 (load_yield 24 (.tmp 8) (by rfl) _ (by rfl) 24 cy (fun _ h => h.2.1) _ Tryd.underlying24 rfl KY.out) ?_
    try simp only [Act.put, List.setIfInBounds_toArray, List.set_cons_zero, List.set_cons_succ]
    refine held_take 15 (by rfl) (by kernel_rfl) (by rfl) s4 (load_yield 24 (.tmp 8) (by rfl) _ (by rfl) 24 cy (fun _ h => h.2.1) _ Tryd.underlying24 rfl KY.out) ?_
    try simp only [Act.put, List.setIfInBounds_toArray, List.set_cons_zero, List.set_cons_succ]
    refine held_take 16 (by rfl) (by kernel_rfl) (by rfl) s4 (load_yield 24 (.tmp 7) (by rfl) _ (by rfl) 24 cx (fun _ h => h.1) _ Tryd.underlying24 rfl KX.out) ?_
    try simp only [Act.put, List.setIfInBounds_toArray, List.set_cons_zero, List.set_cons_succ]
    refine held_one 14 (by rfl) (by kernel_rfl) (by rfl) (fun K hK => ?_)
    go_wp2_with fail
    refine (C1.out _).mono ?_
    rintro e v5 ⟨rfl, hb⟩
    have s5 := s4.keep hb
    have b5 := b4.trans (hb.mono b4.size)
    clear hb b4
    go_wp2_with fail
    refine ⟨s5, ?_⟩
    clear s4
    try simp only [Act.put, List.setIfInBounds_toArray, List.set_cons_zero, List.set_cons_succ]
    refine held_one 17 (by rfl) (by kernel_rfl) (by rfl) (fun K hK => ?_)
    go_wp2_with fail
    refine (C5.out _).mono ?_
    rintro e v6 ⟨rfl, hb⟩
    have s6 := s5.keep hb
    have b6 := b5.trans (hb.mono b5.size)
    clear hb b5
    go_wp2_with fail
    refine ⟨s6, ?_⟩
    clear s5
    try simp only [Act.put, List.setIfInBounds_toArray, List.set_cons_zero, List.set_cons_succ]
    refine held_take 18 (v := ?_) (by rfl) (by kernel_rfl) (by rfl) s6 ?_ ?_
    rotate_left
    · intro w' _; go_simp; try with_reducible rfl
    try simp only [Act.put, List.setIfInBounds_toArray, List.set_cons_zero, List.set_cons_succ]
    refine held_take 19 (v := ?_) (by rfl) (by kernel_rfl) (by rfl) s6 ?_ ?_
    rotate_left
    · intro w' _; go_simp; try with_reducible rfl
    try simp only [Act.put, List.setIfInBounds_toArray, List.set_cons_zero, List.set_cons_succ]
    refine held_take 20 (v := ?_) (by rfl) (by kernel_rfl) (by rfl) s6 ?_ ?_
    rotate_left
    · intro w' _; go_simp; try with_reducible rfl
    try simp only [Act.put, List.setIfInBounds_toArray, List.set_cons_zero, List.set_cons_succ]
    refine held_take 21 (by rfl) (by kernel_rfl) (by rfl) s6 (load_yield 24 (.tmp 7) (by rfl) _ (by rfl) 24 cx (fun _ h => h.1) _ Tryd.underlying24 rfl KX.out) ?_
    try simp only [Act.put, List.setIfInBounds_toArray, List.set_cons_zero, List.set_cons_succ]
    refine held_take 22 (by rfl) (by kernel_rfl) (by rfl) s6 (load_yield 24 (.tmp 7) (by rfl) _ (by rfl) 24 cx (fun _ h => h.1) _ Tryd.underlying24 rfl KX.out) ?_
    try simp only [Act.put, List.setIfInBounds_toArray, List.set_cons_zero, List.set_cons_succ]
    refine held_one 23 (by rfl) (by kernel_rfl) (by rfl) (fun K hK => ?_)
    go_wp2_with fail
    refine (C6.out _).mono ?_
    rintro e v7 ⟨rfl, hb⟩
    have s7 := s6.keep hb
    have b7 := b6.trans (hb.mono b6.size)
    clear hb b6
    go_wp2_with fail
    refine ⟨s7, ?_⟩
    clear s6
    try simp only [Act.put, List.setIfInBounds_toArray, List.set_cons_zero, List.set_cons_succ]
    refine held_one 24 (by rfl) (by kernel_rfl) (by rfl) (fun K hK => ?_)
    go_wp2_with fail
    refine (C7.out _).mono ?_
    rintro e v8 ⟨rfl, hb⟩
    have s8 := s7.keep hb
    have b8 := b7.trans (hb.mono b7.size)
    clear hb b7
    go_wp2_with fail
    refine ⟨s8, ?_⟩
    clear s7
    try simp only [Act.put, List.setIfInBounds_toArray, List.set_cons_zero, List.set_cons_succ]
    refine held_take 25 (v := ?_) (by rfl) (by kernel_rfl) (by rfl) s8 ?_ ?_
    rotate_left
    · intro w' _; go_simp; try with_reducible rfl
    try simp only [Act.put, List.setIfInBounds_toArray, List.set_cons_zero, List.set_cons_succ]
    refine held_take 26 (v := ?_) (by rfl) (by kernel_rfl) (by rfl) s8 ?_ ?_
    rotate_left
    · intro w' _; go_simp; try with_reducible rfl
    try simp only [Act.put, List.setIfInBounds_toArray, List.set_cons_zero, List.set_cons_succ]
    refine held_take 27 (by rfl) (by kernel_rfl) (by rfl) s8 (load_yield 24 (.tmp 7) (by rfl) _ (by rfl) 24 cx (fun _ h => h.1) _ Tryd.underlying24 rfl KX.out) ?_
    try simp only [Act.put, List.setIfInBounds_toArray, List.set_cons_zero, List.set_cons_succ]
    refine held_take 28 (v := ?_) (by rfl) (by kernel_rfl) (by rfl) s8 ?_ ?_
    rotate_left
    · intro w' _; go_simp; try with_reducible rfl
    try simp only [Act.put, List.setIfInBounds_toArray, List.set_cons_zero, List.set_cons_succ]
    refine held_take 30 (by rfl) (by kernel_rfl) (by rfl) s8 (load_yield 24 (.tmp 7) (by rfl) _ (by rfl) 24 cx (fun _ h => h.1) _ Tryd.underlying24 rfl KX.out) ?_
    try simp only [Act.put, List.setIfInBounds_toArray, List.set_cons_zero, List.set_cons_succ]
    refine held_one 29 (by rfl) (by kernel_rfl) (by rfl) (fun K hK => ?_)
    go_wp2_with fail
    refine (C8.out _).mono ?_
    rintro e v9 ⟨rfl, hb⟩
    have s9 := s8.keep hb
    have b9 := b8.trans (hb.mono b8.size)
    clear hb b8
    go_wp2_with fail
    refine ⟨s9, ?_⟩
    clear s8
    try simp only [Act.put, List.setIfInBounds_toArray, List.set_cons_zero, List.set_cons_succ]
    refine held_take 31 (v := ?_) (by rfl) (by kernel_rfl) (by rfl) s9 ?_ ?_
    rotate_left
    · intro w' _; go_simp; try with_reducible rfl
    try simp only [Act.put, List.setIfInBounds_toArray, List.set_cons_zero, List.set_cons_succ]
    refine held_take 32 (v := ?_) (by rfl) (by kernel_rfl) (by rfl) s9 ?_ ?_
    rotate_left
    · intro w' _; go_simp; try with_reducible rfl
    try simp only [Act.put, List.setIfInBounds_toArray, List.set_cons_zero, List.set_cons_succ]
    refine held_take 33 (v := ?_) (by rfl) (by kernel_rfl) (by rfl) s9 ?_ ?_
    rotate_left
    · intro w' _; go_simp; try with_reducible rfl
    try simp only [Act.put, List.setIfInBounds_toArray, List.set_cons_zero, List.set_cons_succ]
    refine held_done (by kernel_rfl) ?_
    go_wp2_with fail
    go_ret
    exact ⟨rfl, b9⟩
end Go.Proofs.YtpfckamobjcdhaaDoor
