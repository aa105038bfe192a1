/- Contracts: cause.causes, cause.Steps, cause.Stage at a chain of two. Conditions: the two variables as laid; the blocks known whole. -/
import Derived.Test.YtgaphplndpdhaaaFmtAwake
namespace Go.Proofs.YtgaphplndpdhaaaFmt
open Go.RowKit
theorem pc_info : (Tryf.prog.info? 31).map (fun i => (i.zero, i.size, i.bytes)) = some (some (.pointer none), 1, 8) := by kernel_rfl
theorem i64_info : (Tryf.prog.info? 2).map (fun i => (i.zero, i.size, i.bytes)) = some (some (.int .i64 0), 1, 8) := by kernel_rfl
/-- A row that the call owns, and all below b as it was. -/
def RowT (T : TypeId) (w0 : World) (b : Nat) (v : Value) (xs : List Value) (w : World) : Prop := w.ownsRow b T 1 v xs.length xs ∧ Below b w0 w ∧ b ≤ w.heap.size
theorem own_baseT {w : World} {base n : Nat} {e : TypeId} {v : Value} {xs : List Value} (h : w.ownsRow base e 1 v n xs) : ∀ k, v.ownBlock = some k → base ≤ k := own_base h
namespace RowT
variable {T : TypeId} {w0 w w' : World} {b : Nat} {v : Value} {xs : List Value}
theorem start (T : TypeId) (w : World) : RowT T w w.heap.size (.slice none 0 0) [] w := ⟨World.ownsRow_nil _ _ _ _, Below.refl _ _, Nat.le_refl _⟩
theorem on {s : Nat} {v' : Value} {ys : List Value} (h : RowT T w0 b v xs w) (ho : w'.ownsRow b T 1 v' (xs.length + s) (xs ++ ys)) (hs : ys.length = s) (hg : w.grownBy w' v.ownBlock) : RowT T w0 b v' (xs ++ ys) w' := by
  subst hs
  refine ⟨by rw [List.length_append]; exact ho, h.2.1.grown hg h.2.2 (fun k hk => own_base h.1 k hk), Nat.le_trans h.2.2 hg.size⟩
theorem alloc (h : RowT T w0 b v xs w) (o : Obj) : RowT T w0 b v xs (w.alloc o) :=
  ⟨h.1.alloc o, h.2.1.alloc h.2.2 o, by have := h.2.2; simp; omega⟩
theorem keep (h : RowT T w0 b v xs w) (hb : Below w.heap.size w w') : RowT T w0 b v xs w' :=
  ⟨h.1.kept (row := none) ⟨hb.os, hb.tape, hb.output, hb.size, fun k hk _ => hb.block k hk⟩ (by
    rcases h.1.2 with ⟨rfl, _⟩ | ⟨g, cap, cur, rfl, _⟩
    · exact .inl rfl
    · exact .inr (by simp [Value.ownBlock])), h.2.1.trans (hb.mono h.2.2), Nat.le_trans h.2.2 hb.size⟩
theorem first (h : RowT T w0 b v xs w) (hx : xs ≠ []) : ∃ g cap, v = .slice (some ⟨g, 0, none⟩) xs.length cap ∧ ∀ j u, xs[j]? = some u → w.cell? (Addr.add ⟨g, 0, none⟩ j) = some u := by
  rcases h.1.2 with ⟨_, h0⟩ | ⟨g, cap, cur, rfl, _⟩
  · exact absurd (List.eq_nil_of_length_eq_zero h0) hx
  · exact ⟨g, cap, rfl, h.1.cells (g := g) rfl⟩
end RowT
theorem wp_one {ops : Array Oper} {rest : List Oper} {o : Oper} {a : Act} {Q : Exit → Act → World → Prop} {T LT : TypeId} {z : Value} (hLT : Tryf.prog.underlying LT = some (.slice T)) (hI : (Tryf.prog.info? T).map (fun i => (i.zero, i.size, i.bytes)) = some (some z, 1, 8)) (hz : z.cells.size = 1)
    (hgd : o.guard = none) (sl x : Operand) (ho : o.op = .call { callee := .builtin .append, args := #[sl, x], argTypes := #[LT, LT] }) {w0 w : World} {b : Nat} {v : Value} {xs : List Value} (R : RowT T w0 b v xs w)
    (hs : a.eval sl = v) (g : Nat) (u : Value) (hx : a.eval x = .slice (some ⟨g, 0, none⟩) 1 1) (hc : w.cell? ⟨g, 0, none⟩ = some u) (hu : u.oneCell' = true) (hn : xs.length ≤ 1000)
    (h : ∀ v' w', RowT T w0 b v' (xs ++ [u]) w' → wpList Tryf.prog ops Q rest (a.put o.dst v') w') : wpList Tryf.prog ops Q (o :: rest) a w := by
  obtain ⟨i0, hi, hz0, hz1, hz2⟩ := info_parts hI
  refine wpList_append_own _ hgd sl x LT ho b T i0 z 1 8 hLT hi hz0 hz1 hz2 hz (by decide) v xs.length xs hs R.1 ⟨g, 0, none⟩ 1 1 [u] hx rfl ?_ ?_ (by unfold maxLen; omega) (by omega) R.2.2
    fun v' w' ho' hg' _ => h v' w' (R.on ho' rfl hg')
  · intro j y hj
    cases j with
    | zero => simp at hj; subst hj; simpa [Addr.add] using hc
    | succ j => simp at hj
  · intro y hy; simp at hy; subst hy; exact hu
set_option maxRecDepth 100000 in
set_option maxHeartbeats 4000000 in
theorem causes_2 (f g : Nat) (t s : ByteArray) (m n c : Int) (w : World) (hs : 1 < w.heap.size) (hg : w.cell? ⟨1, 0, none⟩ = some theErr)
    (hF : IsC w f t m (ofC g)) (hC : IsC w g s n (.iface 26 (.int .i64 c))) :
    Calls Tryf.prog 17 #[ofC f] w fun e w' => ∃ v, e = .returned v ∧ RowT 31 w w.heap.size v [.pointer (some ⟨f, 0, none⟩), .pointer (some ⟨g, 0, none⟩)] w' := by
  have kS : Hid (∀ w', Below w.heap.size w w' → 1 < w'.heap.size) := Lib.hid fun w' hb => Nat.lt_of_lt_of_le hs hb.size
  have kG : Hid (∀ w', Below w.heap.size w w' → w'.cell? ⟨1, 0, none⟩ = some theErr) := Lib.hid fun w' hb => keepErr hs hg hb
  have HF := Lib.hid hF
  have HC := Lib.hid hC
  have R0 := RowT.start 31 w
  clear hF hC hg hs
  unfold ofC at *
  go_enter Tryf.func17, Tryf.ntmps17
  go_wp2_with (go_at_call 24; refine (out_cause f _ (kS.out _ R0.2.1) (kG.out _ R0.2.1)).mono ?_; rintro e w1 ⟨rfl, hb⟩; have R1 := R0.keep hb; clear hb R0)
  refine wp_loop_rounds 3 ?_
  rw [rounds_succ]
  go_wp2_with (first
    | (refine wp_one Tryf.underlying47 pc_info rfl rfl (.tmp 14) (.tmp 16) rfl (R1.alloc (.cells #[.pointer (some ⟨f, 0, none⟩)] 31)) rfl w1.heap.size (.pointer (some ⟨f, 0, none⟩)) rfl (by simp) rfl (by decide) ?_; intro v2 w2 R2; have c1 := (Has.keep HF.out R2.2.1 (Has.lt HF.out)).cellv (i := 2) (v := .iface 31 (.pointer (some ⟨g, 0, none⟩))) rfl; clear R1)
    | (go_at_call 24; refine (out_cause g _ (kS.out _ R2.2.1) (kG.out _ R2.2.1)).mono ?_; rintro e w3 ⟨rfl, hb⟩; have R3 := R2.keep hb; clear hb R2 c1))
  rw [rounds_succ]
  go_wp2_with (first
    | (refine wp_one Tryf.underlying47 pc_info rfl rfl (.tmp 14) (.tmp 16) rfl (R3.alloc (.cells #[.pointer (some ⟨g, 0, none⟩)] 31)) rfl w3.heap.size (.pointer (some ⟨g, 0, none⟩)) rfl (by simp) rfl (by simp) ?_; intro v4 w4 R4; have c1 := (Has.keep HC.out R4.2.1 (Has.lt HC.out)).cellv (i := 2) (v := .iface 26 (.int .i64 c)) rfl; clear R3)
    | (go_at_call 24; refine (out_num c _ (kS.out _ R4.2.1) (kG.out _ R4.2.1)).mono ?_; rintro e w5 ⟨rfl, hb⟩; have R5 := R4.keep hb; clear hb R4 c1))
  rw [rounds_succ]
  go_wp2_with fail
  go_ret
  exact ⟨v4, rfl, R5⟩
set_option maxRecDepth 100000 in
set_option maxHeartbeats 4000000 in
theorem steps_2 (f g : Nat) (t s : ByteArray) (m n c : Int) (w : World) (hs : 1 < w.heap.size) (hg : w.cell? ⟨1, 0, none⟩ = some theErr)
    (hF : IsC w f t m (ofC g)) (hC : IsC w g s n (.iface 26 (.int .i64 c))) :
    Calls Tryf.prog 8 #[ofC f] w fun e w' => ∃ p cap, e = .returned (.slice p 2 cap) ∧ Below w.heap.size w w' := by
  have hK := Lib.hid (causes_2 f g t s m n c w hs hg hF hC)
  have HF := Lib.hid hF
  have HC := Lib.hid hC
  clear hF hC hg hs
  unfold ofC at *
  go_enter Tryf.func8, Tryf.ntmps8
  go_wp2_with (go_at_call 17; refine hK.out.mono ?_; rintro e w1 ⟨v, rfl, R0⟩; obtain ⟨gg, cap, rfl, hcell⟩ := R0.first (by simp); have c0 := hcell 0 _ rfl; have c1 := hcell 1 _ rfl; have hB := R0.2.1; clear hcell R0)
  have c0 : w1.cell? ⟨gg, 0, none⟩ = some (.pointer (some ⟨f, 0, none⟩)) := c0
  have c1 : w1.cell? ⟨gg, 1, none⟩ = some (.pointer (some ⟨g, 0, none⟩)) := c1
  have HC1 := Lib.hid c1
  have HB := Lib.hid hB
  have F1 := Lib.hid (Has.keep HF.out hB (Has.lt HF.out))
  have C1 := Lib.hid (Has.keep HC.out hB (Has.lt HC.out))
  have f1 := F1.out.cellv (i := 1) (v := .int .i64 m) rfl
  have R0 := RowT.start 2 w1
  clear hB c1
  refine wp_loop_rounds 3 ?_
  rw [rounds_succ]
  go_wp2_with (refine wp_one Tryf.underlying29 i64_info rfl rfl (.tmp 13) (.tmp 18) rfl (R0.alloc (.cells #[.int .i64 m] 2)) rfl w1.heap.size (.int .i64 m) rfl (by simp) rfl (by simp) ?_; intro v2 w2 R2; clear R0)
  have c2 := (R2.2.1.cell (p := ⟨gg, 1, none⟩) (cell_lt HC1.out)).trans HC1.out
  have f2 := (Has.keep C1.out R2.2.1 (Has.lt C1.out)).cellv (i := 1) (v := .int .i64 n) rfl
  clear c0 f1
  rw [rounds_succ]
  go_wp2_with (refine wp_one Tryf.underlying29 i64_info rfl rfl (.tmp 13) (.tmp 18) rfl (R2.alloc (.cells #[.int .i64 n] 2)) rfl w2.heap.size (.int .i64 n) rfl (by simp) rfl (by simp) ?_; intro v3 w3 R3; clear R2)
  rw [rounds_succ]
  go_wp2_with fail
  obtain ⟨g3, cap3, rfl, _⟩ := R3.first (by simp)
  go_ret
  exact ⟨_, _, rfl, HB.out.trans (R3.2.1.mono HB.out.size)⟩
set_option maxRecDepth 100000 in
set_option maxHeartbeats 4000000 in
theorem stage_2 (f g : Nat) (t s : ByteArray) (m n c : Int) (w : World) (hs : 1 < w.heap.size) (hg : w.cell? ⟨1, 0, none⟩ = some theErr)
    (hF : IsC w f t m (ofC g)) (hC : IsC w g s n (.iface 26 (.int .i64 c))) :
    Calls Tryf.prog 9 #[ofC f] w fun e w' => e = .returned (.string s) ∧ Below w.heap.size w w' := by
  have hK := Lib.hid (causes_2 f g t s m n c w hs hg hF hC)
  have HF := Lib.hid hF
  have HC := Lib.hid hC
  clear hF hC hg hs
  unfold ofC at *
  go_enter Tryf.func9, Tryf.ntmps9
  go_wp2_with (go_at_call 17; refine hK.out.mono ?_; rintro e w1 ⟨v, rfl, R0⟩; obtain ⟨gg, cap, rfl, hcell⟩ := R0.first (by simp); have c0 := hcell 0 _ rfl; have c1 := hcell 1 _ rfl; have hB := R0.2.1; clear hcell R0)
  have c0 : w1.cell? ⟨gg, 0, none⟩ = some (.pointer (some ⟨f, 0, none⟩)) := c0
  have c1 : w1.cell? ⟨gg, 1, none⟩ = some (.pointer (some ⟨g, 0, none⟩)) := c1
  have HB := Lib.hid hB
  have f1 := (Has.keep HF.out hB (Has.lt HF.out)).cellv (i := 0) (v := .string t) rfl
  have f2 := (Has.keep HC.out hB (Has.lt HC.out)).cellv (i := 0) (v := .string s) rfl
  clear hB
  refine wp_loop_rounds 3 ?_
  rw [rounds_succ]
  go_wp2_with fail
  rw [rounds_succ]
  go_wp2_with fail
  rw [rounds_succ]
  go_wp2_with fail
  go_ret
  exact ⟨rfl, HB.out⟩
end Go.Proofs.YtgaphplndpdhaaaFmt
