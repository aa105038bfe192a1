/- A peeling in memory: a row of Booleans of the call's own; what is put behind a row lies in it or in a new block; a peeling's box and its four rows. No condition. -/
import Derived.Test.YtnkcehmgagpadaaDoorGp3
import Derived.Test.YtnkcehmgagpadaaDoorSq
import Derived.Test.YtnkcehmgagpadaaDoorGp16
namespace Go.Proofs.YtnkcehmgagpadaaDoor
open Go.RowKit
/-- A block of this type. -/
def BlkT (w : World) (k : Nat) (T : TypeId) : Prop := ∃ cs f, w.heap[k]? = some (.cells cs T f)
theorem BlkT.ne {w : World} {k j : Nat} {T E : TypeId} (h : BlkT w k T) (h2 : BlkT w j E) (hT : T ≠ E) : k ≠ j := fun e => by
  subst e
  obtain ⟨a, b, h⟩ := h
  obtain ⟨c, d, h2⟩ := h2
  have := Option.some.inj (h.symm.trans h2)
  injection this with _ h3 _
  exact hT h3
theorem Has.blkT {w : World} {g : Nat} {T : TypeId} {l : List Value} (h : Has w g T l) : BlkT w g T := ⟨_, _, h⟩
theorem RowO.blkT {w : World} {base : Nat} {E : TypeId} {v : Value} {L : List Ce} (h : RowO base E w v L) : ∀ k, Value.ownBlock v = some k → BlkT w k E := fun k hk => by
  rcases h.2.2 with ⟨rfl, _⟩ | ⟨g', cap, cur, rfl, _, hg, _⟩
  · cases hk
  · obtain rfl : g' = k := Option.some.inj hk
    exact ⟨_, _, hg⟩
theorem RowS.blkT {w : World} {base : Nat} {v : Value} {L : List Su} (h : RowS base w v L) : ∀ k, Value.ownBlock v = some k → BlkT w k 42 := fun k hk => by
  rcases h.2 with ⟨rfl, _⟩ | ⟨g', cap, cur, rfl, _, hg, _⟩
  · cases hk
  · obtain rfl : g' = k := Option.some.inj hk
    exact ⟨_, _, hg⟩
theorem RowS.off {w w' : World} {base : Nat} {v : Value} {L : List Su} (h : RowS base w v L) (hk : ∀ k, Value.ownBlock v = some k → w'.heap[k]? = w.heap[k]?) : RowS base w' v L := by
  rcases h.2 with ⟨rfl, h0⟩ | ⟨g', cap, cur, rfl, hb', hg', r⟩
  · exact ⟨h.1, .inl ⟨rfl, h0⟩⟩
  · exact ⟨h.1, .inr ⟨g', cap, cur, rfl, hb', (hk g' rfl).trans hg', r⟩⟩
theorem RowS.lt {w : World} {base : Nat} {v : Value} {L : List Su} (h : RowS base w v L) : ∀ k, Value.ownBlock v = some k → k < w.heap.size := fun k hk => (World.ownsRow.lt h k hk).2
theorem RowS.base {w : World} {base : Nat} {v : Value} {L : List Su} (h : RowS base w v L) : ∀ k, Value.ownBlock v = some k → base ≤ k := fun k hk => (World.ownsRow.lt h k hk).1
/-- A row of Booleans of the call's own. -/
def RowB (base : Nat) (w : World) (v : Value) (A : List Bool) : Prop := ∃ g, v = .slice (some ⟨g, 0, none⟩) A.length A.length ∧ base ≤ g ∧ Has w g 4 (A.map Value.bool)
theorem RowB.flz {base : Nat} {w w' : World} {v : Value} {A : List Bool} (h : RowB base w v A) (he : Flz w w') : RowB base w' v A := by
  obtain ⟨g, h1, h2, h3⟩ := h
  exact ⟨g, h1, h2, h3.flz he (by decide)⟩
theorem RowB.keep {base : Nat} {w w' : World} {v : Value} {A : List Bool} (h : RowB base w v A) (hb : Below w.heap.size w w') : RowB base w' v A := h.flz (Flz.of hb)
theorem RowB.less {base b : Nat} {w : World} {v : Value} {A : List Bool} (h : RowB base w v A) (hb : b ≤ base) : RowB b w v A := by
  obtain ⟨g, h1, h2, h3⟩ := h
  exact ⟨g, h1, Nat.le_trans hb h2, h3⟩
theorem RowB.off {base : Nat} {w w' : World} {v : Value} {A : List Bool} (h : RowB base w v A) (hk : ∀ k, Value.ownBlock v = some k → w'.heap[k]? = w.heap[k]?) : RowB base w' v A := by
  obtain ⟨g, rfl, h2, h3⟩ := h
  exact ⟨g, rfl, h2, (hk g rfl).trans h3⟩
theorem RowB.blkT {w : World} {base : Nat} {v : Value} {A : List Bool} (h : RowB base w v A) : ∀ k, Value.ownBlock v = some k → BlkT w k 4 := fun k hk => by
  obtain ⟨g, rfl, h2, h3⟩ := h
  obtain rfl : g = k := Option.some.inj hk
  exact ⟨_, _, h3⟩
section
variable {o : Oper} {a : Act} {w : World} {Q : Exit → Act → World → Prop} {K : Act → World → Prop}
/-- A Boolean is stored into it. -/
theorem wp_store_b (x y : Operand) (ho : o.op = .store 4 x y) (base : Nat) (v : Value) (A : List Bool) (hO : RowB base w v A) (g n c p : Nat) (hv : v = .slice (some ⟨g, 0, none⟩) n c) (hp : p < A.length)
    (hx : a.eval x = .pointer (some ((⟨g, 0, none⟩ : Addr).add (p * 1)))) (t : Bool) (hy : a.eval y = .bool t)
    (h : ∀ w', RowB base w' v (A.set p t) → (∀ b, b ≤ g → Below b w w') → (∀ j, j ≠ g → w'.heap[j]? = w.heap[j]?) → K (a.put o.dst undef) w') : o.wp Tryd.prog a w K Q := by
  obtain ⟨g', hv', hb, hH⟩ := hO
  rw [hv] at hv'
  simp only [Value.slice.injEq, Option.some.injEq, Addr.mk.injEq, and_true] at hv'
  obtain ⟨rfl, rfl, rfl⟩ := hv'
  rw [add_lit', Nat.zero_add, Nat.mul_one] at hx
  refine wp_store_at 4 (by kernel_rfl) x y ho g p 4 _ hH (by rw [List.length_map]; exact hp) hx (.bool t) rfl hy fun w' h1 h2 h3 => h w' ⟨g, by rw [hv, List.length_set], hb, ?_⟩ h2 h3
  rw [List.map_set]; exact h1
/-- A row of as many that are false. -/
theorem wp_make_b (T : TypeId) (hT : Tryd.prog.underlying T = some (.slice 4)) (x y : Operand) (ho : o.op = .makeSlice T x y) (n : Nat) (hn : n ≤ 1000000) (hx : a.eval x = .int .i64 (n : Int)) (hy : a.eval y = .int .i64 (n : Int))
    (h : ∀ w', RowB w.heap.size w' (.slice (some ⟨w.heap.size, 0, none⟩) n n) (List.replicate n false) → Below w.heap.size w w' → K (a.put o.dst (.slice (some ⟨w.heap.size, 0, none⟩) n n)) w') : o.wp Tryd.prog a w K Q := by
  have hi : (Tryd.prog.info? 4).map (fun i => (i.zero, i.size, i.bytes)) = some (some (.bool false), 1, 1) := by kernel_rfl
  obtain ⟨i0, hi, hz0, hz1, hz2⟩ := info_parts hi
  obtain ⟨w', hrun, h1, h2⟩ := run_make_full (P := Tryd.prog) w w.heap.size T 4 i0 _ 1 hT hi hz0 hz1 .i64 .i64 n (by rw [hz2]; omega) (by unfold maxLen; omega) (Nat.le_refl _)
  unfold Oper.wp execOp
  simp only [ho, hx, hy, Sem.run_bind, hrun, Result.andThen_ok]
  refine h w' ⟨w.heap.size, by rw [List.length_replicate], Nat.le_refl _, ?_⟩ ((Below.refl w.heap.size w).grown h2 (Nat.le_refl _) (fun k hk => by cases hk))
  rcases h1.2 with ⟨he, _⟩ | ⟨g', cap, cur, he, _, hg, _, _, h4, h5⟩
  · cases he
  · simp only [Value.slice.injEq, Option.some.injEq, Addr.mk.injEq, and_true, true_and] at he
    obtain ⟨rfl, rfl⟩ := he
    rw [List.take_of_length_le (by rw [Array.length_toList, h4]; exact Nat.le_refl _), show ((Value.bool false).cells) = #[Value.bool false] from rfl, toList_madeCells_one, Nat.mul_one] at h5
    unfold Has
    rw [hg, List.map_replicate, ← h5]
/-- What one sum put behind a row leaves as it was: all blocks but the row's, and what the row held; twice is as once. -/
def EPx (base : Nat) (v : Value) (L : List Su) (M : Su) (w w' : World) : Prop := Grw w w' v.ownBlock ∧ ∀ u, (RowS base w u L → RowS base w' u L) ∧ (RowS base w u (L ++ [M]) → RowS base w' u (L ++ [M]))
theorem EPx.refl {base : Nat} {v : Value} {L : List Su} {M : Su} (w : World) : EPx base v L M w w := ⟨Grw.refl _ _, fun _ => ⟨fun h => h, fun h => h⟩⟩
theorem EPx.al {base : Nat} {v : Value} {L : List Su} {M : Su} (w : World) (o : Obj) : EPx base v L M w (w.alloc o) :=
  ⟨Grw.of ((Below.refl w.heap.size w).alloc (Nat.le_refl _) o) _, fun _ => ⟨fun h => h.flz (Flz.al w o), fun h => h.flz (Flz.al w o)⟩⟩
def SPx (base : Nat) (W : World) (v : Value) (L : List Su) (w : World) : Prop := Grw W w v.ownBlock ∧ RowS base w v L
theorem SPx.alloc {base : Nat} {W : World} {v : Value} {L : List Su} {w : World} (h : SPx base W v L w) (o : Obj) : SPx base W v L (w.alloc o) :=
  ⟨h.1.bel ((Below.refl w.heap.size w).alloc (Nat.le_refl _) o), h.2.flz (Flz.al w o)⟩
theorem SPx.size {base : Nat} {W : World} {v : Value} {L : List Su} {w : World} (h : SPx base W v L w) : W.heap.size ≤ w.heap.size := h.1.size
theorem SPx.has {base : Nat} {W : World} {v : Value} {L : List Su} {w : World} (h : SPx base W v L w) {g : Nat} {T : TypeId} {l : List Value} (hh : Has W g T l) (hr : ∀ k, v.ownBlock = some k → k ≠ g) : Has w g T l := h.1.has hh hr
theorem SPx.app {base : Nat} {W : World} {v : Value} {L : List Su} {M : Su} {w w' : World} (h : SPx base W v L w) (he : EPx base v L M w w') : SPx base W v L w' := ⟨h.1.tr he.1, (he.2 v).1 h.2⟩
/-- One sum put behind a row of the call's own: it lies where it lay, or in a new block. -/
theorem wp_app_su (s x : Operand) (ho : o.op = .call { callee := .builtin .append, args := #[s, x], argTypes := #[23, 23] })
    (base : Nat) (v : Value) (L : List Su) (hs : a.eval s = v) (hown : RowS base w v L)
    (ad : Nat) (M : Su) (hx : a.eval x = .slice (some ⟨ad, 0, none⟩) 1 1) (hl : Has w ad 42 (encU M)) (hn : L.length + 1 ≤ 1000000) (hbase : base ≤ w.heap.size)
    (h : ∀ v' w', RowS base w' v' (L ++ [M]) → EPx base v L M w w' → (∀ k, Value.ownBlock v' = some k → Value.ownBlock v = some k ∨ w.heap.size ≤ k) → K (a.put o.dst v') w') : o.wp Tryd.prog a w K Q := by
  obtain ⟨i0, hi, hz0, hz1, hz2⟩ := info_parts elSum.2.2
  have hlen : (rowU [M]).length = 1 * 32 := rowU_len [M]
  have hnews : ∀ j u, (rowU [M])[j]? = some u → w.cell? ((⟨ad, 0, none⟩ : Addr).add j) = some u := fun j u hj => by
    obtain ⟨a', h1, _, h3⟩ := (Ss.one hl (Nat.lt_succ_self ad)).get (by rw [rowU_len]; show 0 < 1 * 32; decide)
    cases h1
    exact h3 j u hj
  have hbytes : (L.length + 1) * 32 ≤ 140737488355328 := Nat.le_trans (Nat.mul_le_mul hn (Nat.le_refl 32)) (by decide)
  have fin : ∀ b v' w', w'.ownsRow b 42 32 v' (L.length + 1) (rowU L ++ rowU [M]) → RowS b w' v' (L ++ [M]) := fun b v' w' h1 => by
    unfold RowS OwnU; rw [List.length_append, rowU_app]; exact h1
  have far : ∀ w', w.grownBy w' none → ∀ u, (RowS base w u L → RowS base w' u L) ∧ (RowS base w u (L ++ [M]) → RowS base w' u (L ++ [M])) := fun w' hg u =>
    ⟨fun h => h.off fun k hk => hg.block k (h.lt k hk) (by simp), fun h => h.off fun k hk => hg.block k (h.lt k hk) (by simp)⟩
  have key : ∃ v' w', (Builtin.append_ #[23, 23] o.type #[v, .slice (some ⟨ad, 0, none⟩) 1 1]).run Tryd.prog w = .ok v' w' ∧ RowS base w' v' (L ++ [M]) ∧ EPx base v L M w w' ∧ ∀ k, Value.ownBlock v' = some k → Value.ownBlock v = some k ∨ w.heap.size ≤ k := by
    rcases hown.2 with ⟨rfl, h0⟩ | ⟨g, cap, cur, rfl, hb, hg, h1, h2, h3, h4⟩
    · obtain rfl : L = [] := List.eq_nil_of_length_eq_zero h0
      obtain ⟨v', w', hr, r1, r2, _⟩ := run_append_own (P := Tryd.prog) w w.heap.size 23 o.type 42 i0 _ 32 32 elSum.1 hi hz0 hz1 hz2 rfl (by decide) (.slice none 0 0) 0 [] (World.ownsRow_nil w _ _ 32) ⟨ad, 0, none⟩ 1 1 (rowU [M]) hlen hnews (fun u hu => rowU_one' [M] u hu) (by unfold maxLen; omega) hbytes (Nat.le_refl _)
      have r3 : RowS w.heap.size w' v' [M] := r1
      exact ⟨v', w', hr, r3.less hbase, ⟨r2, far w' r2⟩, fun k hk => .inr (r3.base k hk)⟩
    · by_cases hc : L.length + 1 ≤ cap
      · obtain ⟨w', hr, r1, r2⟩ := run_append_fits (P := Tryd.prog) w base 23 o.type 42 i0 32 elSum.1 hi hz1 g L.length cap (rowU L) hown ⟨ad, 0, none⟩ 1 1 (rowU [M]) hlen hnews (fun u hu => rowU_one' [M] u hu) hc
        have r3 := fin _ _ _ r1
        refine ⟨_, w', hr, r3, ⟨r2, fun u => ?_⟩, fun k hk => .inl hk⟩
        obtain ⟨cur', hg', s3, s4⟩ : ∃ cur' : Array Value, w'.heap[g]? = some (.cells cur' 42 (0, 0)) ∧ cur'.size = cap * 32 ∧ cur'.toList.take ((L.length + 1) * 32) = rowU L ++ rowU [M] := by
          rcases r1.2 with ⟨he, _⟩ | ⟨g2, cap2, cur2, he, _, q1, _, _, q2, q3⟩
          · cases he
          · simp only [Value.slice.injEq, Option.some.injEq, Addr.mk.injEq, and_true, true_and] at he
            obtain ⟨rfl, rfl⟩ := he
            exact ⟨cur2, q1, q2, q3⟩
        have one : ∀ (N : List Su), N.length ≤ L.length + 1 → cur'.toList.take (N.length * 32) = rowU N → RowS base w u N → RowS base w' u N := fun N hN hT hR => by
          rcases hR.2 with ⟨rfl, e0⟩ | ⟨k, cu, cr, rfl, hbk, hgk, e1, e2, e3, e4⟩
          · exact ⟨hR.1, .inl ⟨rfl, e0⟩⟩
          · by_cases hkg : k = g
            · subst hkg
              have e5 := Option.some.inj (hgk.symm.trans hg)
              injection e5 with e5 _ _
              subst e5
              have e6 : cu = cap := by omega
              subst e6
              exact ⟨hR.1, .inr ⟨k, cu, cur', rfl, hbk, hg', e1, e2, s3, hT⟩⟩
            · exact ⟨hR.1, .inr ⟨k, cu, cr, rfl, hbk, (r2.block k (Array.getElem?_eq_some_iff.1 hgk).1 (fun e => hkg (Option.some.inj e))).trans hgk, e1, e2, e3, e4⟩⟩
        refine ⟨one L (Nat.le_succ _) ?_, one (L ++ [M]) (by rw [List.length_append]; exact Nat.le_refl _) (by rw [List.length_append, rowU_app]; exact s4)⟩
        have e7 : cur'.toList.take (L.length * 32) = (cur'.toList.take ((L.length + 1) * 32)).take (L.length * 32) := by rw [List.take_take, Nat.min_eq_left (by omega)]
        rw [e7, s4, ← rowU_len L, List.take_left]
      · obtain ⟨v', w', hr, r1, r2⟩ := run_append_arg_grows (P := Tryd.prog) w 23 o.type 42 i0 _ 32 32 elSum.1 hi hz0 hz1 hz2 rfl (by decide) ⟨g, 0, none⟩ L.length cap (rowU L) (rowU_len L) (fun j u hj => World.ownsRow.cells hown (g := g) rfl j u hj) ⟨ad, 0, none⟩ 1 1 (rowU [M]) hlen hnews (by omega) (by unfold maxLen; omega) hbytes
        have r3 := fin _ _ _ r1
        exact ⟨v', w', hr, r3.less hbase, ⟨⟨r2.os, r2.tape, r2.output, r2.size, fun k hk _ => r2.block k hk (by simp)⟩, far w' r2⟩, fun k hk => .inr (r3.base k hk)⟩
  obtain ⟨v', w', hr, h1, h2, h3⟩ := key
  unfold Oper.wp
  simp [execOp, ho, resolve, invoke, builtin, hs, hx, hr, Result.andThen]
  exact h v' w' h1 h2 h3
end
/-- A peeling: its box, its rows. -/
structure PeS (b : Nat) (w : World) (g s : Nat) (L : List Ce) (A : List Bool) (P M : List Su) (vL vA vP vM : Value) : Prop where
  lo : b ≤ g
  box : Has w g 66 [.int .u64 (s : Int), vL, vA, vP, vM]
  cells : RowO b 47 w vL L
  bools : RowB b w vA A
  plus : RowS b w vP P
  minus : RowS b w vM M
  apart : ∀ k, Value.ownBlock vP = some k → Value.ownBlock vM ≠ some k
theorem PeS.flz {b : Nat} {w w' : World} {g s : Nat} {L : List Ce} {A : List Bool} {P M : List Su} {vL vA vP vM : Value} (h : PeS b w g s L A P M vL vA vP vM) (he : Flz w w') : PeS b w' g s L A P M vL vA vP vM :=
  ⟨h.lo, h.box.flz he (by decide), h.cells.flz he, h.bools.flz he, h.plus.flz he, h.minus.flz he, h.apart⟩
theorem PeS.keep {b : Nat} {w w' : World} {g s : Nat} {L : List Ce} {A : List Bool} {P M : List Su} {vL vA vP vM : Value} (h : PeS b w g s L A P M vL vA vP vM) (hb : Below w.heap.size w w') : PeS b w' g s L A P M vL vA vP vM := h.flz (Flz.of hb)
/-- All of it but one row stays where only that row's block changes. -/
theorem PeS.rest {b : Nat} {w w' : World} {g s : Nat} {L : List Ce} {A : List Bool} {P M : List Su} {vL vA vP vM : Value} (h : PeS b w g s L A P M vL vA vP vM) {k : Nat} (hk : ∀ j, j < w.heap.size → j ≠ k → w'.heap[j]? = w.heap[j]?) :
    (k ≠ g → Has w' g 66 [.int .u64 (s : Int), vL, vA, vP, vM]) ∧ ((∀ j, Value.ownBlock vL = some j → j ≠ k) → RowO b 47 w' vL L) ∧ ((∀ j, Value.ownBlock vA = some j → j ≠ k) → RowB b w' vA A) ∧ ((∀ j, Value.ownBlock vP = some j → j ≠ k) → RowS b w' vP P) ∧ ((∀ j, Value.ownBlock vM = some j → j ≠ k) → RowS b w' vM M) :=
  ⟨fun hg => (hk g h.box.lt (Ne.symm hg)).trans h.box, fun hl => h.cells.off fun j hj => hk j (h.cells.lt j hj) (hl j hj), fun hl => h.bools.off fun j hj => hk j (by obtain ⟨_, _, hB⟩ := h.bools.blkT j hj; exact (Array.getElem?_eq_some_iff.1 hB).1) (hl j hj), fun hl => h.plus.off fun j hj => hk j (h.plus.lt j hj) (hl j hj), fun hl => h.minus.off fun j hj => hk j (h.minus.lt j hj) (hl j hj)⟩
theorem PeS.cell {b : Nat} {w w' : World} {g s : Nat} {L : List Ce} {A : List Bool} {P M : List Su} {vL vA vP vM : Value} (h : PeS b w g s L A P M vL vA vP vM) {gc n c : Nat} (hv : vL = .slice (some ⟨gc, 0, none⟩) n c) {L' : List Ce} (hR : RowO b 47 w' vL L') (hg : w.grownBy w' (some gc)) : PeS b w' g s L' A P M vL vA vP vM := by
  have hB : BlkT w gc 47 := h.cells.blkT gc (by rw [hv]; rfl)
  obtain ⟨r1, _, r3, r4, r5⟩ := h.rest (w' := w') (k := gc) fun j hj hne => hg.block j hj (fun e => hne (Option.some.inj e))
  exact ⟨h.lo, r1 (hB.ne h.box.blkT (by decide)), hR, r3 fun j hj => (h.bools.blkT j hj).ne hB (by decide), r4 fun j hj => (h.plus.blkT j hj).ne hB (by decide), r5 fun j hj => (h.minus.blkT j hj).ne hB (by decide), h.apart⟩
theorem PeS.bool {b : Nat} {w w' : World} {g s : Nat} {L : List Ce} {A : List Bool} {P M : List Su} {vL vA vP vM : Value} (h : PeS b w g s L A P M vL vA vP vM) {gc n c : Nat} (hv : vA = .slice (some ⟨gc, 0, none⟩) n c) {A' : List Bool} (hR : RowB b w' vA A') (hg : ∀ j, j ≠ gc → w'.heap[j]? = w.heap[j]?) : PeS b w' g s L A' P M vL vA vP vM := by
  have hB : BlkT w gc 4 := h.bools.blkT gc (by rw [hv]; rfl)
  obtain ⟨r1, r2, _, r4, r5⟩ := h.rest (w' := w') (k := gc) fun j _ hne => hg j hne
  exact ⟨h.lo, r1 (hB.ne h.box.blkT (by decide)), r2 fun j hj => (h.cells.blkT j hj).ne hB (by decide), hR, r4 fun j hj => (h.plus.blkT j hj).ne hB (by decide), r5 fun j hj => (h.minus.blkT j hj).ne hB (by decide), h.apart⟩
/-- The box is written. -/
theorem PeS.store {b : Nat} {w w' : World} {g s : Nat} {L : List Ce} {A : List Bool} {P M P' M' : List Su} {vL vA vP vM vP' vM' : Value} (h : PeS b w g s L A P M vL vA vP vM) (hb : Has w' g 66 [.int .u64 (s : Int), vL, vA, vP', vM']) (hp : RowS b w vP' P') (hm : RowS b w vM' M') (ha : ∀ k, Value.ownBlock vP' = some k → Value.ownBlock vM' ≠ some k) (hg : ∀ j, j ≠ g → w'.heap[j]? = w.heap[j]?) : PeS b w' g s L A P' M' vL vA vP' vM' := by
  have hB := h.box.blkT
  exact ⟨h.lo, hb, h.cells.off fun j hj => hg j ((h.cells.blkT j hj).ne hB (by decide)), h.bools.off fun j hj => hg j ((h.bools.blkT j hj).ne hB (by decide)), hp.off fun j hj => hg j ((hp.blkT j hj).ne hB (by decide)), hm.off fun j hj => hg j ((hm.blkT j hj).ne hB (by decide)), ha⟩
/-- One put behind the first row, the box not written yet. -/
structure PeA (b : Nat) (w : World) (g s : Nat) (L : List Ce) (A : List Bool) (P M : List Su) (vL vA vP vM vB : Value × Value) : Prop where
  lo : b ≤ g
  box : Has w g 66 [.int .u64 (s : Int), vL.1, vA.1, vB.1, vB.2]
  cells : RowO b 47 w vL.1 L
  bools : RowB b w vA.1 A
  plus : RowS b w vP.1 P
  minus : RowS b w vM.1 M
  apart : ∀ k, Value.ownBlock vP.1 = some k → Value.ownBlock vM.1 ≠ some k
theorem PeA.keep {b : Nat} {w w' : World} {g s : Nat} {L : List Ce} {A : List Bool} {P M : List Su} {vL vA vP vM vB : Value × Value} (h : PeA b w g s L A P M vL vA vP vM vB) (hb : Below w.heap.size w w') : PeA b w' g s L A P M vL vA vP vM vB :=
  ⟨h.lo, h.box.flz (Flz.of hb) (by decide), h.cells.keep hb, h.bools.keep hb, h.plus.keep hb, h.minus.keep hb, h.apart⟩
theorem PeA.store {b : Nat} {w w' : World} {g s : Nat} {L : List Ce} {A : List Bool} {P M : List Su} {vL vA vP vM vB : Value × Value} (h : PeA b w g s L A P M vL vA vP vM vB) (hb : Has w' g 66 [.int .u64 (s : Int), vL.1, vA.1, vP.1, vM.1]) (hg : ∀ j, j ≠ g → w'.heap[j]? = w.heap[j]?) : PeS b w' g s L A P M vL.1 vA.1 vP.1 vM.1 := by
  have hB := h.box.blkT
  exact ⟨h.lo, hb, h.cells.off fun j hj => hg j ((h.cells.blkT j hj).ne hB (by decide)), h.bools.off fun j hj => hg j ((h.bools.blkT j hj).ne hB (by decide)), h.plus.off fun j hj => hg j ((h.plus.blkT j hj).ne hB (by decide)), h.minus.off fun j hj => hg j ((h.minus.blkT j hj).ne hB (by decide)), h.apart⟩
theorem grown_off {w w' : World} {v : Value} (hg : w.grownBy w' v.ownBlock) : ∀ j, j < w.heap.size → Value.ownBlock v ≠ some j → w'.heap[j]? = w.heap[j]? := fun j hj h => hg.block j hj (fun e => h e.symm)
theorem PeS.appP {b : Nat} {w w' : World} {g s : Nat} {L : List Ce} {A : List Bool} {P M P' : List Su} {vL vA vP vM v' : Value} (h : PeS b w g s L A P M vL vA vP vM) (hp : RowS b w' v' P') (hg : w.grownBy w' vP.ownBlock) (hk : ∀ k, Value.ownBlock v' = some k → Value.ownBlock vP = some k ∨ w.heap.size ≤ k) : PeA b w' g s L A P' M (vL, vL) (vA, vA) (v', v') (vM, vM) (vP, vM) := by
  have off := grown_off hg
  have ne : ∀ j T, BlkT w j T → T ≠ 42 → Value.ownBlock vP ≠ some j := fun j T hj hT e => hj.ne (h.plus.blkT j e) hT rfl
  refine ⟨h.lo, (off g h.box.lt (ne g _ h.box.blkT (by decide))).trans h.box, h.cells.off fun j hj => off j (h.cells.lt j hj) (ne j _ (h.cells.blkT j hj) (by decide)), h.bools.off fun j hj => off j ?_ (ne j _ (h.bools.blkT j hj) (by decide)), hp, h.minus.off fun j hj => off j (h.minus.lt j hj) (fun e => h.apart j e hj), fun k h1 h2 => ?_⟩
  · obtain ⟨_, _, hB⟩ := h.bools.blkT j hj; exact (Array.getElem?_eq_some_iff.1 hB).1
  · rcases hk k h1 with e | e
    · exact h.apart k e h2
    · have := h.minus.lt k h2; omega
theorem PeS.appM {b : Nat} {w w' : World} {g s : Nat} {L : List Ce} {A : List Bool} {P M M' : List Su} {vL vA vP vM v' : Value} (h : PeS b w g s L A P M vL vA vP vM) (hp : RowS b w' v' M') (hg : w.grownBy w' vM.ownBlock) (hk : ∀ k, Value.ownBlock v' = some k → Value.ownBlock vM = some k ∨ w.heap.size ≤ k) : PeA b w' g s L A P M' (vL, vL) (vA, vA) (vP, vP) (v', v') (vP, vM) := by
  have off := grown_off hg
  have ne : ∀ j T, BlkT w j T → T ≠ 42 → Value.ownBlock vM ≠ some j := fun j T hj hT e => hj.ne (h.minus.blkT j e) hT rfl
  refine ⟨h.lo, (off g h.box.lt (ne g _ h.box.blkT (by decide))).trans h.box, h.cells.off fun j hj => off j (h.cells.lt j hj) (ne j _ (h.cells.blkT j hj) (by decide)), h.bools.off fun j hj => off j ?_ (ne j _ (h.bools.blkT j hj) (by decide)), h.plus.off fun j hj => off j (h.plus.lt j hj) (fun e => h.apart j hj e), hp, fun k h1 h2 => ?_⟩
  · obtain ⟨_, _, hB⟩ := h.bools.blkT j hj; exact (Array.getElem?_eq_some_iff.1 hB).1
  · rcases hk k h2 with e | e
    · exact h.apart k h1 e
    · have := h.plus.lt k h1; omega
end Go.Proofs.YtnkcehmgagpadaaDoor
/- Single operations of package peel: fields of a peeling and of a result; elements of a row of Booleans. No condition. -/
namespace Go.Proofs.YtnkcehmgagpadaaDoor
open Go.RowKit
section
variable {o : Oper} {ev : Operand → Value} {w : World}
theorem ex_nil (x : Operand) (ho : o.op = .nilCheck x) (g k : Nat) (hx : ev x = .pointer (some ⟨g, k, none⟩)) : (execOp ev o).run Tryd.prog w = .ok (.value (.pointer (some ⟨g, k, none⟩))) w := by
  unfold execOp; simp only [ho, hx]; rfl
theorem fldP0 (x : Operand) (ho : o.op = .fieldAddr 66 x 0) (g : Nat) (hx : ev x = .pointer (some ⟨g, 0, none⟩)) : (execOp ev o).run Tryd.prog w = .ok (.value (.pointer (some ⟨g, 0, none⟩))) w := by
  unfold execOp; simp only [ho, hx]; kernel_rfl
theorem fldP1 (x : Operand) (ho : o.op = .fieldAddr 66 x 1) (g : Nat) (hx : ev x = .pointer (some ⟨g, 0, none⟩)) : (execOp ev o).run Tryd.prog w = .ok (.value (.pointer (some ⟨g, 2, none⟩))) w := by
  unfold execOp; simp only [ho, hx]; kernel_rfl
theorem fldP2 (x : Operand) (ho : o.op = .fieldAddr 66 x 2) (g : Nat) (hx : ev x = .pointer (some ⟨g, 0, none⟩)) : (execOp ev o).run Tryd.prog w = .ok (.value (.pointer (some ⟨g, 3, none⟩))) w := by
  unfold execOp; simp only [ho, hx]; kernel_rfl
theorem fldP3 (x : Operand) (ho : o.op = .fieldAddr 66 x 3) (g : Nat) (hx : ev x = .pointer (some ⟨g, 0, none⟩)) : (execOp ev o).run Tryd.prog w = .ok (.value (.pointer (some ⟨g, 4, none⟩))) w := by
  unfold execOp; simp only [ho, hx]; kernel_rfl
theorem fldR0 (x : Operand) (ho : o.op = .fieldAddr 30 x 0) (g : Nat) (hx : ev x = .pointer (some ⟨g, 0, none⟩)) : (execOp ev o).run Tryd.prog w = .ok (.value (.pointer (some ⟨g, 0, none⟩))) w := by
  unfold execOp; simp only [ho, hx]; kernel_rfl
theorem fldR1 (x : Operand) (ho : o.op = .fieldAddr 30 x 1) (g : Nat) (hx : ev x = .pointer (some ⟨g, 0, none⟩)) : (execOp ev o).run Tryd.prog w = .ok (.value (.pointer (some ⟨g, 1, none⟩))) w := by
  unfold execOp; simp only [ho, hx]; kernel_rfl
theorem fldR2 (x : Operand) (ho : o.op = .fieldAddr 30 x 2) (g : Nat) (hx : ev x = .pointer (some ⟨g, 0, none⟩)) : (execOp ev o).run Tryd.prog w = .ok (.value (.pointer (some ⟨g, 2, none⟩))) w := by
  unfold execOp; simp only [ho, hx]; kernel_rfl
end
theorem pe_two {a b c d e : Value} (j : Nat) (u : Value) (hu : [a, b][j]? = some u) : [a, b, c, d, e][0 + j]? = some u := by
  match j, hu with
  | 0, h => simpa using h
  | 1, h => simpa using h
  | j + 2, h => simp at h
theorem RowB.cs {b : Nat} {w : World} {v : Value} {A : List Bool} (h : RowB b w v A) : ∃ q c, v = .slice q A.length c ∧ True := by obtain ⟨g, h1, _⟩ := h; exact ⟨_, _, h1, trivial⟩
theorem RowB.el {b : Nat} {w : World} {v : Value} {A : List Bool} (h : RowB b w v A) {i : Nat} (hi : i < A.length) : ∃ g, v = .slice (some ⟨g, 0, none⟩) A.length A.length ∧ b ≤ g ∧ g < w.heap.size ∧ ∀ w' : World, (∀ k, k < w.heap.size → w'.heap[k]? = w.heap[k]?) → w'.cell? ((⟨g, 0, none⟩ : Addr).add (i * 1)) = some (.bool A[i]) := by
  obtain ⟨g, h1, h2, h3⟩ := h
  refine ⟨g, h1, h2, h3.lt, fun w' hw => ?_⟩
  have h4 : Has w' g 4 (A.map Value.bool) := (hw g h3.lt).trans h3
  rw [add_lit', Nat.mul_one, Nat.zero_add]
  exact h4.cellv (by rw [List.getElem?_map, List.getElem?_eq_getElem hi]; rfl)
end Go.Proofs.YtnkcehmgagpadaaDoor
/- Contracts: slices.Index and Contains over ints, slices.Index over Booleans. Condition: at most 10^6. -/
namespace Go.Proofs.YtnkcehmgagpadaaDoor
open Go.RowKit
def idxI (v : Int) : List Int → Nat → Int
 | [], _ => -1
 | c :: l, k => if v = c then (k : Int) else idxI v l (k + 1)
theorem idxI_has (v : Int) : ∀ (l : List Int) (k : Nat), decide (idxI v l k ≥ (0 : Int)) = l.contains v
 | [], _ => rfl
 | c :: l, k => by
  unfold idxI
  by_cases h : v = c
  ·rw [if_pos h, h]; simp
  ·rw [if_neg h, idxI_has v l (k + 1)]; simp [h]
theorem idxI_step (v : Int) (l : List Int) (k : Nat) (h : k < l.length) : idxI v (l.drop k) k = if v = l[k] then (k : Int) else idxI v (l.drop (k + 1)) (k + 1) := by
 rw [List.drop_eq_getElem_cons h]; rfl
def idxB : List Bool → Nat → Int
 | [], _ => -1
 | c :: l, k => if c = true then (k : Int) else idxB l (k + 1)
theorem idxB_step (l : List Bool) (k : Nat) (h : k < l.length) : idxB (l.drop k) k = if l[k] = true then (k : Int) else idxB (l.drop (k + 1)) (k + 1) := by
 rw [List.drop_eq_getElem_cons h]; rfl
theorem idxB_fst : ∀ (l : List Bool) (k : Nat), idxB l k = match fstT l with | none => -1 | some i => ((k + i : Nat) : Int)
 | [], _ => rfl
 | true :: l, k => by unfold idxB fstT; rw [List.findIdx?_cons]; simp
 | false :: l, k => by
  have h := idxB_fst l (k + 1)
  unfold idxB
  rw [if_neg (by simp), h]
  unfold fstT
  rw [List.findIdx?_cons]
  simp only [id]
  cases List.findIdx? id l with
  | none => rfl
  | some i => show ((k + 1 + i : Nat) : Int) = ((k + (i + 1) : Nat) : Int); congr 1; omega
theorem idxB_none {l : List Bool} (h : fstT l = none) : idxB l 0 = -1 := by rw [idxB_fst, h]
theorem idxB_some {l : List Bool} {i : Nat} (h : fstT l = some i) : idxB l 0 = (i : Int) := by rw [idxB_fst, h]; show ((0 + i : Nat) : Int) = i; congr 1; omega
def waitidxI90 (i : Nat) : List Nat := ([[]] : List (List Nat)).getD i []
def slotsidxI90 : List (Nat × Nat) := [(4, 0)]
theorem chkidxI90 : flwO slotsidxI90 waitidxI90 1 (regOf Tryd.f79.body 0) = true := by kernel_rfl
def waitidxI91 (i : Nat) : List Nat := ([[], [0], []] : List (List Nat)).getD i []
def slotsidxI91 : List (Nat × Nat) := [(6, 0), (7, 1), (8, 2)]
theorem sbidxI91 : slotsB slotsidxI91 = true := by kernel_rfl
theorem chkidxI91 : flwO slotsidxI91 waitidxI91 3 (regOf Tryd.f79.body 1) = true := by kernel_rfl
def waitidxI93 (i : Nat) : List Nat := ([[], [0]] : List (List Nat)).getD i []
def slotsidxI93 : List (Nat × Nat) := [(10, 0), (5, 1)]
theorem sbidxI93 : slotsB slotsidxI93 = true := by kernel_rfl
theorem chkidxI93 : flwO slotsidxI93 waitidxI93 2 (regOf Tryd.f79.body 3) = true := by kernel_rfl
def waitIdit4 (i : Nat) : List Nat := ([[], [], [], [1, 2], [3], [0, 4]] : List (List Nat)).getD i []
def slotsIdit4 : List (Nat × Nat) := [(11, 0), (12, 1), (13, 2), (14, 3), (15, 4), (16, 5)]
theorem sbIdit4 : slotsB slotsIdit4 = true := by kernel_rfl
theorem chkIdit4 : flwO slotsIdit4 waitIdit4 6 (regOf Tryd.f79.body 4) = true := by kernel_rfl
set_option maxHeartbeats 8000000 in
set_option maxRecDepth 100000 in
theorem idxI9_b (v : Value) (l : List Int) (x : Int) (w w0 : World) (hB : Below w.heap.size w w0) (hM : l.length ≤ 1000000) (hC : InsF 0 w v l) : Calls Tryd.prog 79 #[v, .int .i64 x] w0 fun e w' => (∃ v, e = .returned v ∧ v = .int .i64 (idxI x l 0)) ∧ Below w.heap.size w w' := by
 go_enter Tryd.func79, Tryd.ntmps79
 have HB := Lib.hid hB
 clear hB
 have HC := Lib.hid hC
 clear hC
 go_upto_region 0 with fail
 refine wp_act (fun a0 ha0 => ?_)
 have zsz : a0.tmps.size = 19 := by rw [ha0]; rfl
 refine wrO [] slotsidxI90 waitidxI90 [Fct.val Flz 0 (.int .i64 0)] (fun w' => Below w0.heap.size w0 w') _ 1 0 chkidxI90 (by kernel_rfl) (by kernel_rfl) (by kernel_rfl) (by decide) (Below.refl _ _) ?_ ?_
 ·refine lt_s (lt_0) ?_
  ·intro f w1 hS hf aA hA
   exact fV rfl rfl (.int .i64 0) (ex_assign _ rfl rfl) hS uS
 intro f u0 hS hf hap
 have h0 := eqL (hf 0 (by decide)) rfl
 clear hf hap
 clear zsz
 subst ha0
 simp only [slotsidxI90, putAll, h0, Act.put, List.setIfInBounds_toArray, List.set_cons_zero, List.set_cons_succ]
 clear h0
 refine tl_nil ?_
 replace HB := Lib.hid (HB.out.trans (hS.mono HB.out.size))
 clear hS
 go_upto_region 1 with fail
 refine wp_act (fun a0 ha0 => ?_)
 have zsz : a0.tmps.size = 19 := by rw [ha0]; rfl
 have z0 : a0.eval (.tmp 0) = v := by rw [ha0]; rfl
 refine wrO [] slotsidxI91 waitidxI91 [Fct.val Flz 0 (v), Fct.val Flz 1 (.int .i64 (((l).length : Int))), Fct.val Flz 2 (.int .i64 0)] (fun w' => Below u0.heap.size u0 w') _ 3 0 chkidxI91 (by kernel_rfl) (by kernel_rfl) (by kernel_rfl) (by decide) (Below.refl _ _) ?_ ?_
 ·refine lt_s (lt_s (lt_s (lt_0) ?_) ?_) ?_
  ·intro f w1 hS hf aA hA
   have r0 := qO 0 hA z0
   exact fV rfl rfl _ (ex_move (.tmp 0) rfl r0) hS uS
  ·intro f w1 hS hf aA hA
   have r6 := qA 6 0 hA sbidxI91 zsz (hf 0 (by decide))
   obtain ⟨q9, c9, hv9, _⟩ := (HC.out.keep (HB.out.trans (hS.mono HB.out.size))).len
   exact fV rfl rfl _ (ex_len 38 3 (.tmp 6) rfl (by kernel_rfl) q9 (l).length c9 (r6.trans hv9)) hS uS
  ·intro f w1 hS hf aA hA
   exact fV rfl rfl (.int .i64 0) (ex_move _ rfl rfl) hS uS
 intro f u1 hS hf hap
 have h0 : f 0 = v := hf 0 (by decide)
 have h1 := eqL (hf 1 (by decide)) rfl
 have h2 := eqL (hf 2 (by decide)) rfl
 clear hf hap
 clear zsz z0
 subst ha0
 simp only [slotsidxI91, putAll, h0, h1, h2, Act.put, List.setIfInBounds_toArray, List.set_cons_zero, List.set_cons_succ]
 clear h0 h1 h2
 refine tl_nil ?_
 replace HB := Lib.hid (HB.out.trans (hS.mono HB.out.size))
 clear hS
 go_wp2_with fail
 go_loopw [8] (fun vi wr => ∃ i : Nat, i ≤ l.length ∧ vi = .int .i64 i ∧ idxI x l 0 = idxI x (l.drop i) i ∧ Below w.heap.size w wr) (fun vi _ => l.length - (intOf vi).toNat)
 case atStart => exact ⟨0, by omega, rfl, rfl, HB.out⟩
 case round =>
  clear HB
  rename_i wr
  obtain ⟨i, hi, rfl, he, hB⟩ := hrel
  have HE := Lib.hid he
  have HB := Lib.hid hB
  clear he hB
  by_cases hlt : i < l.length
  ·have HST := Lib.hid (idxI_step x l i hlt)
   have k3 : (i : Int) < (l.length : Int) := by omega
   go_upto_region 3 with fail
   refine wp_act (fun a0 ha0 => ?_)
   have zsz : a0.tmps.size = 19 := by rw [ha0]; rfl
   have z8 : a0.eval (.tmp 8) = .int .i64 ((i : Int)) := by rw [ha0]; rfl
   refine wrO [] slotsidxI93 waitidxI93 [Fct.val Flz 0 (.int .i64 ((i : Int))), Fct.val Flz 1 (.int .i64 ((i : Int)))] (fun w' => Below wr.heap.size wr w') _ 2 0 chkidxI93 (by kernel_rfl) (by kernel_rfl) (by kernel_rfl) (by decide) (Below.refl _ _) ?_ ?_
   ·refine lt_s (lt_s (lt_0) ?_) ?_
    ·intro f w1 hS hf aA hA
     have r8 := qO 8 hA z8
     exact fV rfl rfl _ (ex_move (.tmp 8) rfl r8) hS uS
    ·intro f w1 hS hf aA hA
     have r10 := qA 10 0 hA sbidxI93 zsz (hf 0 (by decide))
     exact fV rfl rfl _ (ex_assign (.tmp 10) rfl r10) hS uS
   intro f u3 hS hf hap
   have h0 := eqL (hf 0 (by decide)) rfl
   have h1 := eqL (hf 1 (by decide)) rfl
   clear hf hap
   clear zsz z8
   subst ha0
   simp only [slotsidxI93, putAll, h0, h1, Act.put, List.setIfInBounds_toArray, List.set_cons_zero, List.set_cons_succ]
   clear h0 h1
   refine tl_nil ?_
   replace HB := Lib.hid (HB.out.trans (hS.mono HB.out.size))
   clear hS
   obtain ⟨pa, pc, hpv, hcell⟩ := (HC.out.keep HB.out).el hlt
   have HPV := Lib.hid hpv
   have HCL := Lib.hid hcell
   clear hpv hcell
   obtain ⟨z, hz⟩ : ∃ z, l[i] = z := ⟨_, rfl⟩
   have HZ := Lib.hid hz
   rw [hz] at HCL HST
   clear hz
   by_cases hq : x = z
   ·have HQ := Lib.hid hq
    clear hq
    go_upto_region 4 with fail
    refine wp_act (fun a0 ha0 => ?_)
    have zsz : a0.tmps.size = 19 := by rw [ha0]; rfl
    have z1 : a0.eval (.tmp 1) = .int .i64 x := by rw [ha0]; rfl
    have z0 : a0.eval (.tmp 0) = v := by rw [ha0]; rfl
    have z5 : a0.eval (.tmp 5) = .int .i64 ((i : Int)) := by rw [ha0]; rfl
    refine wrO [] slotsIdit4 waitIdit4 [Fct.val Flz 0 (.int .i64 x), Fct.val Flz 1 (v), Fct.val Flz 2 (.int .i64 ((i : Int))), Fct.val Flz 3 (.pointer (some (pa.add (i * 1)))), Fct.val Flz 4 (.int .i64 z), Fct.val Flz 5 (.bool true)] (fun w' => Below u3.heap.size u3 w') _ 6 0 chkIdit4 (by kernel_rfl) (by kernel_rfl) (by kernel_rfl) (by decide) (Below.refl _ _) ?_ ?_
    ·refine lt_s (lt_s (lt_s (lt_s (lt_s (lt_s (lt_0) ?_) ?_) ?_) ?_) ?_) ?_
     ·intro f w1 hS hf aA hA
      have r1 := qO 1 hA z1
      exact fV rfl rfl _ (ex_move (.tmp 1) rfl r1) hS uS
     ·intro f w1 hS hf aA hA
      have r0 := qO 0 hA z0
      exact fV rfl rfl _ (ex_move (.tmp 0) rfl r0) hS uS
     ·intro f w1 hS hf aA hA
      have r5 := qO 5 hA z5
      exact fV rfl rfl _ (ex_move (.tmp 5) rfl r5) hS uS
     ·intro f w1 hS hf aA hA
      have r12 := qA 12 1 hA sbIdit4 zsz (hf 1 (by decide))
      have r13 := qA 13 2 hA sbIdit4 zsz (hf 2 (by decide))
      exact fV rfl rfl _ (ex_indexS 38 3 (.tmp 12) (.tmp 13) rfl pa l.length pc i 1 (by kernel_rfl) (fun _ => by kernel_rfl) (Eq.trans r12 HPV.out) r13 hlt) hS uS
     ·intro f w1 hS hf aA hA
      have r14 := qA 14 3 hA sbIdit4 zsz (hf 3 (by decide))
      exact fV rfl rfl _ (ex_load1 3 (.tmp 14) rfl (pa.add (i * 1)) r14 (fun _ => by kernel_rfl) (HCL.out w1 hS.block)) hS uS
     ·intro f w1 hS hf aA hA
      have r11 := qA 11 0 hA sbIdit4 zsz (hf 0 (by decide))
      have r15 := qA 15 4 hA sbIdit4 zsz (hf 4 (by decide))
      exact fV rfl rfl _ (Eq.trans (ex_int .eql _ _ (.tmp 11) (.tmp 15) rfl .i64 x z r11 r15 (.bool (x == z)) (fun _ => rfl)) (by rw [(beq_iff_eq.2 HQ.out : (x == z) = true)])) hS uS
    intro f u4 hS hf hap
    have h0 := eqL (hf 0 (by decide)) rfl
    have h1 : f 1 = v := hf 1 (by decide)
    have h2 := eqL (hf 2 (by decide)) rfl
    have h3 := eqL (hf 3 (by decide)) rfl
    have h4 := eqL (hf 4 (by decide)) rfl
    have h5 := eqL (hf 5 (by decide)) rfl
    clear hf hap
    clear zsz z1 z0 z5
    subst ha0
    simp only [slotsIdit4, putAll, h0, h1, h2, h3, h4, h5, Act.put, List.setIfInBounds_toArray, List.set_cons_zero, List.set_cons_succ]
    clear h0 h1 h2 h3 h4 h5
    refine tl_nil ?_
    replace HB := Lib.hid (HB.out.trans (hS.mono HB.out.size))
    clear hS
    go_wp2_with fail
    go_ret
    exact ⟨⟨_, rfl, (show Value.int .i64 (i : Int) = _ by rw [HE.out, HST.out, if_pos HQ.out])⟩, HB.out⟩
   ·have HQ := Lib.hid hq
    clear hq
    go_upto_region 4 with fail
    refine wp_act (fun a0 ha0 => ?_)
    have zsz : a0.tmps.size = 19 := by rw [ha0]; rfl
    have z1 : a0.eval (.tmp 1) = .int .i64 x := by rw [ha0]; rfl
    have z0 : a0.eval (.tmp 0) = v := by rw [ha0]; rfl
    have z5 : a0.eval (.tmp 5) = .int .i64 ((i : Int)) := by rw [ha0]; rfl
    refine wrO [] slotsIdit4 waitIdit4 [Fct.val Flz 0 (.int .i64 x), Fct.val Flz 1 (v), Fct.val Flz 2 (.int .i64 ((i : Int))), Fct.val Flz 3 (.pointer (some (pa.add (i * 1)))), Fct.val Flz 4 (.int .i64 z), Fct.val Flz 5 (.bool false)] (fun w' => Below u3.heap.size u3 w') _ 6 0 chkIdit4 (by kernel_rfl) (by kernel_rfl) (by kernel_rfl) (by decide) (Below.refl _ _) ?_ ?_
    ·refine lt_s (lt_s (lt_s (lt_s (lt_s (lt_s (lt_0) ?_) ?_) ?_) ?_) ?_) ?_
     ·intro f w1 hS hf aA hA
      have r1 := qO 1 hA z1
      exact fV rfl rfl _ (ex_move (.tmp 1) rfl r1) hS uS
     ·intro f w1 hS hf aA hA
      have r0 := qO 0 hA z0
      exact fV rfl rfl _ (ex_move (.tmp 0) rfl r0) hS uS
     ·intro f w1 hS hf aA hA
      have r5 := qO 5 hA z5
      exact fV rfl rfl _ (ex_move (.tmp 5) rfl r5) hS uS
     ·intro f w1 hS hf aA hA
      have r12 := qA 12 1 hA sbIdit4 zsz (hf 1 (by decide))
      have r13 := qA 13 2 hA sbIdit4 zsz (hf 2 (by decide))
      exact fV rfl rfl _ (ex_indexS 38 3 (.tmp 12) (.tmp 13) rfl pa l.length pc i 1 (by kernel_rfl) (fun _ => by kernel_rfl) (Eq.trans r12 HPV.out) r13 hlt) hS uS
     ·intro f w1 hS hf aA hA
      have r14 := qA 14 3 hA sbIdit4 zsz (hf 3 (by decide))
      exact fV rfl rfl _ (ex_load1 3 (.tmp 14) rfl (pa.add (i * 1)) r14 (fun _ => by kernel_rfl) (HCL.out w1 hS.block)) hS uS
     ·intro f w1 hS hf aA hA
      have r11 := qA 11 0 hA sbIdit4 zsz (hf 0 (by decide))
      have r15 := qA 15 4 hA sbIdit4 zsz (hf 4 (by decide))
      exact fV rfl rfl _ (Eq.trans (ex_int .eql _ _ (.tmp 11) (.tmp 15) rfl .i64 x z r11 r15 (.bool (x == z)) (fun _ => rfl)) (by rw [(beq_eq_false_iff_ne.2 HQ.out : (x == z) = false)])) hS uS
    intro f u4 hS hf hap
    have h0 := eqL (hf 0 (by decide)) rfl
    have h1 : f 1 = v := hf 1 (by decide)
    have h2 := eqL (hf 2 (by decide)) rfl
    have h3 := eqL (hf 3 (by decide)) rfl
    have h4 := eqL (hf 4 (by decide)) rfl
    have h5 := eqL (hf 5 (by decide)) rfl
    clear hf hap
    clear zsz z1 z0 z5
    subst ha0
    simp only [slotsIdit4, putAll, h0, h1, h2, h3, h4, h5, Act.put, List.setIfInBounds_toArray, List.set_cons_zero, List.set_cons_succ]
    clear h0 h1 h2 h3 h4 h5
    refine tl_nil ?_
    replace HB := Lib.hid (HB.out.trans (hS.mono HB.out.size))
    clear hS
    go_wp2_with fail
    go_roundw
    case rel => exact ⟨i + 1, by omega, by go_num, by rw [HE.out, HST.out, if_neg HQ.out], HB.out⟩
    case measure => simp [intOf]; omega
  ·obtain rfl : i = l.length := by omega
   have k3 : ¬ (l.length : Int) < (l.length : Int) := by omega
   go_wp2_with fail
   go_ret
   exact ⟨congrArg Ending.returned (show Value.int .i64 (-1) = Value.int .i64 (idxI x l 0) by rw [HE.out, List.drop_length]; rfl), HB.out⟩
theorem idxI9_any (v : Value) (l : List Int) (x : Int) (w : World) (hM : l.length ≤ 1000000) (hC : InsF 0 w v l) : Calls Tryd.prog 79 #[v, .int .i64 x] w fun e w' => (∃ v, e = .returned v ∧ v = .int .i64 (idxI x l 0)) ∧ Below w.heap.size w w' := idxI9_b v l x w w (Below.refl _ _) hM hC
def waitHsi0 (i : Nat) : List Nat := ([[]] : List (List Nat)).getD i []
def slotsHsi0 : List (Nat × Nat) := [(4, 0)]
theorem chkHsi0 : flwO slotsHsi0 waitHsi0 1 (regOf Tryd.f69.body 0) = true := by kernel_rfl
def waitHsi1 (i : Nat) : List Nat := ([[], [], [0, 1], [2], [3]] : List (List Nat)).getD i []
def slotsHsi1 : List (Nat × Nat) := [(5, 0), (6, 1), (7, 2), (8, 3), (4, 4)]
theorem sbHsi1 : slotsB slotsHsi1 = true := by kernel_rfl
theorem chkHsi1 : flwO slotsHsi1 waitHsi1 5 (regOf Tryd.f69.body 1) = true := by kernel_rfl
set_option maxHeartbeats 8000000 in
set_option maxRecDepth 100000 in
theorem hasI_b (v : Value) (l : List Int) (x : Int) (w w0 : World) (hB : Below w.heap.size w w0) (hM : l.length ≤ 1000000) (hC : InsF 0 w v l) : Calls Tryd.prog 69 #[v, .int .i64 x] w0 fun e w' => (∃ v, e = .returned v ∧ v = .bool (l.contains x)) ∧ Below w.heap.size w w' := by
 go_enter Tryd.func69, Tryd.ntmps69
 have HB := Lib.hid hB
 clear hB
 have HC := Lib.hid hC
 clear hC
 go_upto_region 0 with fail
 refine wp_act (fun a0 ha0 => ?_)
 have zsz : a0.tmps.size = 9 := by rw [ha0]; rfl
 refine wrO [] slotsHsi0 waitHsi0 [Fct.val Flz 0 (.bool false)] (fun w' => Below w0.heap.size w0 w') _ 1 0 chkHsi0 (by kernel_rfl) (by kernel_rfl) (by kernel_rfl) (by decide) (Below.refl _ _) ?_ ?_
 ·refine lt_s (lt_0) ?_
  ·intro f w1 hS hf aA hA
   exact fV rfl rfl (.bool false) (ex_assign _ rfl rfl) hS uS
 intro f u0 hS hf hap
 have h0 := eqL (hf 0 (by decide)) rfl
 clear hf hap
 clear zsz
 subst ha0
 simp only [slotsHsi0, putAll, h0, Act.put, List.setIfInBounds_toArray, List.set_cons_zero, List.set_cons_succ]
 clear h0
 refine tl_nil ?_
 replace HB := Lib.hid (HB.out.trans (hS.mono HB.out.size))
 clear hS
 go_upto_region 1 with fail
 refine wp_act (fun a0 ha0 => ?_)
 have zsz : a0.tmps.size = 9 := by rw [ha0]; rfl
 have z0 : a0.eval (.tmp 0) = v := by rw [ha0]; rfl
 have z1 : a0.eval (.tmp 1) = .int .i64 x := by rw [ha0]; rfl
 refine wrO [] slotsHsi1 waitHsi1 [Fct.val Flz 0 (v), Fct.val Flz 1 (.int .i64 x), Fct.val Flz 2 (.int .i64 (idxI x l 0)), Fct.val Flz 3 (.bool (l.contains x)), Fct.val Flz 4 (.bool (l.contains x))] (fun w' => Below u0.heap.size u0 w') _ 5 0 chkHsi1 (by kernel_rfl) (by kernel_rfl) (by kernel_rfl) (by decide) (Below.refl _ _) ?_ ?_
 ·refine lt_s (lt_s (lt_s (lt_s (lt_s (lt_0) ?_) ?_) ?_) ?_) ?_
  ·intro f w1 hS hf aA hA
   have r0 := qO 0 hA z0
   exact fV rfl rfl _ (ex_move (.tmp 0) rfl r0) hS uS
  ·intro f w1 hS hf aA hA
   have r1 := qO 1 hA z1
   exact fV rfl rfl _ (ex_move (.tmp 1) rfl r1) hS uS
  ·intro f w1 hS hf aA hA
   have r5 := qA 5 0 hA sbHsi1 zsz (hf 0 (by decide))
   have r6 := qA 6 1 hA sbHsi1 zsz (hf 1 (by decide))
   exact fC rfl rfl 79 #[(.tmp 5), (.tmp 6)] _ rfl #[v, .int .i64 x] (mp2 r5 r6) (fun w => by kernel_rfl) _ (idxI9_any _ l x w1 hM (HC.out.keep (HB.out.trans (hS.mono HB.out.size)))) hS (fun _ _ h => uS.trans h)
  ·intro f w1 hS hf aA hA
   have r7 := qA 7 2 hA sbHsi1 zsz (hf 2 (by decide))
   exact fV rfl rfl _ (Eq.trans (ex_int .geq _ _ (.tmp 7) _ rfl .i64 (idxI x l 0) 0 r7 rfl (.bool (decide ((idxI x l 0) ≥ (0 : Int)))) (fun _ => rfl)) (by rw [idxI_has x l 0])) hS uS
  ·intro f w1 hS hf aA hA
   have r8 := qA 8 3 hA sbHsi1 zsz (hf 3 (by decide))
   exact fV rfl rfl _ (ex_assign (.tmp 8) rfl r8) hS uS
 intro f u1 hS hf hap
 have h0 : f 0 = v := hf 0 (by decide)
 have h1 := eqL (hf 1 (by decide)) rfl
 have h2 := eqL (hf 2 (by decide)) rfl
 have h3 := eqL (hf 3 (by decide)) rfl
 have h4 := eqL (hf 4 (by decide)) rfl
 clear hf hap
 clear zsz z0 z1
 subst ha0
 simp only [slotsHsi1, putAll, h0, h1, h2, h3, h4, Act.put, List.setIfInBounds_toArray, List.set_cons_zero, List.set_cons_succ]
 clear h0 h1 h2 h3 h4
 refine tl_nil ?_
 replace HB := Lib.hid (HB.out.trans (hS.mono HB.out.size))
 clear hS
 go_wp2_with fail
 go_ret
 exact ⟨⟨_, rfl, rfl⟩, HB.out⟩
theorem hasI_any (v : Value) (l : List Int) (x : Int) (w : World) (hM : l.length ≤ 1000000) (hC : InsF 0 w v l) : Calls Tryd.prog 69 #[v, .int .i64 x] w fun e w' => (∃ v, e = .returned v ∧ v = .bool (l.contains x)) ∧ Below w.heap.size w w' := hasI_b v l x w w (Below.refl _ _) hM hC
def waitidxB90 (i : Nat) : List Nat := ([[]] : List (List Nat)).getD i []
def slotsidxB90 : List (Nat × Nat) := [(4, 0)]
theorem chkidxB90 : flwO slotsidxB90 waitidxB90 1 (regOf Tryd.f52.body 0) = true := by kernel_rfl
def waitidxB91 (i : Nat) : List Nat := ([[], [0], []] : List (List Nat)).getD i []
def slotsidxB91 : List (Nat × Nat) := [(6, 0), (7, 1), (8, 2)]
theorem sbidxB91 : slotsB slotsidxB91 = true := by kernel_rfl
theorem chkidxB91 : flwO slotsidxB91 waitidxB91 3 (regOf Tryd.f52.body 1) = true := by kernel_rfl
def waitidxB93 (i : Nat) : List Nat := ([[], [0]] : List (List Nat)).getD i []
def slotsidxB93 : List (Nat × Nat) := [(10, 0), (5, 1)]
theorem sbidxB93 : slotsB slotsidxB93 = true := by kernel_rfl
theorem chkidxB93 : flwO slotsidxB93 waitidxB93 2 (regOf Tryd.f52.body 3) = true := by kernel_rfl
def waitIdbf4 (i : Nat) : List Nat := ([[], [], [], [1, 2], [3], [0, 4]] : List (List Nat)).getD i []
def slotsIdbf4 : List (Nat × Nat) := [(11, 0), (12, 1), (13, 2), (14, 3), (15, 4), (16, 5)]
theorem sbIdbf4 : slotsB slotsIdbf4 = true := by kernel_rfl
theorem chkIdbf4 : flwO slotsIdbf4 waitIdbf4 6 (regOf Tryd.f52.body 4) = true := by kernel_rfl
set_option maxHeartbeats 8000000 in
set_option maxRecDepth 100000 in
theorem idxB9_b (v : Value) (l : List Bool) (b : Nat) (w w0 : World) (hB : Below w.heap.size w w0) (hM : l.length ≤ 1000000) (hC : RowB b w v l) : Calls Tryd.prog 52 #[v, .bool true] w0 fun e w' => (∃ v, e = .returned v ∧ v = .int .i64 (idxB l 0)) ∧ Below w.heap.size w w' := by
 go_enter Tryd.func52, Tryd.ntmps52
 have HB := Lib.hid hB
 clear hB
 have HC := Lib.hid hC
 clear hC
 go_upto_region 0 with fail
 refine wp_act (fun a0 ha0 => ?_)
 have zsz : a0.tmps.size = 19 := by rw [ha0]; rfl
 refine wrO [] slotsidxB90 waitidxB90 [Fct.val Flz 0 (.int .i64 0)] (fun w' => Below w0.heap.size w0 w') _ 1 0 chkidxB90 (by kernel_rfl) (by kernel_rfl) (by kernel_rfl) (by decide) (Below.refl _ _) ?_ ?_
 ·refine lt_s (lt_0) ?_
  ·intro f w1 hS hf aA hA
   exact fV rfl rfl (.int .i64 0) (ex_assign _ rfl rfl) hS uS
 intro f u0 hS hf hap
 have h0 := eqL (hf 0 (by decide)) rfl
 clear hf hap
 clear zsz
 subst ha0
 simp only [slotsidxB90, putAll, h0, Act.put, List.setIfInBounds_toArray, List.set_cons_zero, List.set_cons_succ]
 clear h0
 refine tl_nil ?_
 replace HB := Lib.hid (HB.out.trans (hS.mono HB.out.size))
 clear hS
 go_upto_region 1 with fail
 refine wp_act (fun a0 ha0 => ?_)
 have zsz : a0.tmps.size = 19 := by rw [ha0]; rfl
 have z0 : a0.eval (.tmp 0) = v := by rw [ha0]; rfl
 refine wrO [] slotsidxB91 waitidxB91 [Fct.val Flz 0 (v), Fct.val Flz 1 (.int .i64 (((l).length : Int))), Fct.val Flz 2 (.int .i64 0)] (fun w' => Below u0.heap.size u0 w') _ 3 0 chkidxB91 (by kernel_rfl) (by kernel_rfl) (by kernel_rfl) (by decide) (Below.refl _ _) ?_ ?_
 ·refine lt_s (lt_s (lt_s (lt_0) ?_) ?_) ?_
  ·intro f w1 hS hf aA hA
   have r0 := qO 0 hA z0
   exact fV rfl rfl _ (ex_move (.tmp 0) rfl r0) hS uS
  ·intro f w1 hS hf aA hA
   have r6 := qA 6 0 hA sbidxB91 zsz (hf 0 (by decide))
   obtain ⟨q9, c9, hv9, _⟩ := (HC.out.keep (HB.out.trans (hS.mono HB.out.size))).cs
   exact fV rfl rfl _ (ex_len 64 4 (.tmp 6) rfl (by kernel_rfl) q9 (l).length c9 (r6.trans hv9)) hS uS
  ·intro f w1 hS hf aA hA
   exact fV rfl rfl (.int .i64 0) (ex_move _ rfl rfl) hS uS
 intro f u1 hS hf hap
 have h0 : f 0 = v := hf 0 (by decide)
 have h1 := eqL (hf 1 (by decide)) rfl
 have h2 := eqL (hf 2 (by decide)) rfl
 clear hf hap
 clear zsz z0
 subst ha0
 simp only [slotsidxB91, putAll, h0, h1, h2, Act.put, List.setIfInBounds_toArray, List.set_cons_zero, List.set_cons_succ]
 clear h0 h1 h2
 refine tl_nil ?_
 replace HB := Lib.hid (HB.out.trans (hS.mono HB.out.size))
 clear hS
 go_wp2_with fail
 go_loopw [8] (fun vi wr => ∃ i : Nat, i ≤ l.length ∧ vi = .int .i64 i ∧ idxB l 0 = idxB (l.drop i) i ∧ Below w.heap.size w wr) (fun vi _ => l.length - (intOf vi).toNat)
 case atStart => exact ⟨0, by omega, rfl, rfl, HB.out⟩
 case round =>
  clear HB
  rename_i wr
  obtain ⟨i, hi, rfl, he, hB⟩ := hrel
  have HE := Lib.hid he
  have HB := Lib.hid hB
  clear he hB
  by_cases hlt : i < l.length
  ·have HST := Lib.hid (idxB_step l i hlt)
   have k3 : (i : Int) < (l.length : Int) := by omega
   go_upto_region 3 with fail
   refine wp_act (fun a0 ha0 => ?_)
   have zsz : a0.tmps.size = 19 := by rw [ha0]; rfl
   have z8 : a0.eval (.tmp 8) = .int .i64 ((i : Int)) := by rw [ha0]; rfl
   refine wrO [] slotsidxB93 waitidxB93 [Fct.val Flz 0 (.int .i64 ((i : Int))), Fct.val Flz 1 (.int .i64 ((i : Int)))] (fun w' => Below wr.heap.size wr w') _ 2 0 chkidxB93 (by kernel_rfl) (by kernel_rfl) (by kernel_rfl) (by decide) (Below.refl _ _) ?_ ?_
   ·refine lt_s (lt_s (lt_0) ?_) ?_
    ·intro f w1 hS hf aA hA
     have r8 := qO 8 hA z8
     exact fV rfl rfl _ (ex_move (.tmp 8) rfl r8) hS uS
    ·intro f w1 hS hf aA hA
     have r10 := qA 10 0 hA sbidxB93 zsz (hf 0 (by decide))
     exact fV rfl rfl _ (ex_assign (.tmp 10) rfl r10) hS uS
   intro f u3 hS hf hap
   have h0 := eqL (hf 0 (by decide)) rfl
   have h1 := eqL (hf 1 (by decide)) rfl
   clear hf hap
   clear zsz z8
   subst ha0
   simp only [slotsidxB93, putAll, h0, h1, Act.put, List.setIfInBounds_toArray, List.set_cons_zero, List.set_cons_succ]
   clear h0 h1
   refine tl_nil ?_
   replace HB := Lib.hid (HB.out.trans (hS.mono HB.out.size))
   clear hS
   obtain ⟨pg, hpv, _, _, hcell⟩ := (HC.out.keep HB.out).el hlt
   have HPV := Lib.hid hpv
   have HCL := Lib.hid hcell
   clear hpv hcell
   obtain ⟨z, hz⟩ : ∃ z, l[i] = z := ⟨_, rfl⟩
   have HZ := Lib.hid hz
   rw [hz] at HCL HST
   clear hz
   cases z
   ·go_upto_region 4 with fail
    refine wp_act (fun a0 ha0 => ?_)
    have zsz : a0.tmps.size = 19 := by rw [ha0]; rfl
    have z1 : a0.eval (.tmp 1) = .bool true := by rw [ha0]; rfl
    have z0 : a0.eval (.tmp 0) = v := by rw [ha0]; rfl
    have z5 : a0.eval (.tmp 5) = .int .i64 ((i : Int)) := by rw [ha0]; rfl
    refine wrO [] slotsIdbf4 waitIdbf4 [Fct.val Flz 0 (.bool true), Fct.val Flz 1 (v), Fct.val Flz 2 (.int .i64 ((i : Int))), Fct.val Flz 3 (.pointer (some ((⟨pg, 0, none⟩ : Addr).add (i * 1)))), Fct.val Flz 4 (.bool false), Fct.val Flz 5 (.bool false)] (fun w' => Below u3.heap.size u3 w') _ 6 0 chkIdbf4 (by kernel_rfl) (by kernel_rfl) (by kernel_rfl) (by decide) (Below.refl _ _) ?_ ?_
    ·refine lt_s (lt_s (lt_s (lt_s (lt_s (lt_s (lt_0) ?_) ?_) ?_) ?_) ?_) ?_
     ·intro f w1 hS hf aA hA
      have r1 := qO 1 hA z1
      exact fV rfl rfl _ (ex_move (.tmp 1) rfl r1) hS uS
     ·intro f w1 hS hf aA hA
      have r0 := qO 0 hA z0
      exact fV rfl rfl _ (ex_move (.tmp 0) rfl r0) hS uS
     ·intro f w1 hS hf aA hA
      have r5 := qO 5 hA z5
      exact fV rfl rfl _ (ex_move (.tmp 5) rfl r5) hS uS
     ·intro f w1 hS hf aA hA
      have r12 := qA 12 1 hA sbIdbf4 zsz (hf 1 (by decide))
      have r13 := qA 13 2 hA sbIdbf4 zsz (hf 2 (by decide))
      exact fV rfl rfl _ (ex_indexS 64 4 (.tmp 12) (.tmp 13) rfl (⟨pg, 0, none⟩ : Addr) l.length l.length i 1 (by kernel_rfl) (fun _ => by kernel_rfl) (Eq.trans r12 HPV.out) r13 hlt) hS uS
     ·intro f w1 hS hf aA hA
      have r14 := qA 14 3 hA sbIdbf4 zsz (hf 3 (by decide))
      exact fV rfl rfl _ (ex_load1 4 (.tmp 14) rfl ((⟨pg, 0, none⟩ : Addr).add (i * 1)) r14 (fun _ => by kernel_rfl) (HCL.out w1 hS.block)) hS uS
     ·intro f w1 hS hf aA hA
      have r11 := qA 11 0 hA sbIdbf4 zsz (hf 0 (by decide))
      have r15 := qA 15 4 hA sbIdbf4 zsz (hf 4 (by decide))
      exact fV rfl rfl _ (Eq.trans (ex_eqB _ _ (.tmp 11) (.tmp 15) rfl (by kernel_rfl) true false r11 r15) (by rw [(by decide : (true == false) = false)])) hS uS
    intro f u4 hS hf hap
    have h0 := eqL (hf 0 (by decide)) rfl
    have h1 : f 1 = v := hf 1 (by decide)
    have h2 := eqL (hf 2 (by decide)) rfl
    have h3 := eqL (hf 3 (by decide)) rfl
    have h4 := eqL (hf 4 (by decide)) rfl
    have h5 := eqL (hf 5 (by decide)) rfl
    clear hf hap
    clear zsz z1 z0 z5
    subst ha0
    simp only [slotsIdbf4, putAll, h0, h1, h2, h3, h4, h5, Act.put, List.setIfInBounds_toArray, List.set_cons_zero, List.set_cons_succ]
    clear h0 h1 h2 h3 h4 h5
    refine tl_nil ?_
    replace HB := Lib.hid (HB.out.trans (hS.mono HB.out.size))
    clear hS
    go_wp2_with fail
    go_roundw
    case rel => exact ⟨i + 1, by omega, by go_num, by rw [HE.out, HST.out, if_neg (by decide)], HB.out⟩
    case measure => simp [intOf]; omega
   ·go_upto_region 4 with fail
    refine wp_act (fun a0 ha0 => ?_)
    have zsz : a0.tmps.size = 19 := by rw [ha0]; rfl
    have z1 : a0.eval (.tmp 1) = .bool true := by rw [ha0]; rfl
    have z0 : a0.eval (.tmp 0) = v := by rw [ha0]; rfl
    have z5 : a0.eval (.tmp 5) = .int .i64 ((i : Int)) := by rw [ha0]; rfl
    refine wrO [] slotsIdbf4 waitIdbf4 [Fct.val Flz 0 (.bool true), Fct.val Flz 1 (v), Fct.val Flz 2 (.int .i64 ((i : Int))), Fct.val Flz 3 (.pointer (some ((⟨pg, 0, none⟩ : Addr).add (i * 1)))), Fct.val Flz 4 (.bool true), Fct.val Flz 5 (.bool true)] (fun w' => Below u3.heap.size u3 w') _ 6 0 chkIdbf4 (by kernel_rfl) (by kernel_rfl) (by kernel_rfl) (by decide) (Below.refl _ _) ?_ ?_
    ·refine lt_s (lt_s (lt_s (lt_s (lt_s (lt_s (lt_0) ?_) ?_) ?_) ?_) ?_) ?_
     ·intro f w1 hS hf aA hA
      have r1 := qO 1 hA z1
      exact fV rfl rfl _ (ex_move (.tmp 1) rfl r1) hS uS
     ·intro f w1 hS hf aA hA
      have r0 := qO 0 hA z0
      exact fV rfl rfl _ (ex_move (.tmp 0) rfl r0) hS uS
     ·intro f w1 hS hf aA hA
      have r5 := qO 5 hA z5
      exact fV rfl rfl _ (ex_move (.tmp 5) rfl r5) hS uS
     ·intro f w1 hS hf aA hA
      have r12 := qA 12 1 hA sbIdbf4 zsz (hf 1 (by decide))
      have r13 := qA 13 2 hA sbIdbf4 zsz (hf 2 (by decide))
      exact fV rfl rfl _ (ex_indexS 64 4 (.tmp 12) (.tmp 13) rfl (⟨pg, 0, none⟩ : Addr) l.length l.length i 1 (by kernel_rfl) (fun _ => by kernel_rfl) (Eq.trans r12 HPV.out) r13 hlt) hS uS
     ·intro f w1 hS hf aA hA
      have r14 := qA 14 3 hA sbIdbf4 zsz (hf 3 (by decide))
      exact fV rfl rfl _ (ex_load1 4 (.tmp 14) rfl ((⟨pg, 0, none⟩ : Addr).add (i * 1)) r14 (fun _ => by kernel_rfl) (HCL.out w1 hS.block)) hS uS
     ·intro f w1 hS hf aA hA
      have r11 := qA 11 0 hA sbIdbf4 zsz (hf 0 (by decide))
      have r15 := qA 15 4 hA sbIdbf4 zsz (hf 4 (by decide))
      exact fV rfl rfl _ (ex_eqB _ _ (.tmp 11) (.tmp 15) rfl (by kernel_rfl) true true r11 r15) hS uS
    intro f u4 hS hf hap
    have h0 := eqL (hf 0 (by decide)) rfl
    have h1 : f 1 = v := hf 1 (by decide)
    have h2 := eqL (hf 2 (by decide)) rfl
    have h3 := eqL (hf 3 (by decide)) rfl
    have h4 := eqL (hf 4 (by decide)) rfl
    have h5 := eqL (hf 5 (by decide)) rfl
    clear hf hap
    clear zsz z1 z0 z5
    subst ha0
    simp only [slotsIdbf4, putAll, h0, h1, h2, h3, h4, h5, Act.put, List.setIfInBounds_toArray, List.set_cons_zero, List.set_cons_succ]
    clear h0 h1 h2 h3 h4 h5
    refine tl_nil ?_
    replace HB := Lib.hid (HB.out.trans (hS.mono HB.out.size))
    clear hS
    go_wp2_with fail
    go_ret
    have HV9 : Value.int .i64 (i : Int) = .int .i64 (idxB l 0) := by rw [HE.out, HST.out]; simp
    first
     | exact ⟨⟨_, rfl, HV9⟩, HB.out⟩
     | exact ⟨congrArg Ending.returned HV9, HB.out⟩
  ·obtain rfl : i = l.length := by omega
   have k3 : ¬ (l.length : Int) < (l.length : Int) := by omega
   go_wp2_with fail
   go_ret
   exact ⟨congrArg Ending.returned (show Value.int .i64 (-1) = Value.int .i64 (idxB l 0) by rw [HE.out, List.drop_length]; rfl), HB.out⟩
theorem idxB9_any (v : Value) (l : List Bool) (b : Nat) (w : World) (hM : l.length ≤ 1000000) (hC : RowB b w v l) : Calls Tryd.prog 52 #[v, .bool true] w fun e w' => (∃ v, e = .returned v ∧ v = .int .i64 (idxB l 0)) ∧ Below w.heap.size w w' := idxB9_b v l b w w (Below.refl _ _) hM hC
end Go.Proofs.YtnkcehmgagpadaaDoor
