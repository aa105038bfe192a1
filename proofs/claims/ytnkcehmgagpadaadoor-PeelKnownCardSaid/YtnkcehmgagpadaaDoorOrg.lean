/- A region that draws its order, walked in one named order; the condition on the memory follows the world: behind each operation it is 'new memory beside what the world now holds', so that what a call has made may be read by an operation that is taken first. No condition. -/
import Derived.Test.YtnkcehmgagpadaaDoorGp24
import Derived.Below
namespace Go.Proofs.YtnkcehmgagpadaaDoor
open Go.RowKit
/-- The world has grown. -/
def Ext (w w' : World) : Prop := Below w.heap.size w w'
theorem Ext.refl (w : World) : Ext w w := Below.refl _ _
theorem Ext.trans {a b c : World} (h : Ext a b) (h' : Ext b c) : Ext a c := Below.trans h (Below.mono h' (Below.size h))
section
variable {P : Program} {md : Region.Mode} {ops : Array Oper} {Q : Exit → Act → World → Prop}
theorem wpAnyH_mono {S S' : World → Prop} (hS : ∀ w, S' w → S w) : ∀ (fuel : Nat) (listed : Array Bool) (a : Act) (w : World), wpAnyH P md ops Q S' fuel listed a w → wpAnyH P md ops Q S fuel listed a w
  | 0, _, _, _, h => h
  | fuel + 1, _, _, _, h => ⟨h.1, fun i hi => wpOp_mono (fun a' w' h' => ⟨hS _ h'.1, wpAnyH_mono hS fuel _ a' w' h'.2⟩) (h.2 i hi)⟩
def wpOrg (P : Program) (ops : Array Oper) (Q : Exit → Act → World → Prop) : List (Nat × Bool) → Act → World → Prop
  | [], a, w => Q .normal a w
  | (i, true) :: r, a, w => ∃ o v, ops[i]? = some o ∧ YieldsIf P ops (Ext w) o v a ∧ wpOrg P ops Q r (a.put o.dst v) w
  | (i, false) :: r, a, w => wpOp P ops Q i (fun a' w' => Ext w w' ∧ wpOrg P ops Q r a' w') a w
theorem wpAnyH_of_org (hs : Region.noSelect ops = true) (hQ : ∀ c a d v w, Q (.panic c) (a.put d v) w → Q (.panic c) a w) :
    ∀ (l : List (Nat × Bool)) (fuel : Nat) (listed : Array Bool) (a : Act) (w : World), l.length ≤ fuel → orsB md ops l listed = true → wpOrg P ops Q l a w →
      wpAnyH P md ops Q (Ext w) fuel listed a w
  | [], fuel, listed, a, w, _, hB, h => wpAnyH_done (by simpa [orsB] using hB) h fuel
  | (i, b) :: r, 0, _, _, _, hl, _, _ => absurd hl (by simp)
  | (i, true) :: r, fuel + 1, listed, a, w, hl, hB, h => by
    obtain ⟨o, v, ho, hy, hr⟩ := h
    simp only [orsB, Bool.and_eq_true] at hB
    exact wpAnyH_take ho hs hB.1 hB.2.1 (fun c a w => hQ c a _ v w) hy (Ext.refl w) (wpAnyH_of_org hs hQ r fuel _ _ _ (by simpa using hl) hB.2.2 hr)
  | (i, false) :: r, fuel + 1, listed, a, w, hl, hB, h => by
    simp only [orsB, Bool.and_eq_true, decide_eq_true_eq] at hB
    refine wpAnyH_all hB.1 (by simp) (fun j hj => ?_)
    have hj : j = i := by simpa using hj
    subst hj
    exact wpOp_mono (fun a' w' h' => ⟨h'.1, wpAnyH_mono (fun x hx => Ext.trans h'.1 hx) _ _ _ _ (wpAnyH_of_org hs hQ r fuel _ _ _ (by simpa using hl) hB.2 h'.2)⟩) h
/-- The same with the operations themselves in their places. -/
def wpOrgL (P : Program) (ops : Array Oper) (Q : Exit → Act → World → Prop) : List (Oper × Bool) → Act → World → Prop
  | [], a, w => Q .normal a w
  | (o, true) :: r, a, w => ∃ v, YieldsIf P ops (Ext w) o v a ∧ wpOrgL P ops Q r (a.put o.dst v) w
  | (o, false) :: r, a, w => if Region.wanted o (yielded ops a.tmps) then o.wp P a w (fun a' w' => Ext w w' ∧ wpOrgL P ops Q r a' w') Q ∨ (o.asks P a w ∧ LetsOut Q) else wpOrgL P ops Q r (a.put o.dst undef) w
theorem wpOrg_of_L (ops : Array Oper) : ∀ (l : List (Nat × Bool)) (a : Act) (w : World), (l.all fun x => decide (x.1 < ops.size)) = true →
    wpOrgL P ops Q (pickOrs ops.toList l) a w → wpOrg P ops Q l a w
  | [], _, _, _, h => h
  | (i, b) :: r, a, w, hl, h => by
    simp only [List.all_cons, Bool.and_eq_true, decide_eq_true_eq] at hl
    have ho : ops.toList[i]? = some ops[i] := by simp [hl.1]
    have ho' : ops[i]? = some ops[i] := by simp [hl.1]
    rw [pickOrs, ho] at h
    cases b with
    | true =>
      obtain ⟨v, hy, hr⟩ := h
      exact ⟨_, v, ho', hy, wpOrg_of_L ops r _ _ hl.2 hr⟩
    | false =>
      show wpOp P ops Q i (fun a' w' => Ext w w' ∧ wpOrg P ops Q r a' w') a w
      have h2 : wpOp P ops Q i (fun a' w' => Ext w w' ∧ wpOrgL P ops Q (pickOrs ops.toList r) a' w') a w := by
        unfold wpOp
        rw [ho']
        show if _ then _ else _
        have h1 : (if Region.wanted ops[i] (yielded ops a.tmps) then (ops[i]).wp P a w (fun a' w' => Ext w w' ∧ wpOrgL P ops Q (pickOrs ops.toList r) a' w') Q ∨ ((ops[i]).asks P a w ∧ LetsOut Q) else wpOrgL P ops Q (pickOrs ops.toList r) (a.put (ops[i]).dst undef) w) := h
        split
        · rename_i hw; rw [if_pos hw] at h1; exact h1
        · rename_i hw; rw [if_neg hw] at h1; exact ⟨Ext.refl w, h1⟩
      exact wpOp_mono (fun a' w' h' => ⟨h'.1, wpOrg_of_L ops r _ _ hl.2 h'.2⟩) h2
theorem org_pure {o : Oper} {r : List (Oper × Bool)} {a : Act} {w : World} {v : Value} (hw : Region.wanted o (yielded ops a.tmps) = true)
    (hy : ∀ w', Ext w w' → (execOp a.eval o).run P w' = .ok (.value v) w') (h : wpOrgL P ops Q r (a.put o.dst v) w) : wpOrgL P ops Q ((o, true) :: r) a w :=
  ⟨v, .inl ⟨hw, hy⟩, h⟩
theorem org_step {o : Oper} {r : List (Oper × Bool)} {a : Act} {w : World} (hw : Region.wanted o (yielded ops a.tmps) = true)
    (h : ∀ K : Act → World → Prop, (∀ a w', Ext w w' ∧ wpOrgL P ops Q r a w' → K a w') → o.wp P a w K Q) : wpOrgL P ops Q ((o, false) :: r) a w := by
  have := h _ (fun _ _ h => h)
  show if _ then _ else _
  rw [if_pos hw]
  exact .inl this
/-- The region is shown not to panic. -/
theorem wp_region_org {id : Nat} {a : Act} {w : World} {lo : List Oper} (l : List (Nat × Bool)) (hm : P.follows .mixedOrders = true) (hs : Region.noSelect lo.toArray = true)
    (hB : (decide (l.length ≤ lo.toArray.size) && (orsB .any lo.toArray l (Array.replicate lo.toArray.size false) && l.all fun x => decide (x.1 < lo.toArray.size))) = true)
    (h : wpOrgL P lo.toArray (NoPanic Q) (pickOrs lo l) a w.drew) : (Code.region id lo.toArray true).wp P Q a w := by
  simp only [Bool.and_eq_true, decide_eq_true_eq] at hB
  exact wp_region_noPanic (wp_region_held_drew (S := Ext w.drew) hm (Ext.refl _) fun _ => wpAnyH_of_org hs (fun _ _ _ _ _ h => h) l _ _ _ _ hB.1 hB.2.1 (wpOrg_of_L _ _ _ _ hB.2.2 h))
theorem org_nil {a : Act} {w : World} (h : Q .normal a w) : wpOrgL P ops (NoPanic Q) [] a w := h
end
/-- The drawn regions of a body, by number. -/
def regs : Code → List (Nat × Array Oper)
  | .region id ops _ => [(id, ops)]
  | .seq a b => regs a ++ regs b
  | .block _ a => regs a
  | .loop a => regs a
  | .cond _ a b => regs a ++ regs b
  | _ => []
def regOf (c : Option Code) (id : Nat) : Array Oper :=
  match c with
  | some c => match (regs c).find? fun x => x.1 == id with
    | some x => x.2
    | none => #[]
  | none => #[]
end Go.Proofs.YtnkcehmgagpadaaDoor
