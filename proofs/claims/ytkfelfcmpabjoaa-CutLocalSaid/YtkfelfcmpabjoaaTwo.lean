/- A region that draws its order, walked in one named order in which two neighbours may stand either way round: both ways are walked, and joined in what both leave. The condition on the memory follows the world. No condition. -/
import Derived.Test.YtkfelfcmpabjoaaOrg
namespace Go.Proofs.Ytkfelfcmpabjoaa
open Go.RowKit
/-- A step of an order: one operation (whether it may be taken first), or two of them either way round. -/
abbrev Stp := Sum (Nat × Bool) (Nat × Nat)
abbrev StpL := Sum (Oper × Bool) (Oper × Oper)
def otB (md : Region.Mode) (ops : Array Oper) : List Stp → Array Bool → Bool
  | [], listed => (Region.ready md ops listed).isEmpty
  | .inl (i, true) :: r, listed => Region.free md ops listed i && ((Region.ready md ops listed).contains i && otB md ops r (listed.setIfInBounds i true))
  | .inl (i, false) :: r, listed => decide (Region.ready md ops listed = [i]) && otB md ops r (listed.setIfInBounds i true)
  | .inr (i, j) :: r, listed => (decide (Region.ready md ops listed = [i, j]) && decide (i ≠ j)) && ((decide (Region.ready md ops (listed.setIfInBounds i true) = [j]) && decide (Region.ready md ops (listed.setIfInBounds j true) = [i])) && otB md ops r ((listed.setIfInBounds i true).setIfInBounds j true))
def fewer : List Stp → Nat
  | [] => 0
  | .inl (_, _) :: r => fewer r + 1
  | .inr (_, _) :: r => fewer r + 2
def inB (n : Nat) : Stp → Bool
  | .inl (i, _) => decide (i < n)
  | .inr (i, j) => decide (i < n) && decide (j < n)
section
variable {P : Program} {md : Region.Mode} {ops : Array Oper} {Q : Exit → Act → World → Prop}
def wpOt (P : Program) (ops : Array Oper) (Q : Exit → Act → World → Prop) : List Stp → Act → World → Prop
  | [], a, w => Q .normal a w
  | .inl (i, true) :: r, a, w => ∃ o v, ops[i]? = some o ∧ YieldsIf P ops (Ext w) o v a ∧ wpOt P ops Q r (a.put o.dst v) w
  | .inl (i, false) :: r, a, w => wpOp P ops Q i (fun a' w' => Ext w w' ∧ wpOt P ops Q r a' w') a w
  | .inr (i, j) :: r, a, w => ∃ R : Act → World → Prop,
      (wpOp P ops Q i (fun a1 w1 => Ext w w1 ∧ wpOp P ops Q j (fun a2 w2 => Ext w1 w2 ∧ R a2 w2) a1 w1) a w ∧
       wpOp P ops Q j (fun a1 w1 => Ext w w1 ∧ wpOp P ops Q i (fun a2 w2 => Ext w1 w2 ∧ R a2 w2) a1 w1) a w) ∧ ∀ a' w', R a' w' → wpOt P ops Q r a' w'
theorem set_comm2 (l : Array Bool) (i j : Nat) (h : i ≠ j) : (l.setIfInBounds j true).setIfInBounds i true = (l.setIfInBounds i true).setIfInBounds j true := by
  exact Array.setIfInBounds_comm _ _ (Ne.symm h)
theorem wpAnyH_of_ot (hs : Region.noSelect ops = true) (hQ : ∀ c a d v w, Q (.panic c) (a.put d v) w → Q (.panic c) a w) :
    ∀ (l : List Stp) (fuel : Nat) (listed : Array Bool) (a : Act) (w : World), fewer l ≤ fuel → otB md ops l listed = true → wpOt P ops Q l a w →
      wpAnyH P md ops Q (Ext w) fuel listed a w
  | [], fuel, listed, a, w, _, hB, h => wpAnyH_done (by simpa [otB] using hB) h fuel
  | .inl (i, b) :: r, 0, _, _, _, hl, _, _ => absurd hl (by simp [fewer])
  | .inr (i, j) :: r, 0, _, _, _, hl, _, _ => absurd hl (by simp [fewer])
  | .inr (i, j) :: r, 1, _, _, _, hl, _, _ => absurd hl (by simp [fewer])
  | .inl (i, true) :: r, fuel + 1, listed, a, w, hl, hB, h => by
    obtain ⟨o, v, ho, hy, hr⟩ := h
    simp only [otB, Bool.and_eq_true] at hB
    exact wpAnyH_take ho hs hB.1 hB.2.1 (fun c a w => hQ c a _ v w) hy (Ext.refl w) (wpAnyH_of_ot hs hQ r fuel _ _ _ (by simpa [fewer] using hl) hB.2.2 hr)
  | .inl (i, false) :: r, fuel + 1, listed, a, w, hl, hB, h => by
    simp only [otB, Bool.and_eq_true, decide_eq_true_eq] at hB
    refine wpAnyH_all hB.1 (by simp) (fun j hj => ?_)
    have hj : j = i := by simpa using hj
    subst hj
    exact wpOp_mono (fun a' w' h' => ⟨h'.1, wpAnyH_mono (fun x hx => Ext.trans h'.1 hx) _ _ _ _ (wpAnyH_of_ot hs hQ r fuel _ _ _ (by simpa [fewer] using hl) hB.2 h'.2)⟩) h
  | .inr (i, j) :: r, fuel + 2, listed, a, w, hl, hB, h => by
    obtain ⟨R, ⟨h1, h2⟩, h3⟩ := h
    simp only [otB, Bool.and_eq_true, decide_eq_true_eq] at hB
    obtain ⟨⟨b1, bn⟩, ⟨b2, b3⟩, b4⟩ := hB
    have hf : fewer r ≤ fuel := by simp only [fewer] at hl; omega
    refine wpAnyH_all b1 (by simp) (fun k hk => ?_)
    rcases (show k = i ∨ k = j by simpa using hk) with rfl | rfl
    · refine wpOp_mono (fun a1 w1 h' => ⟨h'.1, wpAnyH_mono (fun x hx => Ext.trans h'.1 hx) _ _ _ _ (wpAnyH_all b2 (by simp) (fun k' hk' => ?_))⟩) h1
      have hk' : k' = j := by simpa using hk'
      subst hk'
      exact wpOp_mono (fun a2 w2 h'' => ⟨h''.1, wpAnyH_mono (fun x hx => Ext.trans h''.1 hx) _ _ _ _ (wpAnyH_of_ot hs hQ r fuel _ _ _ hf b4 (h3 _ _ h''.2))⟩) h'.2
    · refine wpOp_mono (fun a1 w1 h' => ⟨h'.1, wpAnyH_mono (fun x hx => Ext.trans h'.1 hx) _ _ _ _ (wpAnyH_all b3 (by simp) (fun k' hk' => ?_))⟩) h2
      have hk' : k' = i := by simpa using hk'
      subst hk'
      rw [set_comm2 listed k' k bn]
      exact wpOp_mono (fun a2 w2 h'' => ⟨h''.1, wpAnyH_mono (fun x hx => Ext.trans h''.1 hx) _ _ _ _ (wpAnyH_of_ot hs hQ r fuel _ _ _ hf b4 (h3 _ _ h''.2))⟩) h'.2
/-- One operation, wanted or passed over. -/
def stepL (P : Program) (ops : Array Oper) (Q : Exit → Act → World → Prop) (o : Oper) (K : Act → World → Prop) (a : Act) (w : World) : Prop :=
  if Region.wanted o (yielded ops a.tmps) then o.wp P a w K Q ∨ (o.asks P a w ∧ LetsOut Q) else K (a.put o.dst undef) w
theorem wpOp_step {i : Nat} {o : Oper} {K : Act → World → Prop} {a : Act} {w : World} (ho : ops[i]? = some o) (h : stepL P ops Q o K a w) : wpOp P ops Q i K a w := by
  unfold wpOp; rw [ho]; exact h
def wpOtL (P : Program) (ops : Array Oper) (Q : Exit → Act → World → Prop) : List StpL → Act → World → Prop
  | [], a, w => Q .normal a w
  | .inl (o, true) :: r, a, w => ∃ v, YieldsIf P ops (Ext w) o v a ∧ wpOtL P ops Q r (a.put o.dst v) w
  | .inl (o, false) :: r, a, w => ∃ R : Act → World → Prop, stepL P ops Q o (fun a' w' => Ext w w' ∧ R a' w') a w ∧ ∀ a' w', R a' w' → wpOtL P ops Q r a' w'
  | .inr (o, p) :: r, a, w => ∃ R : Act → World → Prop,
      (∃ R1 R2 : Act → World → Prop, (stepL P ops Q o (fun a1 w1 => Ext w w1 ∧ R1 a1 w1) a w ∧ ∀ a1 w1, R1 a1 w1 → stepL P ops Q p (fun a2 w2 => Ext w1 w2 ∧ R a2 w2) a1 w1) ∧
       (stepL P ops Q p (fun a1 w1 => Ext w w1 ∧ R2 a1 w1) a w ∧ ∀ a1 w1, R2 a1 w1 → stepL P ops Q o (fun a2 w2 => Ext w1 w2 ∧ R a2 w2) a1 w1)) ∧ ∀ a' w', R a' w' → wpOtL P ops Q r a' w'
def pickOt (l : List Oper) : List Stp → List StpL
  | [] => []
  | .inl (i, b) :: r => match l[i]? with
    | some o => .inl (o, b) :: pickOt l r
    | none => pickOt l r
  | .inr (i, j) :: r => match l[i]?, l[j]? with
    | some o, some p => .inr (o, p) :: pickOt l r
    | _, _ => pickOt l r
theorem wpOt_of_L (ops : Array Oper) : ∀ (l : List Stp) (a : Act) (w : World), (l.all (inB ops.size)) = true → wpOtL P ops Q (pickOt ops.toList l) a w → wpOt P ops Q l a w
  | [], _, _, _, h => h
  | .inl (i, b) :: r, a, w, hl, h => by
    simp only [List.all_cons, Bool.and_eq_true, inB, decide_eq_true_eq] at hl
    have ho : ops.toList[i]? = some ops[i] := by simp [hl.1]
    have ho' : ops[i]? = some ops[i] := by simp [hl.1]
    rw [pickOt, ho] at h
    cases b with
    | true =>
      obtain ⟨v, hy, hr⟩ := h
      exact ⟨_, v, ho', hy, wpOt_of_L ops r _ _ hl.2 hr⟩
    | false =>
      obtain ⟨R, h1, h2⟩ := h
      exact wpOp_mono (fun a' w' h' => ⟨h'.1, wpOt_of_L ops r _ _ hl.2 (h2 _ _ h'.2)⟩) (wpOp_step ho' h1)
  | .inr (i, j) :: r, a, w, hl, h => by
    simp only [List.all_cons, Bool.and_eq_true, inB, decide_eq_true_eq] at hl
    obtain ⟨⟨li, lj⟩, hl2⟩ := hl
    have ho : ops.toList[i]? = some ops[i] := by simp [li]
    have ho' : ops[i]? = some ops[i] := by simp [li]
    have hp : ops.toList[j]? = some ops[j] := by simp [lj]
    have hp' : ops[j]? = some ops[j] := by simp [lj]
    rw [pickOt, ho, hp] at h
    obtain ⟨R, ⟨R1, R2, ⟨h1, h2⟩, h3, h4⟩, h5⟩ := h
    exact ⟨R, ⟨wpOp_mono (fun a1 w1 h' => ⟨h'.1, wpOp_step hp' (h2 _ _ h'.2)⟩) (wpOp_step ho' h1), wpOp_mono (fun a1 w1 h' => ⟨h'.1, wpOp_step ho' (h4 _ _ h'.2)⟩) (wpOp_step hp' h3)⟩, fun a' w' hr => wpOt_of_L ops r _ _ hl2 (h5 _ _ hr)⟩
theorem ot_pure {o : Oper} {r : List StpL} {a : Act} {w : World} {v : Value} (hw : Region.wanted o (yielded ops a.tmps) = true)
    (hy : ∀ w', Ext w w' → (execOp a.eval o).run P w' = .ok (.value v) w') (h : wpOtL P ops Q r (a.put o.dst v) w) : wpOtL P ops Q (.inl (o, true) :: r) a w :=
  ⟨v, .inl ⟨hw, hy⟩, h⟩
theorem ot_skip {o : Oper} {r : List StpL} {a : Act} {w : World} (hw : Region.wanted o (yielded ops a.tmps) = false)
    (h : wpOtL P ops Q r (a.put o.dst undef) w) : wpOtL P ops Q (.inl (o, true) :: r) a w :=
  ⟨undef, .inr ⟨hw, rfl⟩, h⟩
theorem step_wp {o : Oper} {K : Act → World → Prop} {a : Act} {w : World} (hw : Region.wanted o (yielded ops a.tmps) = true) (h : o.wp P a w K Q) : stepL P ops Q o K a w := by
  unfold stepL; rw [if_pos hw]; exact .inl h
theorem ot_step {o : Oper} {r : List StpL} {a : Act} {w : World} (hw : Region.wanted o (yielded ops a.tmps) = true)
    (h : ∀ K : Act → World → Prop, (∀ a w', Ext w w' ∧ wpOtL P ops Q r a w' → K a w') → o.wp P a w K Q) : wpOtL P ops Q (.inl (o, false) :: r) a w :=
  ⟨_, step_wp hw (h _ fun _ _ h => h), fun _ _ h => h⟩
theorem ot_two {o p : Oper} {r : List StpL} {a : Act} {w : World} (F : Value → Value → World → Prop)
    (hw1 : Region.wanted o (yielded ops a.tmps) = true) (hw2 : Region.wanted p (yielded ops a.tmps) = true)
    (hw3 : ∀ v, Region.wanted p (yielded ops (a.put o.dst v).tmps) = true) (hw4 : ∀ v, Region.wanted o (yielded ops (a.put p.dst v).tmps) = true)
    (R1 R2 : Value → World → Prop)
    (h1 : ∀ K : Act → World → Prop, (∀ v w1, Ext w w1 ∧ R1 v w1 → K (a.put o.dst v) w1) → o.wp P a w K Q)
    (h2 : ∀ v w1, R1 v w1 → ∀ K : Act → World → Prop, (∀ u w2, Ext w1 w2 ∧ F v u w2 → K ((a.put o.dst v).put p.dst u) w2) → p.wp P (a.put o.dst v) w1 K Q)
    (h3 : ∀ K : Act → World → Prop, (∀ u w1, Ext w w1 ∧ R2 u w1 → K (a.put p.dst u) w1) → p.wp P a w K Q)
    (h4 : ∀ u w1, R2 u w1 → ∀ K : Act → World → Prop, (∀ v w2, Ext w1 w2 ∧ F v u w2 → K ((a.put p.dst u).put o.dst v) w2) → o.wp P (a.put p.dst u) w1 K Q)
    (hc : ∀ v u, (a.put p.dst u).put o.dst v = (a.put o.dst v).put p.dst u)
    (h : ∀ v u w', F v u w' → wpOtL P ops Q r ((a.put o.dst v).put p.dst u) w') : wpOtL P ops Q (.inr (o, p) :: r) a w := by
  refine ⟨fun a' w' => ∃ v u, a' = (a.put o.dst v).put p.dst u ∧ F v u w', ⟨fun a' w' => ∃ v, a' = a.put o.dst v ∧ R1 v w', fun a' w' => ∃ u, a' = a.put p.dst u ∧ R2 u w', ⟨?_, ?_⟩, ?_, ?_⟩, ?_⟩
  · exact step_wp hw1 (h1 _ fun v w1 hr => ⟨hr.1, v, rfl, hr.2⟩)
  · rintro a1 w1 ⟨v, rfl, hr⟩
    exact step_wp (hw3 v) (h2 v w1 hr _ fun u w2 hf => ⟨hf.1, v, u, rfl, hf.2⟩)
  · exact step_wp hw2 (h3 _ fun u w1 hr => ⟨hr.1, u, rfl, hr.2⟩)
  · rintro a1 w1 ⟨u, rfl, hr⟩
    exact step_wp (hw4 u) (h4 u w1 hr _ fun v w2 hf => ⟨hf.1, v, u, hc v u, hf.2⟩)
  · rintro a' w' ⟨v, u, rfl, hf⟩
    exact h v u w' hf
theorem ot_nil {a : Act} {w : World} (h : Q .normal a w) : wpOtL P ops (NoPanic Q) [] a w := h
end
/-- The check of an order, for a theorem of its own. -/
def otcB (l : List Stp) (q : Array Oper) : Bool :=
  decide (fewer l ≤ q.size) && (otB .any q l (Array.replicate q.size false) && l.all (inB q.size))
theorem wp_region_ot {P : Program} {Q : Exit → Act → World → Prop} {id : Nat} {a : Act} {w : World} {lo : List Oper} (l : List Stp) (q : Array Oper) (hq : otcB l q = true) (he : lo.toArray = q) (hm : P.follows .mixedOrders = true) (hs : Region.noSelect lo.toArray = true)
    (h : wpOtL P lo.toArray (NoPanic Q) (pickOt lo l) a w.drew) : (Code.region id lo.toArray true).wp P Q a w := by
  rw [← he] at hq
  unfold otcB at hq
  simp only [Bool.and_eq_true, decide_eq_true_eq] at hq
  exact wp_region_noPanic (wp_region_held_drew (S := Ext w.drew) hm (Ext.refl _) fun _ => wpAnyH_of_ot hs (fun _ _ _ _ _ h => h) l _ _ _ _ hq.1 hq.2.1 (wpOt_of_L _ _ _ _ hq.2.2 h))
end Go.Proofs.Ytkfelfcmpabjoaa
