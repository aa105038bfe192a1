/- A region that draws its order, walked step by step under a condition S on the memory: an operation that yields the same in every world that meets S may be taken first; else whichever may come up is carried out, and S shown anew. No condition. -/
import Derived.Deep.RegionHeld3
namespace Go.Proofs.YtnkcehmgagpadaaDoor
section
variable {P : Program} {lo : List Oper} {Q : Exit → Act → World → Prop} {S : World → Prop}
end
end Go.Proofs.YtnkcehmgagpadaaDoor
/- A region that draws its order, walked in one named order under a condition S on the memory: an operation that yields the same in every world that meets S may be taken first, another one where it alone may come up; a guarded one that is not wanted is passed over. No condition. -/
namespace Go.Proofs.YtnkcehmgagpadaaDoor
section
variable {P : Program} {ops : Array Oper} {S : World → Prop} {Q : Exit → Act → World → Prop}
def wpOrs (P : Program) (ops : Array Oper) (S : World → Prop) (Q : Exit → Act → World → Prop) : List (Nat × Bool) → Act → World → Prop
  | [], a, w => Q .normal a w
  | (i, true) :: r, a, w => ∃ o v, ops[i]? = some o ∧ YieldsIf P ops S o v a ∧ wpOrs P ops S Q r (a.put o.dst v) w
  | (i, false) :: r, a, w => wpOp P ops Q i (fun a' w' => S w' ∧ wpOrs P ops S Q r a' w') a w
def orsB (md : Region.Mode) (ops : Array Oper) : List (Nat × Bool) → Array Bool → Bool
  | [], listed => (Region.ready md ops listed).isEmpty
  | (i, true) :: r, listed => Region.free md ops listed i && ((Region.ready md ops listed).contains i && orsB md ops r (listed.setIfInBounds i true))
  | (i, false) :: r, listed => decide (Region.ready md ops listed = [i]) && orsB md ops r (listed.setIfInBounds i true)
theorem wpAnyH_of_ors {md : Region.Mode} (hs : Region.noSelect ops = true) (hQ : ∀ c a d v w, Q (.panic c) (a.put d v) w → Q (.panic c) a w) :
    ∀ (l : List (Nat × Bool)) (fuel : Nat) (listed : Array Bool) (a : Act) (w : World), l.length ≤ fuel → orsB md ops l listed = true → S w → wpOrs P ops S Q l a w →
      wpAnyH P md ops Q S fuel listed a w
  | [], fuel, listed, a, w, _, hB, _, h => wpAnyH_done (by simpa [orsB] using hB) h fuel
  | (i, b) :: r, 0, _, _, _, hl, _, _, _ => absurd hl (by simp)
  | (i, true) :: r, fuel + 1, listed, a, w, hl, hB, hS, h => by
    obtain ⟨o, v, ho, hy, hr⟩ := h
    simp only [orsB, Bool.and_eq_true] at hB
    exact wpAnyH_take ho hs hB.1 hB.2.1 (fun c a w => hQ c a _ v w) hy hS (wpAnyH_of_ors hs hQ r fuel _ _ _ (by simpa using hl) hB.2.2 hS hr)
  | (i, false) :: r, fuel + 1, listed, a, w, hl, hB, hS, h => by
    simp only [orsB, Bool.and_eq_true, decide_eq_true_eq] at hB
    refine wpAnyH_all hB.1 (by simp) (fun j hj => ?_)
    have hj : j = i := by simpa using hj
    subst hj
    exact wpOp_mono (fun a' w' h' => ⟨h'.1, wpAnyH_of_ors hs hQ r fuel _ _ _ (by simpa using hl) hB.2 h'.1 h'.2⟩) h
def wpOrsL (P : Program) (ops : Array Oper) (S : World → Prop) (Q : Exit → Act → World → Prop) : List (Oper × Bool) → Act → World → Prop
  | [], a, w => Q .normal a w
  | (o, true) :: r, a, w => ∃ v, YieldsIf P ops S o v a ∧ wpOrsL P ops S Q r (a.put o.dst v) w
  | (o, false) :: r, a, w => if Region.wanted o (yielded ops a.tmps) then o.wp P a w (fun a' w' => S w' ∧ wpOrsL P ops S Q r a' w') Q ∨ (o.asks P a w ∧ LetsOut Q) else (S w ∧ wpOrsL P ops S Q r (a.put o.dst undef) w)
def pickOrs (l : List Oper) : List (Nat × Bool) → List (Oper × Bool)
  | [] => []
  | (i, b) :: r => match l[i]? with
    | some o => (o, b) :: pickOrs l r
    | none => pickOrs l r
theorem wpOrs_of_L (ops : Array Oper) : ∀ (l : List (Nat × Bool)) (a : Act) (w : World), (l.all fun x => decide (x.1 < ops.size)) = true →
    wpOrsL P ops S Q (pickOrs ops.toList l) a w → wpOrs P ops S Q l a w
  | [], _, _, _, h => h
  | (i, b) :: r, a, w, hl, h => by
    simp only [List.all_cons, Bool.and_eq_true, decide_eq_true_eq] at hl
    have ho : ops.toList[i]? = some ops[i] := by simp [hl.1]
    have ho' : ops[i]? = some ops[i] := by simp [hl.1]
    rw [pickOrs, ho] at h
    cases b with
    | true =>
      obtain ⟨v, hy, hr⟩ := h
      exact ⟨_, v, ho', hy, wpOrs_of_L ops r _ _ hl.2 hr⟩
    | false =>
      show wpOp P ops Q i (fun a' w' => S w' ∧ wpOrs P ops S Q r a' w') a w
      have h2 : wpOp P ops Q i (fun a' w' => S w' ∧ wpOrsL P ops S Q (pickOrs ops.toList r) a' w') a w := by unfold wpOp; rw [ho']; exact h
      exact wpOp_mono (fun a' w' h' => ⟨h'.1, wpOrs_of_L ops r _ _ hl.2 h'.2⟩) h2
theorem ors_pure {o : Oper} {r : List (Oper × Bool)} {a : Act} {w : World} {v : Value} (hw : Region.wanted o (yielded ops a.tmps) = true)
    (hy : ∀ w', S w' → (execOp a.eval o).run P w' = .ok (.value v) w') (h : wpOrsL P ops S Q r (a.put o.dst v) w) : wpOrsL P ops S Q ((o, true) :: r) a w :=
  ⟨v, .inl ⟨hw, hy⟩, h⟩
theorem ors_step {o : Oper} {r : List (Oper × Bool)} {a : Act} {w : World} (hw : Region.wanted o (yielded ops a.tmps) = true)
    (h : ∀ K : Act → World → Prop, (∀ a w, S w ∧ wpOrsL P ops S Q r a w → K a w) → o.wp P a w K Q) : wpOrsL P ops S Q ((o, false) :: r) a w := by
  have := h _ (fun _ _ h => h)
  show if _ then _ else _
  rw [if_pos hw]
  exact .inl this
/-- The region is shown not to panic. -/
theorem wp_region_ors (S : World → Prop) {id : Nat} {a : Act} {w : World} {lo : List Oper} (l : List (Nat × Bool)) (hm : P.follows .mixedOrders = true) (hs : Region.noSelect lo.toArray = true)
    (hB : (decide (l.length ≤ lo.toArray.size) && (orsB .any lo.toArray l (Array.replicate lo.toArray.size false) && l.all fun x => decide (x.1 < lo.toArray.size))) = true)
    (hS : S w.drew) (h : wpOrsL P lo.toArray S (NoPanic Q) (pickOrs lo l) a w.drew) : (Code.region id lo.toArray true).wp P Q a w := by
  simp only [Bool.and_eq_true, decide_eq_true_eq] at hB
  exact wp_region_noPanic (wp_region_held_drew hm hS fun hS => wpAnyH_of_ors hs (fun _ _ _ _ _ h => h) l _ _ _ _ hB.1 hB.2.1 hS (wpOrs_of_L _ _ _ _ hB.2.2 h))
theorem ors_nil {a : Act} {w : World} (h : Q .normal a w) : wpOrsL P ops S (NoPanic Q) [] a w := h
end
end Go.Proofs.YtnkcehmgagpadaaDoor
