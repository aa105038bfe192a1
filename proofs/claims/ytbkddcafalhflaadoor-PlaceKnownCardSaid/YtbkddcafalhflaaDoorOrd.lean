/- A region that draws its order, walked in one order that is named: an operation that yields the same in every world may be taken first; another one where it alone may come up. No condition. -/
import Derived.Deep.RegionHeld3
namespace Go.Proofs.YtbkddcafalhflaaDoor

section
variable {P : Program} {ops : Array Oper} {Q : Exit → Act → World → Prop}

/-- The operations by number; true: it yields the same in whatever world. -/
def wpOrd (P : Program) (ops : Array Oper) (Q : Exit → Act → World → Prop) : List (Nat × Bool) → Act → World → Prop
  | [], a, w => Q .normal a w
  | (i, true) :: r, a, w => ∃ o v, ops[i]? = some o ∧ YieldsIf P ops (fun _ => True) o v a ∧ wpOrd P ops Q r (a.put o.dst v) w
  | (i, false) :: r, a, w => wpOp P ops Q i (wpOrd P ops Q r) a w

def ordB (md : Region.Mode) (ops : Array Oper) : List (Nat × Bool) → Array Bool → Bool
  | [], listed => (Region.ready md ops listed).isEmpty
  | (i, true) :: r, listed => Region.free md ops listed i && ((Region.ready md ops listed).contains i && ordB md ops r (listed.setIfInBounds i true))
  | (i, false) :: r, listed => decide (Region.ready md ops listed = [i]) && ordB md ops r (listed.setIfInBounds i true)

theorem wpAnyH_of_ord {md : Region.Mode} (hs : Region.noSelect ops = true) (hQ : ∀ c a d v w, Q (.panic c) (a.put d v) w → Q (.panic c) a w) :
    ∀ (l : List (Nat × Bool)) (fuel : Nat) (listed : Array Bool) (a : Act) (w : World), l.length ≤ fuel → ordB md ops l listed = true → wpOrd P ops Q l a w →
      wpAnyH P md ops Q (fun _ => True) fuel listed a w
  | [], fuel, listed, a, w, _, hB, h => wpAnyH_done (by simpa [ordB] using hB) h fuel
  | (i, b) :: r, 0, _, _, _, hl, _, _ => absurd hl (by simp)
  | (i, true) :: r, fuel + 1, listed, a, w, hl, hB, h => by
    obtain ⟨o, v, ho, hy, hr⟩ := h
    simp only [ordB, Bool.and_eq_true] at hB
    exact wpAnyH_take ho hs hB.1 hB.2.1 (fun c a w => hQ c a _ v w) hy trivial (wpAnyH_of_ord hs hQ r fuel _ _ _ (by simpa using hl) hB.2.2 hr)
  | (i, false) :: r, fuel + 1, listed, a, w, hl, hB, h => by
    simp only [ordB, Bool.and_eq_true, decide_eq_true_eq] at hB
    refine wpAnyH_all hB.1 (by simp) (fun j hj => ?_)
    have hj : j = i := by simpa using hj
    subst hj
    exact wpOp_mono (fun a' w' h' => ⟨trivial, wpAnyH_of_ord hs hQ r fuel _ _ _ (by simpa using hl) hB.2 h'⟩) h

/-- The same with the operations themselves in their places. -/
def wpOrdL (P : Program) (ops : Array Oper) (Q : Exit → Act → World → Prop) : List (Oper × Bool) → Act → World → Prop
  | [], a, w => Q .normal a w
  | (o, true) :: r, a, w => ∃ v, YieldsIf P ops (fun _ => True) o v a ∧ wpOrdL P ops Q r (a.put o.dst v) w
  | (o, false) :: r, a, w => if Region.wanted o (yielded ops a.tmps) then o.wp P a w (wpOrdL P ops Q r) Q ∨ (o.asks P a w ∧ LetsOut Q) else wpOrdL P ops Q r (a.put o.dst undef) w
def pickOps (l : List Oper) : List (Nat × Bool) → List (Oper × Bool)
  | [] => []
  | (i, b) :: r => match l[i]? with
    | some o => (o, b) :: pickOps l r
    | none => pickOps l r
theorem wpOrd_of_L (ops : Array Oper) : ∀ (l : List (Nat × Bool)) (a : Act) (w : World), (l.all fun x => decide (x.1 < ops.size)) = true →
    wpOrdL P ops Q (pickOps ops.toList l) a w → wpOrd P ops Q l a w
  | [], _, _, _, h => h
  | (i, b) :: r, a, w, hl, h => by
    simp only [List.all_cons, Bool.and_eq_true, decide_eq_true_eq] at hl
    have ho : ops.toList[i]? = some ops[i] := by simp [hl.1]
    have ho' : ops[i]? = some ops[i] := by simp [hl.1]
    rw [pickOps, ho] at h
    cases b with
    | true =>
      obtain ⟨v, hy, hr⟩ := h
      exact ⟨_, v, ho', hy, wpOrd_of_L ops r _ _ hl.2 hr⟩
    | false =>
      show wpOp P ops Q i (wpOrd P ops Q r) a w
      have h2 : wpOp P ops Q i (wpOrdL P ops Q (pickOps ops.toList r)) a w := by unfold wpOp; rw [ho']; exact h
      exact wpOp_mono (fun a' w' h' => wpOrd_of_L ops r _ _ hl.2 h') h2
theorem ord_pure {o : Oper} {r : List (Oper × Bool)} {a : Act} {w : World} {v : Value} (hw : Region.wanted o (yielded ops a.tmps) = true)
    (hy : ∀ w', (execOp a.eval o).run P w' = .ok (.value v) w') (h : wpOrdL P ops Q r (a.put o.dst v) w) : wpOrdL P ops Q ((o, true) :: r) a w :=
  ⟨v, .inl ⟨hw, fun w' _ => hy w'⟩, h⟩
theorem ord_step {o : Oper} {r : List (Oper × Bool)} {a : Act} {w : World} (hg : o.guard = none)
    (h : ∀ K : Act → World → Prop, (∀ a w, wpOrdL P ops Q r a w → K a w) → o.wp P a w K Q) : wpOrdL P ops Q ((o, false) :: r) a w := by
  have := h _ (fun _ _ h => h)
  show if _ then _ else _
  rw [if_pos (by simp [Region.wanted, hg])]
  exact .inl this
/-- The region is shown not to panic. -/
theorem wp_region_ord {id : Nat} {a : Act} {w : World} {lo : List Oper} (l : List (Nat × Bool)) (hm : P.follows .mixedOrders = true) (hs : Region.noSelect lo.toArray = true)
    (hB : (decide (l.length ≤ lo.toArray.size) && (ordB .any lo.toArray l (Array.replicate lo.toArray.size false) && l.all fun x => decide (x.1 < lo.toArray.size))) = true)
    (h : wpOrdL P lo.toArray (NoPanic Q) (pickOps lo l) a w.drew) : (Code.region id lo.toArray true).wp P Q a w := by
  simp only [Bool.and_eq_true, decide_eq_true_eq] at hB
  exact wp_region_noPanic (wp_region_held hm (wpAnyH_of_ord hs (fun _ _ _ _ _ h => h) l _ _ _ _ hB.1 hB.2.1 (wpOrd_of_L _ _ _ _ hB.2.2 h)))
theorem ord_nil {a : Act} {w : World} (h : Q .normal a w) : wpOrdL P ops (NoPanic Q) [] a w := h
end
end Go.Proofs.YtbkddcafalhflaaDoor
