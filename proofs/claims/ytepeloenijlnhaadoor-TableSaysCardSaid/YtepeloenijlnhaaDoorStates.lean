/- A region that draws its order, walked by state and not by path: an invariant J of what is listed, the slots and the memory, which each operation that may come up keeps (one proof an operation, whatever came before it); the states lie level by level, and the kernel checks that each one's ready operations are foreseen and lead to the next level. No condition. -/
import Derived.Test.YtepeloenijlnhaaDoorOrs
namespace Go.Proofs.YtepeloenijlnhaaDoor
section
variable {P : Program} {md : Region.Mode} {ops : Array Oper} {Q : Exit → Act → World → Prop} {S : World → Prop}
/-- Each state of a level has something ready; each that is ready is foreseen (C) and leads to a state of the next level. -/
def levelsB (md : Region.Mode) (ops : Array Oper) (C : Nat → Array Bool → Bool) : List (List (Array Bool)) → Bool
  | [] => true
  | [_] => true
  | E :: E' :: r => (E.all fun l => !(Region.ready md ops l).isEmpty && (Region.ready md ops l).all fun j => C j l && E'.contains (l.setIfInBounds j true)) && levelsB md ops C (E' :: r)
theorem wpAnyH_states (C : Nat → Array Bool → Bool) (J : Array Bool → Act → World → Prop) (fuel : Nat) (last : List (Array Bool))
    (hJ : ∀ (l : Array Bool) (a : Act) (w : World) (j : Nat), C j l = true → J l a w → wpOp P ops Q j (fun a' w' => S w' ∧ J (l.setIfInBounds j true) a' w') a w)
    (hF : ∀ l ∈ last, ∀ (a : Act) (w : World), J l a w → wpAnyH P md ops Q S fuel l a w) :
    ∀ (r : List (List (Array Bool))) (E : List (Array Bool)), levelsB md ops C (E :: r ++ [last]) = true → ∀ l ∈ E, ∀ (a : Act) (w : World), J l a w → wpAnyH P md ops Q S (fuel + (r.length + 1)) l a w
  | [], E, hB, l, hl, a, w, h => by
    have hB' : ((E.all fun l => !(Region.ready md ops l).isEmpty && (Region.ready md ops l).all fun j => C j l && last.contains (l.setIfInBounds j true)) && true) = true := hB
    rw [Bool.and_true, List.all_eq_true] at hB'
    have hl' := hB' l hl
    rw [Bool.and_eq_true, List.all_eq_true] at hl'
    refine wpAnyH_all (fuel := fuel) rfl (by intro h0; simp [h0] at hl') (fun j hj => ?_)
    have hj' := hl'.2 j hj
    rw [Bool.and_eq_true] at hj'
    exact wpOp_mono (fun a' w' h' => ⟨h'.1, hF _ (by simpa using hj'.2) a' w' h'.2⟩) (hJ l a w j hj'.1 h)
  | E' :: r, E, hB, l, hl, a, w, h => by
    have hB' : ((E.all fun l => !(Region.ready md ops l).isEmpty && (Region.ready md ops l).all fun j => C j l && E'.contains (l.setIfInBounds j true)) && levelsB md ops C (E' :: r ++ [last])) = true := by
      cases r <;> exact hB
    rw [Bool.and_eq_true, List.all_eq_true] at hB'
    have hl' := hB'.1 l hl
    rw [Bool.and_eq_true, List.all_eq_true] at hl'
    refine wpAnyH_all (fuel := fuel + (r.length + 1)) rfl (by intro h0; simp [h0] at hl') (fun j hj => ?_)
    have hj' := hl'.2 j hj
    rw [Bool.and_eq_true] at hj'
    exact wpOp_mono (fun a' w' h' => ⟨h'.1, wpAnyH_states C J fuel last hJ hF r E' hB'.2 _ (by simpa using hj'.2) a' w' h'.2⟩) (hJ l a w j hj'.1 h)
/-- What is listed behind some operations. -/
def listedAfter : List (Nat × Bool) → Array Bool → Array Bool
  | [], l => l
  | (i, _) :: r, l => listedAfter r (l.setIfInBounds i true)
/-- As wpOrs, with a goal of its own at the end: a stretch of the region in one named order. -/
def wpOrsN (P : Program) (ops : Array Oper) (S : World → Prop) (Q : Exit → Act → World → Prop) (R : Act → World → Prop) : List (Nat × Bool) → Act → World → Prop
  | [], a, w => R a w
  | (i, true) :: r, a, w => ∃ o v, ops[i]? = some o ∧ YieldsIf P ops S o v a ∧ wpOrsN P ops S Q R r (a.put o.dst v) w
  | (i, false) :: r, a, w => wpOp P ops Q i (fun a' w' => S w' ∧ wpOrsN P ops S Q R r a' w') a w
def orsNB (md : Region.Mode) (ops : Array Oper) : List (Nat × Bool) → Array Bool → Bool
  | [], _ => true
  | (i, true) :: r, listed => Region.free md ops listed i && ((Region.ready md ops listed).contains i && orsNB md ops r (listed.setIfInBounds i true))
  | (i, false) :: r, listed => decide (Region.ready md ops listed = [i]) && orsNB md ops r (listed.setIfInBounds i true)
theorem wpAnyH_of_orsN (hs : Region.noSelect ops = true) (hQ : ∀ c a d v w, Q (.panic c) (a.put d v) w → Q (.panic c) a w) (R : Act → World → Prop) (fuel : Nat) :
    ∀ (l : List (Nat × Bool)) (listed : Array Bool) (a : Act) (w : World), orsNB md ops l listed = true → S w → wpOrsN P ops S Q R l a w →
      (∀ a w, S w → R a w → wpAnyH P md ops Q S fuel (listedAfter l listed) a w) → wpAnyH P md ops Q S (fuel + l.length) listed a w
  | [], listed, a, w, _, hS, h, hR => hR a w hS h
  | (i, true) :: r, listed, a, w, hB, hS, h, hR => by
    obtain ⟨o, v, ho, hy, hr⟩ := h
    simp only [orsNB, Bool.and_eq_true] at hB
    exact wpAnyH_take ho hs hB.1 hB.2.1 (fun c a w => hQ c a _ v w) hy hS (wpAnyH_of_orsN hs hQ R fuel r _ _ _ hB.2.2 hS hr hR)
  | (i, false) :: r, listed, a, w, hB, hS, h, hR => by
    simp only [orsNB, Bool.and_eq_true, decide_eq_true_eq] at hB
    refine wpAnyH_all (fuel := fuel + r.length) hB.1 (by simp) (fun j hj => ?_)
    have hj : j = i := by simpa using hj
    subst hj
    exact wpOp_mono (fun a' w' h' => ⟨h'.1, wpAnyH_of_orsN hs hQ R fuel r _ _ _ hB.2 h'.1 h'.2 hR⟩) h
/-- The same with the operations themselves in their places. -/
def wpOrsK (P : Program) (ops : Array Oper) (S : World → Prop) (Q : Exit → Act → World → Prop) (R : Act → World → Prop) : List (Oper × Bool) → Act → World → Prop
  | [], a, w => R a w
  | (o, true) :: r, a, w => ∃ v, YieldsIf P ops S o v a ∧ wpOrsK P ops S Q R r (a.put o.dst v) w
  | (o, false) :: r, a, w => if Region.wanted o (yielded ops a.tmps) then o.wp P a w (fun a' w' => S w' ∧ wpOrsK P ops S Q R r a' w') Q ∨ (o.asks P a w ∧ LetsOut Q) else (S w ∧ wpOrsK P ops S Q R r (a.put o.dst undef) w)
theorem wpOrsN_of_K (R : Act → World → Prop) : ∀ (l : List (Nat × Bool)) (a : Act) (w : World), (l.all fun x => decide (x.1 < ops.size)) = true →
    wpOrsK P ops S Q R (pickOrs ops.toList l) a w → wpOrsN P ops S Q R l a w
  | [], _, _, _, h => h
  | (i, b) :: r, a, w, hl, h => by
    simp only [List.all_cons, Bool.and_eq_true, decide_eq_true_eq] at hl
    have ho : ops.toList[i]? = some ops[i] := by simp [hl.1]
    have ho' : ops[i]? = some ops[i] := by simp [hl.1]
    rw [pickOrs, ho] at h
    cases b with
    | true =>
      obtain ⟨v, hy, hr⟩ := h
      exact ⟨_, v, ho', hy, wpOrsN_of_K R r _ _ hl.2 hr⟩
    | false =>
      show wpOp P ops Q i (fun a' w' => S w' ∧ wpOrsN P ops S Q R r a' w') a w
      have h2 : wpOp P ops Q i (fun a' w' => S w' ∧ wpOrsK P ops S Q R (pickOrs ops.toList r) a' w') a w := by unfold wpOp; rw [ho']; exact h
      exact wpOp_mono (fun a' w' h' => ⟨h'.1, wpOrsN_of_K R r _ _ hl.2 h'.2⟩) h2
theorem orsK_pure {R : Act → World → Prop} {o : Oper} {r : List (Oper × Bool)} {a : Act} {w : World} {v : Value} (hw : Region.wanted o (yielded ops a.tmps) = true)
    (hy : ∀ w', S w' → (execOp a.eval o).run P w' = .ok (.value v) w') (h : wpOrsK P ops S Q R r (a.put o.dst v) w) : wpOrsK P ops S Q R ((o, true) :: r) a w :=
  ⟨v, .inl ⟨hw, hy⟩, h⟩
theorem orsK_step {R : Act → World → Prop} {o : Oper} {r : List (Oper × Bool)} {a : Act} {w : World} (hw : Region.wanted o (yielded ops a.tmps) = true)
    (h : ∀ K : Act → World → Prop, (∀ a w, S w ∧ wpOrsK P ops S Q R r a w → K a w) → o.wp P a w K Q) : wpOrsK P ops S Q R ((o, false) :: r) a w := by
  have := h _ (fun _ _ h => h)
  show if _ then _ else _
  rw [if_pos hw]
  exact .inl this
theorem orsK_nil {R : Act → World → Prop} {a : Act} {w : World} (h : R a w) : wpOrsK P ops S Q R [] a w := h
/-- The beginning: a stretch in one order, then whatever is shown of what is left (by states, or by a further stretch). The region is shown not to panic. -/
theorem wp_region_orsK {lo : List Oper} (S : World → Prop) (R : Act → World → Prop) {id : Nat} {a : Act} {w : World} (l : List (Nat × Bool)) (fuel : Nat) (hm : P.follows .mixedOrders = true) (hs : Region.noSelect lo.toArray = true)
    (hB : (decide (fuel + l.length = lo.toArray.size) && (orsNB .any lo.toArray l (Array.replicate lo.toArray.size false) && l.all fun x => decide (x.1 < lo.toArray.size))) = true)
    (hS : S w.drew) (h : wpOrsK P lo.toArray S (NoPanic Q) R (pickOrs lo l) a w.drew)
    (hR : ∀ a w, S w → R a w → wpAnyH P .any lo.toArray (NoPanic Q) S fuel (listedAfter l (Array.replicate lo.toArray.size false)) a w) : (Code.region id lo.toArray true).wp P Q a w := by
  simp only [Bool.and_eq_true, decide_eq_true_eq] at hB
  refine wp_region_noPanic (wp_region_held_drew hm hS fun hS => ?_)
  have h2 := wpAnyH_of_orsN hs (fun _ _ _ _ _ h => h) R fuel l _ _ _ hB.2.1 hS (wpOrsN_of_K R _ _ _ hB.2.2 h) hR
  rw [hB.1] at h2
  exact h2
/-- A further stretch, from what is listed already. -/
theorem wpAnyH_orsK {lo : List Oper} (R : Act → World → Prop) {a : Act} {w : World} {listed : Array Bool} (l : List (Nat × Bool)) (fuel : Nat) (hs : Region.noSelect lo.toArray = true)
    (hB : (orsNB .any lo.toArray l listed && l.all fun x => decide (x.1 < lo.toArray.size)) = true)
    (hS : S w) (h : wpOrsK P lo.toArray S (NoPanic Q) R (pickOrs lo l) a w)
    (hR : ∀ a w, S w → R a w → wpAnyH P .any lo.toArray (NoPanic Q) S fuel (listedAfter l listed) a w) : wpAnyH P .any lo.toArray (NoPanic Q) S (fuel + l.length) listed a w := by
  simp only [Bool.and_eq_true] at hB
  exact wpAnyH_of_orsN hs (fun _ _ _ _ _ h => h) R fuel l _ _ _ hB.1 hS (wpOrsN_of_K R _ _ _ hB.2 h) hR
end
end Go.Proofs.YtepeloenijlnhaaDoor
