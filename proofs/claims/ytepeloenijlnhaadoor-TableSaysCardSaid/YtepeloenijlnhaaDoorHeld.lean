/- A region that draws its order, walked step by step under a condition S on the memory: an operation that yields the same in every world that meets S may be taken first; else whichever may come up is carried out, and S shown anew. No condition. -/
import Derived.Deep.RegionHeld3
namespace Go.Proofs.YtepeloenijlnhaaDoor
section
variable {P : Program} {lo : List Oper} {Q : Exit → Act → World → Prop} {S : World → Prop}
theorem held_start {id : Nat} {a : Act} {w : World} (S : World → Prop) (hm : P.follows .mixedOrders = true) (hS : S w.drew)
    (h : wpAnyH P .any lo.toArray (NoPanic Q) S lo.toArray.size (Array.replicate lo.toArray.size false) a w.drew) : (Code.region id lo.toArray true).wp P Q a w :=
  wp_region_noPanic (wp_region_held_drew hm hS fun _ => h)
theorem held_take (i : Nat) {fuel : Nat} {listed : Array Bool} {a : Act} {w : World} {o : Oper} {v : Value} (ho : lo[i]? = some o)
    (hc : (Region.noSelect lo.toArray && (Region.free .any lo.toArray listed i && (Region.ready .any lo.toArray listed).contains i)) = true) (hw : Region.wanted o (yielded lo.toArray a.tmps) = true) (hS : S w)
    (hy : ∀ w', S w' → (execOp a.eval o).run P w' = .ok (.value v) w')
    (h : wpAnyH P .any lo.toArray (NoPanic Q) S fuel (listed.setIfInBounds i true) (a.put o.dst v) w) : wpAnyH P .any lo.toArray (NoPanic Q) S (fuel + 1) listed a w := by
  simp only [Bool.and_eq_true] at hc
  exact wpAnyH_take (i := i) (oi := o) (v := v) (by simpa using ho) hc.1 hc.2.1 hc.2.2 (fun _ _ _ h => h) (.inl ⟨hw, hy⟩) hS h
theorem held_step {i : Nat} {fuel : Nat} {listed : Array Bool} {a : Act} {w : World} {o : Oper} (ho : lo[i]? = some o) (hw : Region.wanted o (yielded lo.toArray a.tmps) = true)
    (h : ∀ K : Act → World → Prop, (∀ a w, (S w ∧ wpAnyH P .any lo.toArray (NoPanic Q) S fuel (listed.setIfInBounds i true) a w) → K a w) → o.wp P a w K (NoPanic Q)) :
    wpOp P lo.toArray (NoPanic Q) i (fun a' w' => S w' ∧ wpAnyH P .any lo.toArray (NoPanic Q) S fuel (listed.setIfInBounds i true) a' w') a w := by
  have hx := h _ (fun _ _ h => h)
  unfold wpOp
  rw [show lo.toArray[i]? = some o by simpa using ho]
  show if _ then _ else _
  rw [if_pos hw]
  exact .inl hx
theorem held_one (i : Nat) {fuel : Nat} {listed : Array Bool} {a : Act} {w : World} {o : Oper} (ho : lo[i]? = some o) (hr : Region.ready .any lo.toArray listed = [i]) (hw : Region.wanted o (yielded lo.toArray a.tmps) = true)
    (h : ∀ K : Act → World → Prop, (∀ a w, (S w ∧ wpAnyH P .any lo.toArray (NoPanic Q) S fuel (listed.setIfInBounds i true) a w) → K a w) → o.wp P a w K (NoPanic Q)) :
    wpAnyH P .any lo.toArray (NoPanic Q) S (fuel + 1) listed a w := by
  refine wpAnyH_all hr (by simp) (fun j hj => ?_)
  have hj : j = i := by simpa using hj
  subst hj
  exact held_step ho hw h
theorem held_two (i j : Nat) {fuel : Nat} {listed : Array Bool} {a : Act} {w : World} {o o' : Oper} (ho : lo[i]? = some o) (ho' : lo[j]? = some o') (hr : Region.ready .any lo.toArray listed = [i, j])
    (hw : Region.wanted o (yielded lo.toArray a.tmps) = true) (hw' : Region.wanted o' (yielded lo.toArray a.tmps) = true)
    (h : ∀ K : Act → World → Prop, (∀ a w, (S w ∧ wpAnyH P .any lo.toArray (NoPanic Q) S fuel (listed.setIfInBounds i true) a w) → K a w) → o.wp P a w K (NoPanic Q))
    (h' : ∀ K : Act → World → Prop, (∀ a w, (S w ∧ wpAnyH P .any lo.toArray (NoPanic Q) S fuel (listed.setIfInBounds j true) a w) → K a w) → o'.wp P a w K (NoPanic Q)) :
    wpAnyH P .any lo.toArray (NoPanic Q) S (fuel + 1) listed a w := by
  refine wpAnyH_all hr (by simp) (fun k hk => ?_)
  simp only [List.mem_cons, List.mem_nil_iff, or_false] at hk
  rcases hk with rfl | rfl
  · exact held_step ho hw h
  · exact held_step ho' hw' h'
theorem held_three (i j k : Nat) {fuel : Nat} {listed : Array Bool} {a : Act} {w : World} {o o' o'' : Oper} (ho : lo[i]? = some o) (ho' : lo[j]? = some o') (ho'' : lo[k]? = some o'') (hr : Region.ready .any lo.toArray listed = [i, j, k])
    (hw : Region.wanted o (yielded lo.toArray a.tmps) = true) (hw' : Region.wanted o' (yielded lo.toArray a.tmps) = true) (hw'' : Region.wanted o'' (yielded lo.toArray a.tmps) = true)
    (h : ∀ K : Act → World → Prop, (∀ a w, (S w ∧ wpAnyH P .any lo.toArray (NoPanic Q) S fuel (listed.setIfInBounds i true) a w) → K a w) → o.wp P a w K (NoPanic Q))
    (h' : ∀ K : Act → World → Prop, (∀ a w, (S w ∧ wpAnyH P .any lo.toArray (NoPanic Q) S fuel (listed.setIfInBounds j true) a w) → K a w) → o'.wp P a w K (NoPanic Q))
    (h'' : ∀ K : Act → World → Prop, (∀ a w, (S w ∧ wpAnyH P .any lo.toArray (NoPanic Q) S fuel (listed.setIfInBounds k true) a w) → K a w) → o''.wp P a w K (NoPanic Q)) :
    wpAnyH P .any lo.toArray (NoPanic Q) S (fuel + 1) listed a w := by
  refine wpAnyH_all hr (by simp) (fun l hl => ?_)
  simp only [List.mem_cons, List.mem_nil_iff, or_false] at hl
  rcases hl with rfl | rfl | rfl
  · exact held_step ho hw h
  · exact held_step ho' hw' h'
  · exact held_step ho'' hw'' h''
theorem held_done {fuel : Nat} {listed : Array Bool} {a : Act} {w : World} (hr : Region.ready .any lo.toArray listed = []) (h : Q .normal a w) : wpAnyH P .any lo.toArray (NoPanic Q) S fuel listed a w :=
  wpAnyH_done hr (show NoPanic Q .normal a w from h) fuel
end
end Go.Proofs.YtepeloenijlnhaaDoor
