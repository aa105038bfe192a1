/- A stretch of a drawn region whose operations may come up in several orders, by state: what each operation leaves in its slot, stable while the world grows, and one proof an operation. No condition. -/
import Derived.Test.YtnkcehmgagpadaaDoorStates
import Derived.WalkKit
namespace Go.Proofs.YtnkcehmgagpadaaDoor
def updF (f : Nat → Value) (i : Nat) (v : Value) : Nat → Value := fun k => if k = i then v else f k
/-- The slots written, each by its operation. -/
def putAll : Act → List (Nat × Nat) → (Nat → Value) → Act
  | a, [], _ => a
  | a, (s, i) :: r, f => putAll (a.put (some s) (f i)) r f
def slotsB : List (Nat × Nat) → Bool
  | [] => true
  | (s, i) :: r => r.all (fun x => decide (x.1 ≠ s) && decide (x.2 ≠ i)) && slotsB r
theorem put_comm (a : Act) (i j : Nat) (u v : Value) (h : i ≠ j) : (a.put (some i) u).put (some j) v = (a.put (some j) v).put (some i) u := by
  show ({ a with tmps := (a.tmps.setIfInBounds i u).setIfInBounds j v } : Act) = { a with tmps := (a.tmps.setIfInBounds j v).setIfInBounds i u }
  rw [Array.setIfInBounds_comm _ _ h]
theorem put_put (a : Act) (i : Nat) (u v : Value) : (a.put (some i) u).put (some i) v = a.put (some i) v := by
  show ({ a with tmps := (a.tmps.setIfInBounds i u).setIfInBounds i v } : Act) = { a with tmps := a.tmps.setIfInBounds i v }
  rw [Array.setIfInBounds_setIfInBounds]
theorem put_self (a : Act) (i : Nat) : a.put (some i) (a.tmps.getD i undef) = a := by
  have h : a.tmps.setIfInBounds i (a.tmps.getD i undef) = a.tmps := by
    apply Array.ext_getElem?
    intro k
    rw [Array.getElem?_setIfInBounds]
    split
    · rename_i hk
      subst hk
      split
      · rename_i hs; rw [Array.getElem?_eq_getElem hs]; simp
      · rename_i hs; rw [Array.getElem?_eq_none (by omega)]
    · rfl
  show ({ a with tmps := a.tmps.setIfInBounds i (a.tmps.getD i undef) } : Act) = a
  rw [h]
theorem putAll_put (f : Nat → Value) (s : Nat) (v : Value) : ∀ (r : List (Nat × Nat)) (a : Act), (∀ x ∈ r, x.1 ≠ s) → (putAll a r f).put (some s) v = putAll (a.put (some s) v) r f
  | [], _, _ => rfl
  | (s0, i0) :: r, a, h => by
    rw [putAll, putAll, putAll_put f s v r _ (fun x hx => h x (List.mem_cons_of_mem _ hx)), put_comm a s0 s _ _ (h _ List.mem_cons_self)]
theorem putAll_other (f : Nat → Value) (i : Nat) (v : Value) : ∀ (r : List (Nat × Nat)) (a : Act), (∀ x ∈ r, x.2 ≠ i) → putAll a r (updF f i v) = putAll a r f
  | [], _, _ => rfl
  | (s0, i0) :: r, a, h => by
    rw [putAll, putAll, putAll_other f i v r _ (fun x hx => h x (List.mem_cons_of_mem _ hx))]
    have : updF f i v i0 = f i0 := by unfold updF; rw [if_neg (h _ List.mem_cons_self)]
    rw [this]
theorem putAll_upd (f : Nat → Value) (s i : Nat) (v : Value) : ∀ (r : List (Nat × Nat)) (a : Act), slotsB r = true → (s, i) ∈ r → (putAll a r f).put (some s) v = putAll a r (updF f i v)
  | [], _, _, h => absurd h (by simp)
  | (s0, i0) :: r, a, hB, h => by
    simp only [slotsB, Bool.and_eq_true, List.all_eq_true, decide_eq_true_eq] at hB
    rcases List.mem_cons.1 h with h1 | h1
    · injection h1 with h2 h3
      subst h2 h3
      rw [putAll, putAll, putAll_put f s v r _ (fun x hx => (hB.1 x hx).1), put_put, putAll_other f i v r _ (fun x hx => (hB.1 x hx).2)]
      have : updF f i v i = v := by unfold updF; rw [if_pos rfl]
      rw [this]
    · have hne := (hB.1 _ h1).2
      have : updF f i v i0 = f i0 := by unfold updF; rw [if_neg (fun e => hne e.symm)]
      rw [putAll, putAll, putAll_upd f s i v r _ hB.2 h1, this]
theorem putAll_start : ∀ (r : List (Nat × Nat)) (a : Act), slotsB r = true → ∃ f, putAll a r f = a
  | [], _, _ => ⟨fun _ => undef, rfl⟩
  | (s, i) :: r, a, hB => by
    simp only [slotsB, Bool.and_eq_true, List.all_eq_true, decide_eq_true_eq] at hB
    obtain ⟨f, hf⟩ := putAll_start r a hB.2
    refine ⟨updF f i (a.tmps.getD s undef), ?_⟩
    have : updF f i (a.tmps.getD s undef) i = a.tmps.getD s undef := by unfold updF; rw [if_pos rfl]
    rw [putAll, this, put_self, putAll_other f i _ r _ (fun x hx => (hB.1 x hx).2), hf]
section
variable {P : Program} {lo : List Oper} {Q : Exit → Act → World → Prop} {S : World → Prop}
theorem wpOp_step {i : Nat} {a : Act} {w : World} {o : Oper} {K : Act → World → Prop} (ho : lo[i]? = some o) (hw : Region.wanted o (yielded lo.toArray a.tmps) = true)
    (h : ∀ K' : Act → World → Prop, (∀ a w, K a w → K' a w) → o.wp P a w K' Q) : wpOp P lo.toArray Q i K a w := by
  have hx := h _ (fun _ _ h => h)
  unfold wpOp
  rw [show lo.toArray[i]? = some o by simpa using ho]
  show if _ then _ else _
  rw [if_pos hw]
  exact .inl hx
end
end Go.Proofs.YtnkcehmgagpadaaDoor
