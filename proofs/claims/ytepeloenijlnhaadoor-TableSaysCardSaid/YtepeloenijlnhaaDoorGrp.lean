/- A stretch of a drawn region whose operations may come up in several orders, by state: what each operation leaves in its slot, stable while the world grows, and one proof an operation. No condition. -/
import Derived.Test.YtepeloenijlnhaaDoorStates
import Derived.WalkKit
namespace Go.Proofs.YtepeloenijlnhaaDoor
def updF (f : Nat → Value) (i : Nat) (v : Value) : Nat → Value := fun k => if k = i then v else f k
/-- The slots written, each by its operation. -/
def putAll : Act → List (Nat × Nat) → (Nat → Value) → Act
  | a, [], _ => a
  | a, (s, i) :: r, f => putAll (a.put (some s) (f i)) r f
def slotsB : List (Nat × Nat) → Bool
  | [] => true
  | (s, i) :: r => r.all (fun x => decide (x.1 ≠ s) && decide (x.2 ≠ i)) && slotsB r
theorem put_comm (a : Act) (i j : Nat) (u v : Value) (h : i ≠ j) : (a.put (some i) u).put (some j) v = (a.put (some j) v).put (some i) u := by
  show ({ a with tmps := (a.tmps.setIfInBounds i u).setIfInBounds j v } : Act) = { a with tmps := (a.tmps.setIfInBounds j v).setIfInBounds i u }
  rw [Array.setIfInBounds_comm _ _ h]
theorem put_put (a : Act) (i : Nat) (u v : Value) : (a.put (some i) u).put (some i) v = a.put (some i) v := by
  show ({ a with tmps := (a.tmps.setIfInBounds i u).setIfInBounds i v } : Act) = { a with tmps := a.tmps.setIfInBounds i v }
  rw [Array.setIfInBounds_setIfInBounds]
theorem put_self (a : Act) (i : Nat) : a.put (some i) (a.tmps.getD i undef) = a := by
  have h : a.tmps.setIfInBounds i (a.tmps.getD i undef) = a.tmps := by
    apply Array.ext_getElem?
    intro k
    rw [Array.getElem?_setIfInBounds]
    split
    · rename_i hk
      subst hk
      split
      · rename_i hs; rw [Array.getElem?_eq_getElem hs]; simp
      · rename_i hs; rw [Array.getElem?_eq_none (by omega)]
    · rfl
  show ({ a with tmps := a.tmps.setIfInBounds i (a.tmps.getD i undef) } : Act) = a
  rw [h]
theorem putAll_put (f : Nat → Value) (s : Nat) (v : Value) : ∀ (r : List (Nat × Nat)) (a : Act), (∀ x ∈ r, x.1 ≠ s) → (putAll a r f).put (some s) v = putAll (a.put (some s) v) r f
  | [], _, _ => rfl
  | (s0, i0) :: r, a, h => by
    rw [putAll, putAll, putAll_put f s v r _ (fun x hx => h x (List.mem_cons_of_mem _ hx)), put_comm a s0 s _ _ (h _ List.mem_cons_self)]
theorem putAll_other (f : Nat → Value) (i : Nat) (v : Value) : ∀ (r : List (Nat × Nat)) (a : Act), (∀ x ∈ r, x.2 ≠ i) → putAll a r (updF f i v) = putAll a r f
  | [], _, _ => rfl
  | (s0, i0) :: r, a, h => by
    rw [putAll, putAll, putAll_other f i v r _ (fun x hx => h x (List.mem_cons_of_mem _ hx))]
    have : updF f i v i0 = f i0 := by unfold updF; rw [if_neg (h _ List.mem_cons_self)]
    rw [this]
theorem putAll_upd (f : Nat → Value) (s i : Nat) (v : Value) : ∀ (r : List (Nat × Nat)) (a : Act), slotsB r = true → (s, i) ∈ r → (putAll a r f).put (some s) v = putAll a r (updF f i v)
  | [], _, _, h => absurd h (by simp)
  | (s0, i0) :: r, a, hB, h => by
    simp only [slotsB, Bool.and_eq_true, List.all_eq_true, decide_eq_true_eq] at hB
    rcases List.mem_cons.1 h with h1 | h1
    · injection h1 with h2 h3
      subst h2 h3
      rw [putAll, putAll, putAll_put f s v r _ (fun x hx => (hB.1 x hx).1), put_put, putAll_other f i v r _ (fun x hx => (hB.1 x hx).2)]
      have : updF f i v i = v := by unfold updF; rw [if_pos rfl]
      rw [this]
    · have hne := (hB.1 _ h1).2
      have : updF f i v i0 = f i0 := by unfold updF; rw [if_neg (fun e => hne e.symm)]
      rw [putAll, putAll, putAll_upd f s i v r _ hB.2 h1, this]
theorem putAll_start : ∀ (r : List (Nat × Nat)) (a : Act), slotsB r = true → ∃ f, putAll a r f = a
  | [], _, _ => ⟨fun _ => undef, rfl⟩
  | (s, i) :: r, a, hB => by
    simp only [slotsB, Bool.and_eq_true, List.all_eq_true, decide_eq_true_eq] at hB
    obtain ⟨f, hf⟩ := putAll_start r a hB.2
    refine ⟨updF f i (a.tmps.getD s undef), ?_⟩
    have : updF f i (a.tmps.getD s undef) i = a.tmps.getD s undef := by unfold updF; rw [if_pos rfl]
    rw [putAll, this, put_self, putAll_other f i _ r _ (fun x hx => (hB.1 x hx).2), hf]
section
variable {P : Program} {lo : List Oper} {Q : Exit → Act → World → Prop} {S : World → Prop}
theorem wpOp_step {i : Nat} {a : Act} {w : World} {o : Oper} {K : Act → World → Prop} (ho : lo[i]? = some o) (hw : Region.wanted o (yielded lo.toArray a.tmps) = true)
    (h : ∀ K' : Act → World → Prop, (∀ a w, K a w → K' a w) → o.wp P a w K' Q) : wpOp P lo.toArray Q i K a w := by
  have hx := h _ (fun _ _ h => h)
  unfold wpOp
  rw [show lo.toArray[i]? = some o by simpa using ho]
  show if _ then _ else _
  rw [if_pos hw]
  exact .inl hx
theorem phi_step {Phi : Nat → Value → World → Prop} {E : World → World → Prop} (hE : ∀ i v w w', Phi i v w → E w w' → Phi i v w') {l : Array Bool} {f : Nat → Value} {w w' : World}
    (hf : ∀ i, l.getD i false = true → Phi i (f i) w) (he : E w w') (j : Nat) (v : Value) (hv : Phi j v w') : ∀ i, (l.setIfInBounds j true).getD i false = true → Phi i (updF f j v i) w' := by
  intro i hi
  unfold updF
  by_cases hij : i = j
  · subst hij; rw [if_pos rfl]; exact hv
  · rw [if_neg hij]
    refine hE _ _ _ _ (hf i ?_) he
    rw [Array.getD_eq_getD_getElem?, Array.getElem?_setIfInBounds_ne (Ne.symm hij)] at hi
    rwa [Array.getD_eq_getD_getElem?]
/-- One operation of the stretch: what it must leave. -/
def OpGoes (P : Program) (lo : List Oper) (Q : Exit → Act → World → Prop) (S : World → Prop) (Phi : Nat → Value → World → Prop) (E : World → World → Prop) (slots : List (Nat × Nat)) (a0 : Act) (f : Nat → Value) (w : World) (j : Nat) : Prop :=
  ∃ o s, lo[j]? = some o ∧ o.dst = some s ∧ (s, j) ∈ slots ∧ Region.wanted o (yielded lo.toArray (putAll a0 slots f).tmps) = true ∧
    ∀ K : Act → World → Prop, (∀ v w', S w' → E w w' → Phi j v w' → K ((putAll a0 slots f).put (some s) v) w') → o.wp P (putAll a0 slots f) w K Q
def listN (l0 : Array Bool) (d : List Nat) : Array Bool := d.foldl (fun l i => l.setIfInBounds i true) l0
theorem wpAnyH_group (slots : List (Nat × Nat)) (C : Nat → Array Bool → Bool) (Phi : Nat → Value → World → Prop) (E : World → World → Prop) (l0 : Array Bool) (fuel : Nat) (levs : List (List (List Nat))) (done : List Nat) {a0 : Act} {w : World}
    (hE : ∀ i v w w', Phi i v w → E w w' → Phi i v w') (hB : slotsB slots = true) (h0 : ∀ i v w, (slots.all fun x => decide (x.2 ≠ i)) = true → Phi i v w)
    (hl : (slots.all fun x => !l0.getD x.2 false) = true) (hS : S w)
    (hlev : levelsB .any lo.toArray C ([l0] :: (levs.map fun L => L.map (listN l0)) ++ [[listN l0 done]]) = true)
    (hop : ∀ (l : Array Bool) (f : Nat → Value) (w : World) (j : Nat), C j l = true → S w → (∀ i, l.getD i false = true → Phi i (f i) w) → OpGoes P lo Q S Phi E slots a0 f w j)
    (hend : ∀ (f : Nat → Value) (w : World), S w → (∀ i, (listN l0 done).getD i false = true → Phi i (f i) w) → wpAnyH P .any lo.toArray Q S fuel (listN l0 done) (putAll a0 slots f) w) :
    wpAnyH P .any lo.toArray Q S (fuel + (levs.length + 1)) l0 a0 w := by
  obtain ⟨f0, hf0⟩ := putAll_start slots a0 hB
  have hx := wpAnyH_states (P := P) (md := .any) (ops := lo.toArray) (Q := Q) (S := S) C (fun l a w => ∃ f, a = putAll a0 slots f ∧ S w ∧ ∀ i, l.getD i false = true → Phi i (f i) w) fuel [listN l0 done]
    (fun l a w j hC hJ => by
      obtain ⟨f, rfl, hSw, hf⟩ := hJ
      obtain ⟨o, s, ho, hd, hm, hw, hgo⟩ := hop l f w j hC hSw hf
      refine wpOp_step ho hw (fun K' hK' => hgo K' (fun v w' hS' he hv => hK' _ _ ⟨hS', updF f j v, putAll_upd f s j v slots a0 hB hm, hS', phi_step hE hf he j v hv⟩)))
    (fun l hl a w hJ => by
      obtain rfl : l = listN l0 done := by simpa using hl
      obtain ⟨f, rfl, hSw, hf⟩ := hJ
      exact hend f w hSw hf)
    (levs.map fun L => L.map (listN l0)) [l0] hlev l0 (by simp) a0 w
    ⟨f0, hf0.symm, hS, fun i hi => h0 i _ _ (by
      rw [List.all_eq_true] at hl ⊢
      intro x hx
      have := hl x hx
      rw [decide_eq_true_eq]
      intro e
      rw [e, hi] at this
      cases this)⟩
  rw [List.length_map] at hx
  exact hx
end
end Go.Proofs.YtepeloenijlnhaaDoor
