/- A drawn region walked by what its operations wait for: each operation leaves a fact about its own value that lasts while memory grows; whatever order is drawn, an operation finds the facts of all that it waits for. No order and no state is listed: one proof an operation. No condition. -/
import Derived.Test.YtepeloenijlnhaaDoorGrp
import Derived.Test.YtepeloenijlnhaaDoorOrg
namespace Go.Proofs.YtepeloenijlnhaaDoor
open Go.RowKit
/-- What an operation waits for stands ahead of it. -/
def aheadB (md : Region.Mode) (ops : Array Oper) : Bool :=
  (List.range ops.size).all fun i => ((ops[i]?).map fun o => o.after.all fun e => !Region.binds md e || decide (e.on < i)).getD true
/-- It does wait for these. -/
def needB (md : Region.Mode) (ops : Array Oper) (D : Nat → List Nat) : Bool :=
  (List.range ops.size).all fun i => ((ops[i]?).map fun o => (D i).all fun j => o.after.any fun e => Region.binds md e && e.on == j).getD true
theorem ready_iff {md : Region.Mode} {ops : Array Oper} {listed : Array Bool} {i : Nat} : i ∈ Region.ready md ops listed ↔ i < ops.size ∧ listed.getD i true = false ∧ ∀ o, ops[i]? = some o → ∀ e ∈ o.after, Region.binds md e = true → listed.getD e.on false = true := by
  unfold Region.ready
  rw [List.mem_filter, List.mem_range]
  constructor
  · rintro ⟨hi, h⟩
    rw [Bool.and_eq_true] at h
    refine ⟨hi, by simpa using h.1, fun o ho e he hb => ?_⟩
    have h2 := h.2
    rw [ho] at h2
    simp only [Option.map_some, Option.getD_some, Array.all_eq_true_iff_forall_mem] at h2
    have := h2 e he
    rw [hb] at this
    simpa using this
  · rintro ⟨hi, h1, h2⟩
    refine ⟨hi, ?_⟩
    rw [Bool.and_eq_true]
    refine ⟨by rw [h1]; rfl, ?_⟩
    have ho : ops[i]? = some ops[i] := Array.getElem?_eq_getElem hi
    rw [ho]
    simp only [Option.map_some, Option.getD_some, Array.all_eq_true_iff_forall_mem]
    intro e he
    cases hb : Region.binds md e with
    | false => rfl
    | true => simpa using h2 _ ho e he hb
/-- Where nothing may come up any more, all has come up. -/
theorem all_listed {md : Region.Mode} {ops : Array Oper} {listed : Array Bool} (hA : aheadB md ops = true) (hs : listed.size = ops.size) (hr : Region.ready md ops listed = []) : ∀ n i, i < n → i < ops.size → listed.getD i true = true
  | 0, i, h, _ => absurd h (by omega)
  | n + 1, i, h, hi => by
    cases hl : listed.getD i true with
    | true => rfl
    | false =>
      have hm : i ∈ Region.ready md ops listed := ready_iff.2 ⟨hi, hl, fun o ho e he hb => by
        unfold aheadB at hA
        rw [List.all_eq_true] at hA
        have h1 := hA i (List.mem_range.2 hi)
        rw [ho] at h1
        simp only [Option.map_some, Option.getD_some, Array.all_eq_true_iff_forall_mem] at h1
        have h2 := h1 e he
        rw [hb] at h2
        have h3 : e.on < i := by simpa using h2
        have h4 := all_listed (by unfold aheadB; rw [List.all_eq_true]; exact hA) hs hr n e.on (by omega) (by omega)
        rw [Array.getD_eq_getD_getElem?, Array.getElem?_eq_getElem (by omega)] at h4 ⊢
        exact h4⟩
      rw [hr] at hm
      cases hm
/-- The slots that the operations write, each with its operation. -/
def slotsOf (q : Array Oper) : List (Nat × Nat) := (List.range q.size).filterMap fun i => (q[i]?.bind fun o => o.dst).map fun s => (s, i)
section
variable {P : Program} {lo : List Oper} {Q : Exit → Act → World → Prop} {S : World → Prop}
/-- One operation: what it leaves. -/
def FlowOp (P : Program) (lo : List Oper) (Q : Exit → Act → World → Prop) (S : World → Prop) (Phi : Nat → Value → World → Prop) (E : World → World → Prop) (A : Act) (w : World) (j : Nat) : Prop :=
  ∃ o, lo[j]? = some o ∧ Region.wanted o (yielded lo.toArray A.tmps) = true ∧
    ∀ K : Act → World → Prop, (∀ v w', S w' → E w w' → Phi j v w' → K (A.put o.dst v) w') → o.wp P A w K Q
theorem put_flow {slots : List (Nat × Nat)} (hB : slotsB slots = true) (hSl : slotsOf lo.toArray = slots) {o : Oper} {j : Nat} (ho : lo[j]? = some o) (a0 : Act) (f : Nat → Value) (v : Value) :
    (putAll a0 slots f).put o.dst v = putAll a0 slots (updF f j v) := by
  have hj : j < lo.length := by
    rcases Nat.lt_or_ge j lo.length with h | h
    · exact h
    · rw [List.getElem?_eq_none h] at ho; cases ho
  have ho' : lo.toArray[j]? = some o := by simpa using ho
  cases hd : o.dst with
  | none =>
    rw [putAll_other f j v slots a0 (fun x hx hxj => by
      rw [← hSl] at hx
      unfold slotsOf at hx
      rw [List.mem_filterMap] at hx
      obtain ⟨i, hi, hxi⟩ := hx
      cases hq : (lo.toArray[i]?.bind fun o => o.dst) with
      | none => rw [hq] at hxi; cases hxi
      | some s =>
        rw [hq] at hxi
        injection hxi with hxi
        subst hxi
        obtain rfl : i = j := hxj
        rw [ho'] at hq
        rw [show (some o).bind (fun o : Oper => o.dst) = o.dst from rfl, hd] at hq
        cases hq)]
    rfl
  | some s =>
    refine putAll_upd f s j v slots a0 hB ?_
    rw [← hSl]
    unfold slotsOf
    rw [List.mem_filterMap]
    refine ⟨j, List.mem_range.2 (by simpa using hj), ?_⟩
    rw [ho', show (some o).bind (fun o : Oper => o.dst) = o.dst from rfl, hd]
    rfl
theorem wpAnyH_flow (slots : List (Nat × Nat)) (D : Nat → List Nat) (Phi : Nat → Value → World → Prop) (E : World → World → Prop) (a0 : Act)
    (hE : ∀ i v w w', Phi i v w → E w w' → Phi i v w') (hB : slotsB slots = true) (hSl : slotsOf lo.toArray = slots) (hA : aheadB .any lo.toArray = true) (hN : needB .any lo.toArray D = true)
    (hop : ∀ (f : Nat → Value) (w : World) (j : Nat), j < lo.length → S w → (∀ d ∈ D j, Phi d (f d) w) → FlowOp P lo Q S Phi E (putAll a0 slots f) w j)
    (hend : ∀ (f : Nat → Value) (w : World), S w → (∀ i, i < lo.length → Phi i (f i) w) → Q .normal (putAll a0 slots f) w) :
    ∀ (fuel : Nat) (l : Array Bool) (f : Nat → Value) (w : World), l.size = lo.toArray.size → l.count false ≤ fuel → S w → (∀ i, l.getD i false = true → Phi i (f i) w) →
      wpAnyH P .any lo.toArray Q S fuel l (putAll a0 slots f) w := by
  have fin : ∀ (l : Array Bool) (f : Nat → Value) (w : World), l.size = lo.toArray.size → S w → (∀ i, l.getD i false = true → Phi i (f i) w) → Region.ready .any lo.toArray l = [] → Q .normal (putAll a0 slots f) w := by
    intro l f w hs hS hf hr
    refine hend f w hS fun i hi => hf i ?_
    have hi' : i < lo.toArray.size := by simpa using hi
    have h := all_listed hA hs hr (i + 1) i (by omega) hi'
    rw [Array.getD_eq_getD_getElem?, Array.getElem?_eq_getElem (by omega)] at h ⊢
    exact h
  have getI : ∀ (l : Array Bool) (i : Nat), l.getD i true = false → ∃ h : i < l.size, l[i] = false := by
    intro l i h
    rw [Array.getD_eq_getD_getElem?] at h
    rcases Nat.lt_or_ge i l.size with h' | h'
    · rw [Array.getElem?_eq_getElem h'] at h
      exact ⟨h', h⟩
    · rw [Array.getElem?_eq_none h'] at h
      cases h
  intro fuel
  induction fuel with
  | zero =>
    intro l f w hs hc hS hf
    have hr : Region.ready .any lo.toArray l = [] := by
      refine List.eq_nil_iff_forall_not_mem.2 fun i hi => ?_
      obtain ⟨_, h1, _⟩ := ready_iff.1 hi
      obtain ⟨hl, he⟩ := getI l i h1
      have : 0 < l.count false := Array.count_pos_iff.2 (by rw [← he]; exact Array.getElem_mem hl)
      omega
    exact ⟨hr, fin l f w hs hS hf hr⟩
  | succ fuel ih =>
    intro l f w hs hc hS hf
    refine ⟨fin l f w hs hS hf, fun j hj => ?_⟩
    obtain ⟨hjs, h1, hall⟩ := ready_iff.1 hj
    have hjl : j < lo.length := by simpa using hjs
    have hD : ∀ d ∈ D j, Phi d (f d) w := by
      intro d hd
      refine hf d ?_
      have hN1 := hN
      unfold needB at hN1
      rw [List.all_eq_true] at hN1
      have h2 := hN1 j (List.mem_range.2 hjs)
      have ho : lo.toArray[j]? = some lo.toArray[j] := Array.getElem?_eq_getElem hjs
      rw [ho, Option.map_some, Option.getD_some, List.all_eq_true] at h2
      have h3 := h2 d hd
      rw [Array.any_eq_true'] at h3
      obtain ⟨e, he, hb⟩ := h3
      rw [Bool.and_eq_true] at hb
      have h4 := hall _ ho e he hb.1
      have h5 : e.on = d := by simpa using hb.2
      rwa [h5] at h4
    obtain ⟨o, ho, hw, hgo⟩ := hop f w j hjl hS hD
    obtain ⟨hl, he⟩ := getI l j h1
    refine wpOp_step ho hw fun K' hK' => hgo K' fun v w' hS' hEw hv => hK' _ _ ⟨hS', ?_⟩
    rw [put_flow hB hSl ho]
    refine ih _ _ _ (by rw [Array.size_setIfInBounds]; exact hs) ?_ hS' (phi_step hE hf hEw j v hv)
    have hcnt : (l.setIfInBounds j true).count false = l.count false - 1 := by
      rw [Array.setIfInBounds_def, dif_pos hl, Array.count_set hl, he]
      rfl
    omega
/-- The same with one operation that waits for all others: it comes last, and may change what they left. -/
theorem wpAnyH_flowL (slots : List (Nat × Nat)) (D : Nat → List Nat) (Phi : Nat → Value → World → Prop) (E : World → World → Prop) (a0 : Act) (n : Nat) (hn : lo.length = n + 1) (hDn : ∀ i, i < n → i ∈ D n)
    (hE : ∀ i v w w', Phi i v w → E w w' → Phi i v w') (hB : slotsB slots = true) (hSl : slotsOf lo.toArray = slots) (hA : aheadB .any lo.toArray = true) (hN : needB .any lo.toArray D = true)
    (hop : ∀ (j : Nat), j < n → ∀ (f : Nat → Value) (w : World), S w → (∀ d ∈ D j, Phi d (f d) w) → FlowOp P lo Q S Phi E (putAll a0 slots f) w j)
    (hend : ∀ (f : Nat → Value) (w : World), S w → (∀ i, i < n → Phi i (f i) w) → wpOp P lo.toArray Q n (fun a' w' => S w' ∧ Q .normal a' w') (putAll a0 slots f) w) :
    ∀ (fuel : Nat) (l : Array Bool) (f : Nat → Value) (w : World), l.size = lo.toArray.size → l.getD n true = false → l.count false ≤ fuel → S w → (∀ i, l.getD i false = true → Phi i (f i) w) →
      wpAnyH P .any lo.toArray Q S fuel l (putAll a0 slots f) w := by
  have getI : ∀ (l : Array Bool) (i : Nat), l.getD i true = false → ∃ h : i < l.size, l[i] = false := by
    intro l i h
    rw [Array.getD_eq_getD_getElem?] at h
    rcases Nat.lt_or_ge i l.size with h' | h'
    · rw [Array.getElem?_eq_getElem h'] at h
      exact ⟨h', h⟩
    · rw [Array.getElem?_eq_none h'] at h
      cases h
  have fin : ∀ (l : Array Bool), l.size = lo.toArray.size → l.getD n true = false → Region.ready .any lo.toArray l ≠ [] := by
    intro l hs hln hr
    have h := all_listed hA hs hr (n + 1) n (by omega) (by simp; omega)
    rw [h] at hln
    cases hln
  intro fuel
  induction fuel with
  | zero =>
    intro l f w hs hln hc hS hf
    obtain ⟨hl, he⟩ := getI l n hln
    have : 0 < l.count false := Array.count_pos_iff.2 (by rw [← he]; exact Array.getElem_mem hl)
    omega
  | succ fuel ih =>
    intro l f w hs hln hc hS hf
    refine ⟨fun hr => absurd hr (fin l hs hln), fun j hj => ?_⟩
    obtain ⟨hjs, h1, hall⟩ := ready_iff.1 hj
    have hjl : j < lo.length := by simpa using hjs
    have hDl : ∀ d ∈ D j, l.getD d false = true := by
      intro d hd
      have hN1 := hN
      unfold needB at hN1
      rw [List.all_eq_true] at hN1
      have h2 := hN1 j (List.mem_range.2 hjs)
      have ho : lo.toArray[j]? = some lo.toArray[j] := Array.getElem?_eq_getElem hjs
      rw [ho, Option.map_some, Option.getD_some, List.all_eq_true] at h2
      have h3 := h2 d hd
      rw [Array.any_eq_true'] at h3
      obtain ⟨e, he, hb⟩ := h3
      rw [Bool.and_eq_true] at hb
      have h4 := hall _ ho e he hb.1
      have h5 : e.on = d := by simpa using hb.2
      rwa [h5] at h4
    by_cases hjn : j = n
    · subst hjn
      refine wpOp_mono (fun a' w' h' => ⟨h'.1, wpAnyH_done ?_ h'.2 fuel⟩) (hend f w hS fun i hi => hf i (hDl i (hDn i hi)))
      refine List.eq_nil_iff_forall_not_mem.2 fun i hi => ?_
      obtain ⟨his, hi1, _⟩ := ready_iff.1 hi
      have his' : i < j + 1 := by rw [← hn]; simpa using his
      obtain ⟨hl', he'⟩ := getI _ i hi1
      by_cases hij : i = j
      · subst hij
        simp at he'
      · have h6 := hDl i (hDn i (by omega))
        have hil : i < l.size := by simpa using hl'
        rw [Array.getElem_setIfInBounds (by simpa using hl'), if_neg (Ne.symm hij)] at he'
        rw [Array.getD_eq_getD_getElem?, Array.getElem?_eq_getElem hil] at h6
        rw [Option.getD_some, he'] at h6
        cases h6
    · obtain ⟨o, ho, hw, hgo⟩ := hop j (by omega) f w hS (fun d hd => hf d (hDl d hd))
      obtain ⟨hl, he⟩ := getI l j h1
      refine wpOp_step ho hw fun K' hK' => hgo K' fun v w' hS' hEw hv => hK' _ _ ⟨hS', ?_⟩
      rw [put_flow hB hSl ho]
      refine ih _ _ _ (by rw [Array.size_setIfInBounds]; exact hs) ?_ ?_ hS' (phi_step hE hf hEw j v hv)
      · rw [Array.getD_eq_getD_getElem?, Array.getElem?_setIfInBounds_ne hjn, ← Array.getD_eq_getD_getElem?]
        exact hln
      · have hcnt : (l.setIfInBounds j true).count false = l.count false - 1 := by
          rw [Array.setIfInBounds_def, dif_pos hl, Array.count_set hl, he]
          rfl
        omega
theorem lt_0 {p : Nat → Prop} : ∀ j, j < 0 → p j := fun _ h => absurd h (by omega)
theorem lt_s {p : Nat → Prop} {n : Nat} (h : ∀ j, j < n → p j) (h' : p n) : ∀ j, j < n + 1 → p j := fun j hj => by
  rcases Nat.lt_or_ge j n with h1 | h1
  · exact h j h1
  · obtain rfl : j = n := by omega
    exact h'
/-- The checks of a flow, for a theorem of its own. -/
def flowB (slots : List (Nat × Nat)) (D : Nat → List Nat) (q : Array Oper) : Bool :=
  slotsB slots && (decide (slotsOf q = slots) && (aheadB .any q && needB .any q D))
theorem wp_region_flow {id : Nat} {a : Act} {w : World} (slots : List (Nat × Nat)) (D : Nat → List Nat) (Phi : Nat → Value → World → Prop) (E : World → World → Prop) (S : World → Prop) (q : Array Oper)
    (hq : flowB slots D q = true) (he : lo.toArray = q) (hm : P.follows .mixedOrders = true) (hS : S w.drew) (hE : ∀ i v w w', Phi i v w → E w w' → Phi i v w')
    (hop : ∀ (j : Nat), j < lo.length → ∀ (f : Nat → Value) (w : World), S w → (∀ d ∈ D j, Phi d (f d) w) → FlowOp P lo (NoPanic Q) S Phi E (putAll a slots f) w j)
    (hend : ∀ (f : Nat → Value) (w : World), S w → (∀ i, i < lo.length → Phi i (f i) w) → Q .normal (putAll a slots f) w) : (Code.region id lo.toArray true).wp P Q a w := by
  subst he
  unfold flowB at hq
  simp only [Bool.and_eq_true, decide_eq_true_eq] at hq
  obtain ⟨hB, hSl, hA, hN⟩ := hq
  obtain ⟨f0, hf0⟩ := putAll_start slots a hB
  refine wp_region_noPanic (wp_region_held_drew (S := S) hm hS fun _ => ?_)
  have h := wpAnyH_flow (Q := NoPanic Q) slots D Phi E a hE hB hSl hA hN (fun f w j hj => hop j hj f w) hend lo.toArray.size (Array.replicate lo.toArray.size false) f0 w.drew (by simp) (by simp) hS (fun i hi => by
    rw [Array.getD_eq_getD_getElem?, Array.getElem?_replicate] at hi
    split at hi <;> cases hi)
  rw [hf0] at h
  exact h
theorem wp_region_flowL {id : Nat} {a : Act} {w : World} (slots : List (Nat × Nat)) (D : Nat → List Nat) (Phi : Nat → Value → World → Prop) (E : World → World → Prop) (S : World → Prop) (q : Array Oper) (n : Nat) (hn : lo.length = n + 1) (hDn : ∀ i, i < n → i ∈ D n)
    (hq : flowB slots D q = true) (he : lo.toArray = q) (hm : P.follows .mixedOrders = true) (hS : S w.drew) (hE : ∀ i v w w', Phi i v w → E w w' → Phi i v w')
    (hop : ∀ (j : Nat), j < n → ∀ (f : Nat → Value) (w : World), S w → (∀ d ∈ D j, Phi d (f d) w) → FlowOp P lo (NoPanic Q) S Phi E (putAll a slots f) w j)
    (hend : ∀ (f : Nat → Value) (w : World), S w → (∀ i, i < n → Phi i (f i) w) → wpOp P lo.toArray (NoPanic Q) n (fun a' w' => S w' ∧ Q .normal a' w') (putAll a slots f) w) : (Code.region id lo.toArray true).wp P Q a w := by
  subst he
  unfold flowB at hq
  simp only [Bool.and_eq_true, decide_eq_true_eq] at hq
  obtain ⟨hB, hSl, hA, hN⟩ := hq
  obtain ⟨f0, hf0⟩ := putAll_start slots a hB
  refine wp_region_noPanic (wp_region_held_drew (S := S) hm hS fun _ => ?_)
  have h := wpAnyH_flowL (Q := NoPanic Q) slots D Phi E a n hn hDn hE hB hSl hA hN hop hend lo.toArray.size (Array.replicate lo.toArray.size false) f0 w.drew (by simp) (by rw [Array.getD_eq_getD_getElem?, Array.getElem?_replicate, if_pos (by simp; omega)]; rfl) (by simp) hS (fun i hi => by
    rw [Array.getD_eq_getD_getElem?, Array.getElem?_replicate] at hi
    split at hi <;> cases hi)
  rw [hf0] at h
  exact h
end
end Go.Proofs.YtepeloenijlnhaaDoor
