/- A region, drawn or in its order, walked by what its operations wait for, at first hand or further: each leaves a fact that lasts while memory grows, a passed-over one too; the last operations, each of which waits for all before it, may change what the others left. One proof an operation, whatever order is drawn. No condition. -/
import Derived.Test.YtnkcehmgagpadaaDoorFlow
namespace Go.Proofs.YtnkcehmgagpadaaDoor
open Go.RowKit
/-- A fact: the operations whose values it speaks of, what it says, that it lasts. -/
def Fct (E : World → World → Prop) : Type := { x : List Nat × ((Nat → Value) → World → Prop) // ∀ f f' w w', x.2 f w → E w w' → (∀ d ∈ x.1, f' d = f d) → x.2 f' w' }
def Fct.top (E : World → World → Prop) : Fct E := ⟨([], fun _ _ => True), fun _ _ _ _ _ _ _ => trivial⟩
/-- Operation j's value is v. -/
def Fct.val (E : World → World → Prop) (j : Nat) (v : Value) : Fct E := ⟨([j], fun f _ => f j = v), fun _ f' _ _ h _ hd => show f' j = v from (hd j List.mem_cons_self).trans h⟩
/-- Operation j's value and the world are so. -/
def Fct.obj {E : World → World → Prop} (j : Nat) (R : Value → World → Prop) (hR : ∀ v w w', R v w → E w w' → R v w') : Fct E :=
  ⟨([j], fun f w => R (f j) w), fun f f' w w' h he hd => show R (f' j) w' by rw [hd j List.mem_cons_self]; exact hR _ _ _ h he⟩
def factAt {E : World → World → Prop} (L : List (Fct E)) (i : Nat) : Fct E := L.getD i (Fct.top E)
/-- What operation i leaves. -/
abbrev Lft {E : World → World → Prop} (L : List (Fct E)) (i : Nat) (f : Nat → Value) (w : World) : Prop := (factAt L i).1.2 f w
theorem updF_self (f : Nat → Value) (j : Nat) (v : Value) : updF f j v j = v := by unfold updF; rw [if_pos rfl]
/-- It does wait for these, at first hand or further. -/
def needT (md : Region.Mode) (ops : Array Oper) (D : Nat → List Nat) : Bool :=
  (List.range ops.size).all fun i => ((ops[i]?).map fun o => (D i).all fun j => o.after.any fun e => Region.binds md e && (e.on == j || (D e.on).contains j)).getD true
/-- In a region in order each waits for those ahead of it. -/
def needO (N : Nat) (D : Nat → List Nat) : Bool := (List.range N).all fun i => (D i).all fun j => decide (j < i)
/-- The last operations wait for all ahead of them. -/
def tailB (n N : Nat) (D : Nat → List Nat) : Bool := (List.range N).all fun j => decide (j < n) || (List.range j).all fun i => (D j).contains i
def onB {E : World → World → Prop} (N : Nat) (L : List (Fct E)) (D : Nat → List Nat) : Bool := (List.range N).all fun i => (factAt L i).1.1.all fun d => d == i || (D i).contains d
theorem onB_use {E : World → World → Prop} {N : Nat} {L : List (Fct E)} {D : Nat → List Nat} (h : onB N L D = true) {i : Nat} (hi : i < N) : ∀ d ∈ (factAt L i).1.1, d = i ∨ d ∈ D i := by
  unfold onB at h
  rw [List.all_eq_true] at h
  have h1 := h i (List.mem_range.2 hi)
  rw [List.all_eq_true] at h1
  intro d hd
  have h2 := h1 d hd
  rw [Bool.or_eq_true] at h2
  rcases h2 with h2 | h2
  · exact .inl (by simpa using h2)
  · exact .inr (by simpa using h2)
/-- What is listed has what it waits for listed. -/
def Closd (md : Region.Mode) (ops : Array Oper) (l : Array Bool) : Prop := ∀ i, l.getD i false = true → ∀ o, ops[i]? = some o → ∀ e ∈ o.after, Region.binds md e = true → l.getD e.on false = true
theorem dep_listed {md : Region.Mode} {ops : Array Oper} {D : Nat → List Nat} {l : Array Bool} (hA : aheadB md ops = true) (hN : needT md ops D = true) (hC : Closd md ops l) :
    ∀ k j, j < k → j < ops.size → (∀ o, ops[j]? = some o → ∀ e ∈ o.after, Region.binds md e = true → l.getD e.on false = true) → ∀ d ∈ D j, l.getD d false = true
  | 0, j, h, _, _, _, _ => absurd h (by omega)
  | k + 1, j, hk, hj, hd, d, hm => by
    have ho : ops[j]? = some ops[j] := Array.getElem?_eq_getElem hj
    have hN1 := hN
    unfold needT at hN1
    rw [List.all_eq_true] at hN1
    have h2 := hN1 j (List.mem_range.2 hj)
    rw [ho, Option.map_some, Option.getD_some, List.all_eq_true] at h2
    have h3 := h2 d hm
    rw [Array.any_eq_true'] at h3
    obtain ⟨e, he, hb⟩ := h3
    rw [Bool.and_eq_true, Bool.or_eq_true] at hb
    have hl := hd _ ho e he hb.1
    rcases hb.2 with h4 | h4
    · have : e.on = d := by simpa using h4
      rwa [this] at hl
    · have h4 : d ∈ D e.on := by simpa using h4
      have hA1 := hA
      unfold aheadB at hA1
      rw [List.all_eq_true] at hA1
      have h5 := hA1 j (List.mem_range.2 hj)
      rw [ho] at h5
      simp only [Option.map_some, Option.getD_some, Array.all_eq_true_iff_forall_mem] at h5
      have h6 := h5 e he
      rw [hb.1] at h6
      have h7 : e.on < j := by simpa using h6
      exact dep_listed hA hN hC k e.on (by omega) (by omega) (fun o ho' e' he' hb' => hC e.on hl o ho' e' he' hb') d h4
theorem closd_step {md : Region.Mode} {ops : Array Oper} {l : Array Bool} (hC : Closd md ops l) {j : Nat} (hj : ∀ o, ops[j]? = some o → ∀ e ∈ o.after, Region.binds md e = true → l.getD e.on false = true) : Closd md ops (l.setIfInBounds j true) := by
  have mono : ∀ i, l.getD i false = true → (l.setIfInBounds j true).getD i false = true := fun i hi => by
    rw [Array.getD_eq_getD_getElem?] at hi ⊢
    rw [Array.getElem?_setIfInBounds]
    split
    · split
      · rfl
      · rename_i h1 h2
        subst h1
        rw [Array.getElem?_eq_none (by omega)] at hi
        cases hi
    · exact hi
  intro i hi o ho e he hb
  by_cases hij : i = j
  · subst hij; exact mono _ (hj o ho e he hb)
  · refine mono _ (hC i ?_ o ho e he hb)
    rw [Array.getD_eq_getD_getElem?, Array.getElem?_setIfInBounds_ne (Ne.symm hij)] at hi
    rwa [Array.getD_eq_getD_getElem?]
section
variable {P : Program} {lo : List Oper} {Q : Exit → Act → World → Prop} {S : World → Prop} {E : World → World → Prop} {L : List (Fct E)}
/-- One operation: what it leaves, whether it is done or passed over. -/
def FlwOp (P : Program) (lo : List Oper) (Q : Exit → Act → World → Prop) (S : World → Prop) (E : World → World → Prop) (L : List (Fct E)) (A : Act) (f : Nat → Value) (w : World) (j : Nat) : Prop :=
  ∃ o, lo[j]? = some o ∧
    ((Region.wanted o (yielded lo.toArray A.tmps) = true ∧ ∀ K : Act → World → Prop, (∀ v w', S w' → E w w' → Lft L j (updF f j v) w' → K (A.put o.dst v) w') → o.wp P A w K Q) ∨
     (Region.wanted o (yielded lo.toArray A.tmps) = false ∧ S w ∧ E w w ∧ Lft L j (updF f j undef) w))
theorem wpOp_flw {A : Act} {f : Nat → Value} {w : World} {j : Nat} {o : Oper} (ho : lo[j]? = some o) (h : FlwOp P lo Q S E L A f w j) {K' : Act → World → Prop}
    (hK : ∀ v w', S w' → E w w' → Lft L j (updF f j v) w' → K' (A.put o.dst v) w') : wpOp P lo.toArray Q j K' A w := by
  obtain ⟨o', ho', h⟩ := h
  rw [ho] at ho'
  obtain rfl := Option.some.inj ho'
  rcases h with ⟨hw, hgo⟩ | ⟨hw, hs, he, hp⟩
  · exact wpOp_step ho hw fun K hKK => hgo K fun v w' a b c => hKK _ _ (hK v w' a b c)
  · unfold wpOp
    rw [show lo.toArray[j]? = some o by simpa using ho]
    show if _ then _ else _
    rw [if_neg (by rw [hw]; simp)]
    exact hK _ _ hs he hp
/-- One of some operations whose values are all to be unlike: each makes memory of its own. -/
def FlwOpA (A : List Nat) (P : Program) (lo : List Oper) (Q : Exit → Act → World → Prop) (S : World → Prop) (E : World → World → Prop) (L : List (Fct E)) (a : Act) (f : Nat → Value) (w : World) (j : Nat) : Prop :=
  ∃ o, lo[j]? = some o ∧ Region.wanted o (yielded lo.toArray a.tmps) = true ∧ ∀ K : Act → World → Prop, (∀ v w', S w' → E w w' → Lft L j (updF f j v) w' → (∀ i ∈ A, i ≠ j → Lft L i f w → f i ≠ v) → K (a.put o.dst v) w') → o.wp P a w K Q
def FlwX (A : List Nat) (P : Program) (lo : List Oper) (Q : Exit → Act → World → Prop) (S : World → Prop) (E : World → World → Prop) (L : List (Fct E)) (a : Act) (f : Nat → Value) (w : World) (j : Nat) : Prop :=
  match A.contains j with
  | true => FlwOpA A P lo Q S E L a f w j
  | false => FlwOp P lo Q S E L a f w j
theorem wpOp_flwx {A : List Nat} {a : Act} {f : Nat → Value} {w : World} {j : Nat} {o : Oper} (ho : lo[j]? = some o) (h : FlwX A P lo Q S E L a f w j) {K' : Act → World → Prop}
    (hK : ∀ v w', S w' → E w w' → Lft L j (updF f j v) w' → (j ∈ A → ∀ i ∈ A, i ≠ j → Lft L i f w → f i ≠ v) → K' (a.put o.dst v) w') : wpOp P lo.toArray Q j K' a w := by
  unfold FlwX at h
  cases hc : A.contains j with
  | true =>
    rw [hc] at h
    obtain ⟨o', ho', hw, hgo⟩ := h
    rw [ho] at ho'
    obtain rfl := Option.some.inj ho'
    exact wpOp_step ho hw fun K hKK => hgo K fun v w' a b c d => hKK _ _ (hK v w' a b c (fun _ => d))
  | false =>
    rw [hc] at h
    exact wpOp_flw ho h fun v w' a b c => hK v w' a b c (fun hm => by
      have : A.contains j = true := by simpa using hm
      rw [hc] at this
      cases this)
/-- The values of these are all unlike. -/
def Aparts (A : List Nat) (f : Nat → Value) : Prop := ∀ i ∈ A, ∀ j ∈ A, i ≠ j → f i ≠ f j
theorem aparts_step {A : List Nat} {f : Nat → Value} {L : List (Fct E)} {w : World} {p : Nat → Prop} (hap : ∀ i ∈ A, ∀ j ∈ A, p i → p j → i ≠ j → f i ≠ f j) {j : Nat} {v : Value} (hv : j ∈ A → ∀ i ∈ A, i ≠ j → Lft L i f w → f i ≠ v) (hf : ∀ i, p i → Lft L i f w) :
    ∀ i ∈ A, ∀ k ∈ A, (i = j ∨ p i) → (k = j ∨ p k) → i ≠ k → updF f j v i ≠ updF f j v k := by
  intro i hi k hk h1 h2 hne
  unfold updF
  by_cases hij : i = j
  · subst hij
    rw [if_pos rfl, if_neg (Ne.symm hne)]
    rcases h2 with h2 | h2
    · exact absurd h2.symm hne
    · exact (hv hi k hk (Ne.symm hne) (hf k h2)).symm
  · rw [if_neg hij]
    by_cases hkj : k = j
    · subst hkj
      rw [if_pos rfl]
      rcases h1 with h1 | h1
      · exact absurd h1 hij
      · exact hv hk i hi hij (hf i h1)
    · rw [if_neg hkj]
      rcases h1 with h1 | h1
      · exact absurd h1 hij
      · rcases h2 with h2 | h2
        · exact absurd h2 hkj
        · exact hap i hi k hk h1 h2 hne
/-- The last operations, one behind the other. -/
def wpTail (P : Program) (ops : Array Oper) (Q : Exit → Act → World → Prop) : Nat → Nat → Act → World → Prop
  | 0, _, a, w => Q .normal a w
  | m + 1, j, a, w => wpOp P ops Q j (fun a' w' => wpTail P ops Q m (j + 1) a' w') a w
theorem unlisted_of {l : Array Bool} {i : Nat} (h : l.getD i true = false) : l.getD i false = false := by
  rw [Array.getD_eq_getD_getElem?] at h ⊢
  cases hx : l[i]? with
  | none => rfl
  | some b => rw [hx] at h; exact h
theorem getD_big {l : Array Bool} {i : Nat} (h : l.size ≤ i) : l.getD i false = false := by
  rw [Array.getD_eq_getD_getElem?, Array.getElem?_eq_none h]; rfl
theorem getD_set_self {l : Array Bool} {i : Nat} (h : i < l.size) : (l.setIfInBounds i true).getD i false = true := by
  rw [Array.getD_eq_getD_getElem?, Array.getElem?_setIfInBounds_self_of_lt h]; rfl
theorem getD_set_ne {l : Array Bool} {i j : Nat} (h : i ≠ j) : (l.setIfInBounds j true).getD i false = l.getD i false := by
  rw [Array.getD_eq_getD_getElem?, Array.getElem?_setIfInBounds_ne (Ne.symm h), ← Array.getD_eq_getD_getElem?]
theorem ready_nil_all {md : Region.Mode} {ops : Array Oper} {l : Array Bool} (hA : aheadB md ops = true) (hs : l.size = ops.size) (hr : Region.ready md ops l = []) (i : Nat) (hi : i < ops.size) : l.getD i false = true := by
  have h := all_listed hA hs hr (i + 1) i (by omega) hi
  rw [Array.getD_eq_getD_getElem?, Array.getElem?_eq_getElem (by omega)] at h ⊢
  exact h
theorem wpAnyH_tail {ops : Array Oper} {D : Nat → List Nat} {n : Nat} (hA : aheadB .any ops = true) (hN : needT .any ops D = true) (hT : ∀ j, n ≤ j → j < ops.size → ∀ i, i < j → i ∈ D j) :
    ∀ (m j fuel : Nat) (l : Array Bool) (a : Act) (w : World), j + m = ops.size → n ≤ j → l.size = ops.size → Closd .any ops l → (∀ i, i < j → l.getD i false = true) → (∀ i, j ≤ i → l.getD i false = false) → m ≤ fuel →
      wpTail P ops Q m j a w → wpAnyH P .any ops Q (fun _ => True) fuel l a w
  | 0, j, fuel, l, a, w, hj, _, hs, _, h1, _, _, h => by
    refine wpAnyH_done (List.eq_nil_iff_forall_not_mem.2 fun i hi => ?_) h fuel
    obtain ⟨his, hi1, _⟩ := ready_iff.1 hi
    have := h1 i (by omega)
    rw [unlisted_of hi1] at this
    cases this
  | m + 1, j, 0, _, _, _, _, _, _, _, _, _, hf, _ => absurd hf (by omega)
  | m + 1, j, fuel + 1, l, a, w, hj, hn, hs, hC, h1, h2, hf, h => by
    refine ⟨fun hr => ?_, fun i hi => ?_⟩
    · have := ready_nil_all hA hs hr j (by omega)
      rw [h2 j (Nat.le_refl _)] at this
      cases this
    · obtain ⟨his, hi1, hall⟩ := ready_iff.1 hi
      have hij : i = j := by
        rcases Nat.lt_trichotomy i j with h3 | h3 | h3
        · have := h1 i h3
          rw [unlisted_of hi1] at this
          cases this
        · exact h3
        · have h4 := dep_listed hA hN hC (i + 1) i (by omega) his hall j (hT i (by omega) his j h3)
          rw [h2 j (Nat.le_refl _)] at h4
          cases h4
      subst hij
      have hil : i < l.size := by omega
      refine wpOp_mono (fun a' w' h' => ⟨trivial, ?_⟩) h
      refine wpAnyH_tail hA hN hT m (i + 1) fuel _ a' w' (by omega) (by omega) (by rw [Array.size_setIfInBounds]; exact hs) (closd_step hC hall) (fun k hk => ?_) (fun k hk => ?_) (by omega) h'
      · by_cases hki : k = i
        · subst hki; exact getD_set_self hil
        · rw [getD_set_ne hki]; exact h1 k (by omega)
      · rw [getD_set_ne (by omega)]; exact h2 k (by omega)
theorem lft_step {N : Nat} {D : Nat → List Nat} (hon : onB N L D = true) {l : Array Bool} (hlN : l.size = N) (hD : ∀ i, l.getD i false = true → ∀ d ∈ D i, l.getD d false = true) {f : Nat → Value} {w w' : World}
    (hf : ∀ i, l.getD i false = true → Lft L i f w) (he : E w w') (j : Nat) (hj : l.getD j false = false) (v : Value) (hv : Lft L j (updF f j v) w') : ∀ i, (l.setIfInBounds j true).getD i false = true → Lft L i (updF f j v) w' := by
  intro i hi
  by_cases hij : i = j
  · subst hij; exact hv
  · rw [getD_set_ne hij] at hi
    have hiN : i < N := by
      rcases Nat.lt_or_ge i N with h | h
      · exact h
      · rw [getD_big (by omega)] at hi; cases hi
    refine (factAt L i).2 f _ w w' (hf i hi) he fun d hd => ?_
    unfold updF
    rw [if_neg]
    rintro rfl
    rcases onB_use hon hiN d hd with h | h
    · exact hij h.symm
    · rw [hD i hi d h] at hj; cases hj
theorem wpAnyH_flw (A : List Nat) (slots : List (Nat × Nat)) (D : Nat → List Nat) (L : List (Fct E)) (a0 : Act) (n m : Nat) (hnm : n + m = lo.length) (hB : slotsB slots = true) (hSl : slotsOf lo.toArray = slots) (hA : aheadB .any lo.toArray = true) (hN : needT .any lo.toArray D = true)
    (hTB : tailB n lo.length D = true) (hon : onB lo.length L D = true) (hAn : ∀ i ∈ A, i < n)
    (hop : ∀ (j : Nat), j < n → ∀ (f : Nat → Value) (w : World), S w → (∀ d ∈ D j, Lft L d f w) → FlwX A P lo Q S E L (putAll a0 slots f) f w j)
    (hend : ∀ (f : Nat → Value) (w : World), S w → (∀ i, i < n → Lft L i f w) → Aparts A f → wpTail P lo.toArray Q m n (putAll a0 slots f) w) :
    ∀ (fuel : Nat) (l : Array Bool) (f : Nat → Value) (w : World), l.size = lo.toArray.size → Closd .any lo.toArray l → (∀ i, n ≤ i → l.getD i false = false) → l.count false ≤ fuel → S w → (∀ i, l.getD i false = true → Lft L i f w) → (∀ i ∈ A, ∀ j ∈ A, l.getD i false = true → l.getD j false = true → i ≠ j → f i ≠ f j) →
      wpAnyH P .any lo.toArray Q (fun _ => True) fuel l (putAll a0 slots f) w := by
  have hT : ∀ j, n ≤ j → j < lo.toArray.size → ∀ i, i < j → i ∈ D j := by
    intro j hj hjs i hi
    unfold tailB at hTB
    rw [List.all_eq_true] at hTB
    have h1 := hTB j (List.mem_range.2 (by simpa using hjs))
    rw [Bool.or_eq_true] at h1
    rcases h1 with h1 | h1
    · have : j < n := by simpa using h1
      omega
    · rw [List.all_eq_true] at h1
      simpa using h1 i (List.mem_range.2 hi)
  have hsz : lo.toArray.size = lo.length := by simp
  have cnt : ∀ (l : Array Bool) (j : Nat), j < l.size → l.getD j false = false → (l.setIfInBounds j true).count false + 1 = l.count false := by
    intro l j hj he
    rw [Array.getD_eq_getD_getElem?, Array.getElem?_eq_getElem hj, Option.getD_some] at he
    have h0 : 0 < l.count false := Array.count_pos_iff.2 (by rw [← he]; exact Array.getElem_mem hj)
    rw [Array.setIfInBounds_def, dif_pos hj, Array.count_set hj, he]
    simp only [beq_self_eq_true, if_true]
    rw [if_neg (by decide)]
    omega
  have cntT : ∀ (l : Array Bool), l.size = lo.toArray.size → (∀ i, n ≤ i → l.getD i false = false) → m ≤ l.count false := by
    intro l hs hn
    have e : l.count false = l.toList.count false := by rw [Array.count_toList]
    rw [e]
    have h1 : l.toList = l.toList.take n ++ l.toList.drop n := (List.take_append_drop n _).symm
    rw [h1, List.count_append]
    have h2 : l.toList.drop n = List.replicate m false := by
      refine List.ext_getElem (by simp; omega) fun k hk1 hk2 => ?_
      simp only [List.getElem_drop, List.getElem_replicate, Array.getElem_toList]
      have h3 := hn (n + k) (by omega)
      have hkl : n + k < l.size := by simp at hk2; omega
      rw [Array.getD_eq_getD_getElem?, Array.getElem?_eq_getElem hkl, Option.getD_some] at h3
      exact h3
    rw [h2, List.count_replicate]
    simp
  -- a list in which all of the head has come up
  have fin : ∀ (l : Array Bool) (f : Nat → Value) (w : World), l.size = lo.toArray.size → Closd .any lo.toArray l → (∀ i, n ≤ i → l.getD i false = false) → (∀ i, i < n → l.getD i false = true) → S w → (∀ i, l.getD i false = true → Lft L i f w) → (∀ i ∈ A, ∀ j ∈ A, l.getD i false = true → l.getD j false = true → i ≠ j → f i ≠ f j) →
      ∀ fuel, l.count false ≤ fuel → wpAnyH P .any lo.toArray Q (fun _ => True) fuel l (putAll a0 slots f) w := by
    intro l f w hs hC hn hh hS hf hap fuel hc
    exact wpAnyH_tail hA hN hT m n fuel l _ w (by omega) (Nat.le_refl _) hs hC hh hn (by have := cntT l hs hn; omega) (hend f w hS (fun i hi => hf i (hh i hi)) (fun i hi j hj => hap i hi j hj (hh i (hAn i hi)) (hh j (hAn j hj))))
  intro fuel
  induction fuel with
  | zero =>
    intro l f w hs hC hn hc hS hf hap
    refine fin l f w hs hC hn (fun i hi => ?_) hS hf hap 0 hc
    have hil : i < l.size := by omega
    cases hx : l.getD i false with
    | true => rfl
    | false => have := cnt l i hil hx; omega
  | succ fuel ih =>
    intro l f w hs hC hn hc hS hf hap
    by_cases hall : ∀ i, i < n → l.getD i false = true
    · exact fin l f w hs hC hn hall hS hf hap _ hc
    refine ⟨fun hr => absurd (fun i hi => ready_nil_all hA hs hr i (by omega)) hall, fun j hj => ?_⟩
    obtain ⟨hjs, h1, hdj⟩ := ready_iff.1 hj
    have hlj := unlisted_of h1
    have hDj := dep_listed hA hN hC (j + 1) j (by omega) hjs hdj
    have hjn : j < n := by
      rcases Nat.lt_or_ge j n with h | h
      · exact h
      · exact absurd (fun i hi => hDj i (hT j h hjs i (by omega))) hall
    have hjl : j < lo.length := by omega
    have ho : lo[j]? = some lo[j] := List.getElem?_eq_getElem hjl
    refine wpOp_flwx ho (hop j hjn f w hS fun d hd => hf d (hDj d hd)) fun v w' hS' hE' hv hva => ⟨trivial, ?_⟩
    rw [put_flow hB hSl ho]
    refine ih _ _ _ (by rw [Array.size_setIfInBounds]; exact hs) (closd_step hC hdj) (fun i hi => by rw [getD_set_ne (by omega)]; exact hn i hi) (by have := cnt l j (by omega) hlj; omega) hS' ?_ ?_
    rotate_left
    · intro i hi k hk h2 h3 hne
      have e : ∀ x, (l.setIfInBounds j true).getD x false = true → x = j ∨ l.getD x false = true := fun x hx => by
        by_cases hxj : x = j
        · exact .inl hxj
        · rw [getD_set_ne hxj] at hx; exact .inr hx
      exact aparts_step (p := fun x => l.getD x false = true) hap hva hf i hi k hk (e i h2) (e k h3) hne
    refine lft_step hon (by omega) (fun i hi => ?_) hf hE' j hlj v hv
    have his : i < lo.toArray.size := by
      rcases Nat.lt_or_ge i lo.toArray.size with h | h
      · exact h
      · rw [getD_big (by omega)] at hi; cases hi
    exact dep_listed hA hN hC (i + 1) i (by omega) his (fun o ho e he hb => hC i hi o ho e he hb)
theorem putAll_offG (f : Nat → Value) (s : Nat) : ∀ (r : List (Nat × Nat)) (a : Act), (r.all fun x => x.1 != s) = true → (putAll a r f).tmps[s]? = a.tmps[s]?
  | [], _, _ => rfl
  | (s0, i) :: r, a, h => by
    rw [List.all_cons, Bool.and_eq_true] at h
    rw [putAll, putAll_offG f s r _ h.2]
    show (a.tmps.setIfInBounds s0 (f i))[s]? = _
    have : s0 ≠ s := by simpa using h.1
    rw [Array.getElem?_setIfInBounds_ne this]
theorem putAll_get (f : Nat → Value) (s i : Nat) : ∀ (r : List (Nat × Nat)) (a : Act), slotsB r = true → r.contains (s, i) = true → s < a.tmps.size → (putAll a r f).tmps[s]? = some (f i)
  | [], _, _, h, _ => by cases h
  | (s0, i0) :: r, a, hB, h, hs => by
    simp only [slotsB, Bool.and_eq_true, List.all_eq_true, decide_eq_true_eq] at hB
    have hm : (s, i) ∈ (s0, i0) :: r := by simpa using h
    rcases List.mem_cons.1 hm with h1 | h1
    · injection h1 with h2 h3
      subst h2 h3
      rw [putAll, putAll_offG f s r _ (by rw [List.all_eq_true]; intro x hx; simpa using (hB.1 x hx).1)]
      show (a.tmps.setIfInBounds s (f i))[s]? = _
      rw [Array.getElem?_setIfInBounds_self_of_lt hs]
    · rw [putAll]
      refine putAll_get f s i r _ hB.2 (by simpa using h1) ?_
      show s < (a.tmps.setIfInBounds s0 (f i0)).size
      rw [Array.size_setIfInBounds]; exact hs
theorem putAll_at (f : Nat → Value) (s i : Nat) (r : List (Nat × Nat)) (a : Act) (hB : slotsB r = true) (h : r.contains (s, i) = true) {n : Nat} (hn : a.tmps.size = n) (hs : decide (s < n) = true) {v : Value} (hv : f i = v) : (putAll a r f).eval (.tmp s) = v := by
  have h1 := putAll_get f s i r a hB h (by rw [hn]; simpa using hs)
  show (putAll a r f).tmps.getD s undef = v
  rw [Array.getD_eq_getD_getElem?, h1]
  exact hv
theorem putAll_g (f : Nat → Value) (s i : Nat) (r : List (Nat × Nat)) (a : Act) (hB : slotsB r = true) (h : r.contains (s, i) = true) {n : Nat} (hn : a.tmps.size = n) (hs : decide (s < n) = true) {v : Value} (hv : f i = v) : (putAll a r f).tmps[s]? = some v := by
  rw [putAll_get f s i r a hB h (by rw [hn]; simpa using hs), hv]
theorem putAll_off (f : Nat → Value) (s : Nat) (r : List (Nat × Nat)) (a : Act) (h : (r.all fun x => x.1 != s) = true) {v : Value} (hv : a.eval (.tmp s) = v) : (putAll a r f).eval (.tmp s) = v := by
  have h1 := putAll_offG f s r a h
  rw [← hv]
  show (putAll a r f).tmps.getD s undef = a.tmps.getD s undef
  rw [Array.getD_eq_getD_getElem?, h1, ← Array.getD_eq_getD_getElem?]
theorem wp_act {P : Program} {c : Code} {Q : Exit → Act → World → Prop} {a : Act} {w : World} (h : ∀ a0, a0 = a → c.wp P Q a0 w) : c.wp P Q a w := h a rfl
/-- The checks of such a walk, for a theorem of its own. -/
def flwB (slots : List (Nat × Nat)) (D : Nat → List Nat) (n : Nat) (q : Array Oper) : Bool :=
  slotsB slots && (decide (slotsOf q = slots) && (aheadB .any q && (needT .any q D && tailB n q.size D)))
def flwO (slots : List (Nat × Nat)) (D : Nat → List Nat) (n : Nat) (q : Array Oper) : Bool :=
  slotsB slots && (decide (slotsOf q = slots) && (needO q.size D && tailB n q.size D))
theorem wp_region_flw {id : Nat} {a : Act} {w : World} (A : List Nat) (slots : List (Nat × Nat)) (D : Nat → List Nat) (L : List (Fct E)) (S : World → Prop) (q : Array Oper) (n m : Nat)
    (hq : flwB slots D n q = true) (hon : onB (n + m) L D = true) (hnm : n + m = lo.length) (he : lo.toArray = q) (hm : P.follows .mixedOrders = true) (hAn : (A.all fun i => decide (i < n)) = true) (hS : S w.drew)
    (hop : ∀ (j : Nat), j < n → ∀ (f : Nat → Value) (w : World), S w → (∀ d ∈ D j, Lft L d f w) → FlwX A P lo (NoPanic Q) S E L (putAll a slots f) f w j)
    (hend : ∀ (f : Nat → Value) (w : World), S w → (∀ i, i < n → Lft L i f w) → Aparts A f → wpTail P lo.toArray (NoPanic Q) m n (putAll a slots f) w) : (Code.region id lo.toArray true).wp P Q a w := by
  subst he
  unfold flwB at hq
  simp only [Bool.and_eq_true, decide_eq_true_eq] at hq
  obtain ⟨hB, hSl, hA, hN, hT⟩ := hq
  obtain ⟨f0, hf0⟩ := putAll_start slots a hB
  refine wp_region_noPanic (wp_region_held_drew (S := fun _ => True) hm trivial fun _ => ?_)
  have h0 : ∀ i, (Array.replicate lo.toArray.size false).getD i false = false := fun i => by
    rw [Array.getD_eq_getD_getElem?, Array.getElem?_replicate]
    split <;> rfl
  have h := wpAnyH_flw (Q := NoPanic Q) A slots D L a n m hnm hB hSl hA hN (by simpa using hT) (by rw [← hnm]; exact hon) (by simpa using hAn) hop hend lo.toArray.size (Array.replicate lo.toArray.size false) f0 w.drew (by simp) (fun i hi => by rw [h0] at hi; cases hi) (fun i _ => h0 i) (by simp) hS (fun i hi => by rw [h0] at hi; cases hi) (fun i _ j _ hi => by rw [h0] at hi; cases hi)
  rw [hf0] at h
  exact h
/-- The same where the region is in its order. -/
theorem wpList_tail : ∀ (m j : Nat) (a : Act) (w : World), j + m = lo.length → wpTail P lo.toArray Q m j a w → wpList P lo.toArray Q (lo.drop j) a w
  | 0, j, a, w, hj, h => by
    rw [List.drop_of_length_le (by omega)]
    exact h
  | m + 1, j, a, w, hj, h => by
    have hjl : j < lo.length := by omega
    rw [List.drop_eq_getElem_cons hjl]
    have h1 : wpOp P lo.toArray Q j (wpList P lo.toArray Q (lo.drop (j + 1))) a w := wpOp_mono (fun a' w' h' => wpList_tail m (j + 1) a' w' (by omega) h') h
    unfold wpOp at h1
    rw [show lo.toArray[j]? = some lo[j] by simp [hjl]] at h1
    exact h1
theorem wp_region_flwo {id : Nat} {a : Act} {w : World} (A : List Nat) (slots : List (Nat × Nat)) (D : Nat → List Nat) (L : List (Fct E)) (S : World → Prop) (q : Array Oper) (n m : Nat)
    (hq : flwO slots D n q = true) (hon : onB (n + m) L D = true) (hnm : n + m = lo.length) (he : lo.toArray = q) (hAn : (A.all fun i => decide (i < n)) = true) (hS : S w)
    (hop : ∀ (j : Nat), j < n → ∀ (f : Nat → Value) (w : World), S w → (∀ d ∈ D j, Lft L d f w) → FlwX A P lo Q S E L (putAll a slots f) f w j)
    (hend : ∀ (f : Nat → Value) (w : World), S w → (∀ i, i < n → Lft L i f w) → Aparts A f → wpTail P lo.toArray Q m n (putAll a slots f) w) : (Code.region id lo.toArray false).wp P Q a w := by
  subst he
  unfold flwO at hq
  simp only [Bool.and_eq_true, decide_eq_true_eq] at hq
  obtain ⟨hB, hSl, hN, hT⟩ := hq
  obtain ⟨f0, hf0⟩ := putAll_start slots a hB
  refine wp_region_lit ?_
  have hD : ∀ j, j < lo.length → ∀ d ∈ D j, d < j := by
    intro j hj d hd
    unfold needO at hN
    rw [List.all_eq_true] at hN
    have h1 := hN j (List.mem_range.2 (by simpa using hj))
    rw [List.all_eq_true] at h1
    simpa using h1 d hd
  have go : ∀ k j, j + k = n → ∀ f w, S w → (∀ i, i < j → Lft L i f w) → (∀ i ∈ A, ∀ k ∈ A, i < j → k < j → i ≠ k → f i ≠ f k) → wpList P lo.toArray Q (lo.drop j) (putAll a slots f) w := by
    intro k
    induction k with
    | zero =>
      intro j hj f w hS hf hap
      obtain rfl : j = n := by omega
      have hAn' : ∀ i ∈ A, i < j := by simpa using hAn
      exact wpList_tail m j _ w hnm (hend f w hS hf (fun i hi k hk => hap i hi k hk (hAn' i hi) (hAn' k hk)))
    | succ k ih =>
      intro j hj f w hS hf hap
      have hjl : j < lo.length := by omega
      have ho : lo[j]? = some lo[j] := List.getElem?_eq_getElem hjl
      rw [List.drop_eq_getElem_cons hjl]
      have h1 : wpOp P lo.toArray Q j (wpList P lo.toArray Q (lo.drop (j + 1))) (putAll a slots f) w := by
        refine wpOp_flwx ho (hop j (by omega) f w hS fun d hd => hf d (hD j hjl d hd)) fun v w' hS' hE' hv hva => ?_
        rw [put_flow hB hSl ho]
        refine ih (j + 1) (by omega) _ _ hS' (fun i hi => ?_) (fun i hi k hk h2 h3 hne => aparts_step (p := fun x => x < j) hap hva hf i hi k hk (by omega) (by omega) hne)
        by_cases hij : i = j
        · subst hij; exact hv
        · refine (factAt L i).2 f _ w w' (hf i (by omega)) hE' fun d hd => ?_
          unfold updF
          rw [if_neg]
          rintro rfl
          rcases onB_use hon (show i < n + m by omega) d hd with h | h
          · exact hij h.symm
          · have := hD i (by omega) d h; omega
      unfold wpOp at h1
      rw [show lo.toArray[j]? = some lo[j] by simp [hjl]] at h1
      exact h1
  have h := go n 0 (by omega) f0 w hS (fun i hi => absurd hi (by omega)) (fun i _ k _ hi => absurd hi (by omega))
  rw [hf0, List.drop_zero] at h
  exact h
end
end Go.Proofs.YtnkcehmgagpadaaDoor
