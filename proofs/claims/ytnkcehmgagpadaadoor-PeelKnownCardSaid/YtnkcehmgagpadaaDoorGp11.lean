/- A drawn region walked stage by stage: a stage is a stretch of operations all of which must have come up before the next one, the gate, may; behind a stage the facts are taken up anew. One operation alone may change memory as it likes. No condition. -/
import Derived.Test.YtnkcehmgagpadaaDoorFlw
import Derived.Test.YtnkcehmgagpadaaDoorFob
namespace Go.Proofs.YtnkcehmgagpadaaDoor
open Go.RowKit
/-- Just the first n have come up. -/
def FirstN (ops : Array Oper) (l : Array Bool) (n : Nat) : Prop := l.size = ops.size ∧ (∀ i, i < n → l.getD i false = true) ∧ ∀ i, n ≤ i → l.getD i false = false
/-- What is left of a region behind its first n operations. -/
def Rest (P : Program) (ops : Array Oper) (Q : Exit → Act → World → Prop) (n : Nat) (a : Act) (w : World) : Prop :=
  ∀ fuel l, FirstN ops l n → Closd .any ops l → ops.size - n ≤ fuel → wpAnyH P .any ops Q (fun _ => True) fuel l a w
/-- None behind operation g may come up before it. -/
def gateB (ops : Array Oper) (g : Nat) : Bool := (List.range ops.size).all fun j => decide (j ≤ g) || ((ops[j]?).map fun o => o.after.any fun e => Region.binds .any e && decide (g ≤ e.on)).getD true
theorem gate_use {ops : Array Oper} {g : Nat} (hG : gateB ops g = true) (hA : aheadB .any ops = true) {l : Array Bool} (hC : Closd .any ops l) :
    ∀ k j, j < k → g < j → j < ops.size → (∀ o, ops[j]? = some o → ∀ e ∈ o.after, Region.binds .any e = true → l.getD e.on false = true) → l.getD g false = true
  | 0, j, h, _, _, _ => absurd h (by omega)
  | k + 1, j, hk, hj, hjs, hd => by
    have ho : ops[j]? = some ops[j] := Array.getElem?_eq_getElem hjs
    have hG1 := hG
    unfold gateB at hG1
    rw [List.all_eq_true] at hG1
    have h1 := hG1 j (List.mem_range.2 hjs)
    rw [Bool.or_eq_true] at h1
    rcases h1 with h1 | h1
    · have : j ≤ g := by simpa using h1
      omega
    · rw [ho, Option.map_some, Option.getD_some, Array.any_eq_true'] at h1
      obtain ⟨e, he, hb⟩ := h1
      rw [Bool.and_eq_true, decide_eq_true_eq] at hb
      have hl := hd _ ho e he hb.1
      by_cases heg : e.on = g
      · rw [← heg]; exact hl
      · have hA1 := hA
        unfold aheadB at hA1
        rw [List.all_eq_true] at hA1
        have h5 := hA1 j (List.mem_range.2 hjs)
        rw [ho] at h5
        simp only [Option.map_some, Option.getD_some, Array.all_eq_true_iff_forall_mem] at h5
        have h6 := h5 e he
        rw [hb.1] at h6
        have h7 : e.on < j := by simpa using h6
        exact gate_use hG hA hC k e.on (by omega) (by omega) (by omega) (fun o ho' e' he' hb' => hC e.on hl o ho' e' he' hb')
theorem firstN_unlisted {ops : Array Oper} {l : Array Bool} {n i : Nat} (h : FirstN ops l n) (hi : l.getD i true = false) : n ≤ i := by
  rcases Nat.lt_or_ge i n with h1 | h1
  · have := h.2.1 i h1
    rw [unlisted_of hi] at this
    cases this
  · exact h1
section
variable {P : Program} {lo : List Oper} {Q : Exit → Act → World → Prop} {S : World → Prop} {E : World → World → Prop}
theorem rest_nil {n : Nat} {a : Act} {w : World} (hn : n = lo.toArray.size) (h : Q .normal a w) : Rest P lo.toArray Q n a w := fun fuel l hl hC _ => by
  refine wpAnyH_done (List.eq_nil_iff_forall_not_mem.2 fun i hi => ?_) h fuel
  obtain ⟨his, hi1, _⟩ := ready_iff.1 hi
  have := firstN_unlisted hl hi1
  omega
/-- One operation that all behind it wait for. -/
theorem rest_one {n : Nat} {a : Act} {w : World} (hA : aheadB .any lo.toArray = true) (hG : gateB lo.toArray n = true) (hn : n < lo.toArray.size)
    (h : wpOp P lo.toArray Q n (fun a' w' => Rest P lo.toArray Q (n + 1) a' w') a w) : Rest P lo.toArray Q n a w := fun fuel l hl hC hf => by
  obtain ⟨fuel, rfl⟩ : ∃ k, fuel = k + 1 := ⟨fuel - 1, by omega⟩
  refine ⟨fun hr => ?_, fun i hi => ?_⟩
  · have := ready_nil_all hA hl.1 hr n hn
    rw [hl.2.2 n (Nat.le_refl _)] at this
    cases this
  · obtain ⟨his, hi1, hall⟩ := ready_iff.1 hi
    have hin := firstN_unlisted hl hi1
    have : i = n := by
      rcases Nat.eq_or_lt_of_le hin with h1 | h1
      · exact h1.symm
      · have h2 := gate_use hG hA hC (i + 1) i (by omega) h1 his hall
        rw [hl.2.2 n (Nat.le_refl _)] at h2
        cases h2
    subst this
    have hil : i < l.size := by rw [hl.1]; exact his
    refine wpOp_mono (fun a' w' h' => ⟨trivial, h' fuel _ ⟨by rw [Array.size_setIfInBounds]; exact hl.1, fun k hk => ?_, fun k hk => ?_⟩ (closd_step hC hall) (by omega)⟩) h
    · by_cases hki : k = i
      · subst hki; exact getD_set_self hil
      · rw [getD_set_ne hki]; exact hl.2.1 k (by omega)
    · rw [getD_set_ne (by omega)]; exact hl.2.2 k (by omega)
/-- The slots that a stage's operations write. -/
def slotsIn (q : Array Oper) (n0 n1 : Nat) : List (Nat × Nat) := (List.range' n0 (n1 - n0)).filterMap fun i => (q[i]?.bind fun o => o.dst).map fun s => (s, i)
theorem put_flowIn {slots : List (Nat × Nat)} {n0 n1 : Nat} (hB : slotsB slots = true) (hSl : slotsIn lo.toArray n0 n1 = slots) {o : Oper} {j : Nat} (ho : lo[j]? = some o) (h0 : n0 ≤ j) (h1 : j < n1) (a0 : Act) (f : Nat → Value) (v : Value) :
    (putAll a0 slots f).put o.dst v = putAll a0 slots (updF f j v) := by
  have ho' : lo.toArray[j]? = some o := by simpa using ho
  cases hd : o.dst with
  | none =>
    rw [putAll_other f j v slots a0 (fun x hx hxj => by
      rw [← hSl] at hx
      unfold slotsIn at hx
      rw [List.mem_filterMap] at hx
      obtain ⟨i, hi, hxi⟩ := hx
      cases hq : (lo.toArray[i]?.bind fun o => o.dst) with
      | none => rw [hq] at hxi; cases hxi
      | some s =>
        rw [hq] at hxi
        injection hxi with hxi
        subst hxi
        obtain rfl : i = j := hxj
        rw [ho'] at hq
        rw [show (some o).bind (fun o : Oper => o.dst) = o.dst from rfl, hd] at hq
        cases hq)]
    rfl
  | some s =>
    refine putAll_upd f s j v slots a0 hB ?_
    rw [← hSl]
    unfold slotsIn
    rw [List.mem_filterMap]
    refine ⟨j, by simp; omega, ?_⟩
    rw [ho', show (some o).bind (fun o : Oper => o.dst) = o.dst from rfl, hd]
    rfl
/-- The block that a value stands for. -/
def blkOf : Value → Option Nat
  | .slice (some a) _ _ => some a.block
  | .pointer (some a) => some a.block
  | _ => none
/-- Two values stand for blocks that are not one. -/
def Apt (u v : Value) : Prop := ∀ k, blkOf u = some k → blkOf v ≠ some k
theorem Apt.symm {u v : Value} (h : Apt u v) : Apt v u := fun k h1 h2 => h k h2 h1
/-- The values of these stand for blocks of their own. -/
def ApartS (A : List Nat) (f : Nat → Value) : Prop := ∀ i ∈ A, ∀ j ∈ A, i ≠ j → Apt (f i) (f j)
/-- What operation i of a stage leaves. -/
abbrev Lfs (n0 : Nat) (L : List (Fct E)) (i : Nat) (f : Nat → Value) (w : World) : Prop := (factAt L (i - n0)).1.2 f w
def onS (n0 n1 : Nat) (L : List (Fct E)) (D : Nat → List Nat) : Bool := (List.range' n0 (n1 - n0)).all fun i => (factAt L (i - n0)).1.1.all fun d => decide (n0 ≤ d) && decide (d < n1) && (d == i || (D i).contains d)
/-- One operation of a stage. -/
def StgOp (n0 : Nat) (A : List Nat) (P : Program) (lo : List Oper) (Q : Exit → Act → World → Prop) (S : World → Prop) (E : World → World → Prop) (L : List (Fct E)) (a : Act) (f : Nat → Value) (w : World) (j : Nat) : Prop :=
  ∃ o, lo[j]? = some o ∧
    ((Region.wanted o (yielded lo.toArray a.tmps) = true ∧ ∀ K : Act → World → Prop, (∀ v w', S w' → E w w' → Lfs n0 L j (updF f j v) w' → (j ∈ A → ∀ i ∈ A, i ≠ j → Lfs n0 L i f w → Apt (f i) v) → K (a.put o.dst v) w') → o.wp P a w K Q) ∨
     (Region.wanted o (yielded lo.toArray a.tmps) = false ∧ j ∉ A ∧ S w ∧ E w w ∧ Lfs n0 L j (updF f j undef) w))
theorem wpOp_stg {n0 : Nat} {A : List Nat} {L : List (Fct E)} {a : Act} {f : Nat → Value} {w : World} {j : Nat} {o : Oper} (ho : lo[j]? = some o) (h : StgOp n0 A P lo Q S E L a f w j) {K' : Act → World → Prop}
    (hK : ∀ v w', S w' → E w w' → Lfs n0 L j (updF f j v) w' → (j ∈ A → ∀ i ∈ A, i ≠ j → Lfs n0 L i f w → Apt (f i) v) → K' (a.put o.dst v) w') : wpOp P lo.toArray Q j K' a w := by
  obtain ⟨o', ho', h⟩ := h
  rw [ho] at ho'
  obtain rfl := Option.some.inj ho'
  rcases h with ⟨hw, hgo⟩ | ⟨hw, hja, hs, he, hp⟩
  · exact wpOp_step ho hw fun K hKK => hgo K fun v w' a b c d => hKK _ _ (hK v w' a b c d)
  · unfold wpOp
    rw [show lo.toArray[j]? = some o by simpa using ho]
    show if _ then _ else _
    rw [if_neg (by rw [hw]; simp)]
    exact hK _ _ hs he hp (fun hj => absurd hj hja)
/-- The checks of a stage. -/
def stgB (slots : List (Nat × Nat)) (D : Nat → List Nat) (n0 n1 : Nat) (q : Array Oper) : Bool :=
  slotsB slots && (decide (slotsIn q n0 n1 = slots) && (aheadB .any q && (needT .any q D && (decide (n1 = q.size) || (gateB q n1 && decide (n1 < q.size) && (List.range' n0 (n1 - n0)).all fun i => (D n1).contains i)))))
theorem rest_stage {a : Act} {w : World} (n0 n1 : Nat) (A : List Nat) (slots : List (Nat × Nat)) (D : Nat → List Nat) (L : List (Fct E)) (S : World → Prop) (q : Array Oper)
    (hq : stgB slots D n0 n1 q = true) (hon : onS n0 n1 L D = true) (he : lo.toArray = q) (h01 : n0 ≤ n1 ∧ n1 ≤ lo.toArray.size) (hAn : (A.all fun i => decide (n0 ≤ i) && decide (i < n1)) = true) (hS : S w)
    (hop : ∀ (j : Nat), j < n1 → n0 ≤ j → ∀ (f : Nat → Value) (w : World), S w → (∀ d ∈ D j, n0 ≤ d → Lfs n0 L d f w) → StgOp n0 A P lo Q S E L (putAll a slots f) f w j)
    (hend : ∀ (f : Nat → Value) (w : World), S w → (∀ i, i < n1 → n0 ≤ i → Lfs n0 L i f w) → ApartS A f → Rest P lo.toArray Q n1 (putAll a slots f) w) : Rest P lo.toArray Q n0 a w := by
  subst he
  unfold stgB at hq
  simp only [Bool.and_eq_true, decide_eq_true_eq, Bool.or_eq_true] at hq
  obtain ⟨hB, hSl, hA, hN, hT⟩ := hq
  have hAn' : ∀ i ∈ A, n0 ≤ i ∧ i < n1 := by simpa using hAn
  have onU : ∀ i, n0 ≤ i → i < n1 → ∀ d ∈ (factAt L (i - n0)).1.1, n0 ≤ d ∧ d < n1 ∧ (d = i ∨ d ∈ D i) := by
    intro i h0 h1 d hd
    have hon1 := hon
    unfold onS at hon1
    rw [List.all_eq_true] at hon1
    have h2 := hon1 i (by simp; omega)
    rw [List.all_eq_true] at h2
    have h3 := h2 d hd
    simp only [Bool.and_eq_true, decide_eq_true_eq, Bool.or_eq_true, beq_iff_eq, List.contains_iff_mem] at h3
    exact ⟨h3.1.1, h3.1.2, h3.2⟩
  -- nothing behind the stage is ready before all of it has come up
  have hgate : ∀ (l : Array Bool) (j : Nat), Closd .any lo.toArray l → n1 ≤ l.size → (∀ i, n1 ≤ i → l.getD i false = false) → j ∈ Region.ready .any lo.toArray l → n1 ≤ j → ∀ i, n0 ≤ i → i < n1 → l.getD i false = true := by
    intro l j hC _ hn hj hjn i h0 h1
    obtain ⟨hjs, _, hall⟩ := ready_iff.1 hj
    rcases hT with hT | ⟨⟨hG, hgs⟩, hD⟩
    · omega
    · rw [List.all_eq_true] at hD
      have hDi : i ∈ D n1 := by simpa using hD i (by simp; omega)
      rcases Nat.eq_or_lt_of_le hjn with h2 | h2
      · subst h2
        exact dep_listed hA hN hC (n1 + 1) n1 (by omega) hjs hall i hDi
      · have h3 := gate_use hG hA hC (j + 1) j (by omega) h2 hjs hall
        rw [hn n1 (Nat.le_refl _)] at h3
        cases h3
  obtain ⟨f0, hf0⟩ := putAll_start slots a hB
  have cnt : ∀ (l : Array Bool) (j : Nat), j < l.size → l.getD j false = false → (l.setIfInBounds j true).count false + 1 = l.count false := by
    intro l j hj he
    rw [Array.getD_eq_getD_getElem?, Array.getElem?_eq_getElem hj, Option.getD_some] at he
    have h0 : 0 < l.count false := Array.count_pos_iff.2 (by rw [← he]; exact Array.getElem_mem hj)
    rw [Array.setIfInBounds_def, dif_pos hj, Array.count_set hj, he]
    simp only [beq_self_eq_true, if_true]
    rw [if_neg (by decide)]
    omega
  have cntN : ∀ (l : Array Bool) (n : Nat), l.size = lo.toArray.size → (∀ i, i < n → l.getD i false = true) → (∀ i, n ≤ i → l.getD i false = false) → l.count false = lo.toArray.size - n := by
    intro l n hs h1 h2
    have e : l.count false = l.toList.count false := by rw [Array.count_toList]
    have h3 : l.toList = List.replicate (min n l.size) true ++ List.replicate (l.size - n) false := by
      refine List.ext_getElem (by simp; omega) fun k hk1 hk2 => ?_
      have hkl : k < l.size := by simpa using hk1
      rw [List.getElem_append]
      split
      · rename_i h4
        have h5 := h1 k (by simp at h4; omega)
        rw [Array.getD_eq_getD_getElem?, Array.getElem?_eq_getElem hkl, Option.getD_some] at h5
        simpa using h5
      · rename_i h4
        have h5 := h2 k (by simp at h4; omega)
        rw [Array.getD_eq_getD_getElem?, Array.getElem?_eq_getElem hkl, Option.getD_some] at h5
        simpa using h5
    rw [e, h3, List.count_append, List.count_replicate, List.count_replicate]
    simp [hs]
  have main : ∀ (fuel : Nat) (l : Array Bool) (f : Nat → Value) (w : World), l.size = lo.toArray.size → Closd .any lo.toArray l → (∀ i, i < n0 → l.getD i false = true) → (∀ i, n1 ≤ i → l.getD i false = false) → l.count false ≤ fuel → S w → (∀ i, n0 ≤ i → i < n1 → l.getD i false = true → Lfs n0 L i f w) →
      (∀ i ∈ A, ∀ j ∈ A, l.getD i false = true → l.getD j false = true → i ≠ j → Apt (f i) (f j)) → wpAnyH P .any lo.toArray Q (fun _ => True) fuel l (putAll a slots f) w := by
    have fin : ∀ (l : Array Bool) (f : Nat → Value) (w : World), l.size = lo.toArray.size → Closd .any lo.toArray l → (∀ i, i < n1 → l.getD i false = true) → (∀ i, n1 ≤ i → l.getD i false = false) → S w → (∀ i, n0 ≤ i → i < n1 → l.getD i false = true → Lfs n0 L i f w) → (∀ i ∈ A, ∀ j ∈ A, l.getD i false = true → l.getD j false = true → i ≠ j → Apt (f i) (f j)) →
        ∀ fuel, l.count false ≤ fuel → wpAnyH P .any lo.toArray Q (fun _ => True) fuel l (putAll a slots f) w := by
      intro l f w hs hC hh hn hS hf hap fuel hc
      refine hend f w hS (fun i h1 h0 => hf i h0 h1 (hh i h1)) (fun i hi j hj => hap i hi j hj (hh i (hAn' i hi).2) (hh j (hAn' j hj).2)) fuel l ⟨hs, hh, hn⟩ hC ?_
      rw [← cntN l n1 hs hh hn]; exact hc
    intro fuel
    induction fuel with
    | zero =>
      intro l f w hs hC h0 hn hc hS hf hap
      refine fin l f w hs hC (fun i hi => ?_) hn hS hf hap 0 hc
      cases hx : l.getD i false with
      | true => rfl
      | false => have := cnt l i (by omega) hx; omega
    | succ fuel ih =>
      intro l f w hs hC h0 hn hc hS hf hap
      by_cases hall : ∀ i, i < n1 → l.getD i false = true
      · exact fin l f w hs hC hall hn hS hf hap _ hc
      refine ⟨fun hr => absurd (fun i hi => ready_nil_all hA hs hr i (by omega)) hall, fun j hj => ?_⟩
      obtain ⟨hjs, h1, hdj⟩ := ready_iff.1 hj
      have hlj := unlisted_of h1
      have hj1 : j < n1 := by
        rcases Nat.lt_or_ge j n1 with h | h
        · exact h
        · exact absurd (fun i hi => by
            rcases Nat.lt_or_ge i n0 with h2 | h2
            · exact h0 i h2
            · exact hgate l j hC (by omega) hn hj h i h2 hi) hall
      have hj0 : n0 ≤ j := by
        rcases Nat.lt_or_ge j n0 with h | h
        · rw [h0 j h] at hlj; cases hlj
        · exact h
      have hDj := dep_listed hA hN hC (j + 1) j (by omega) hjs hdj
      have hjl : j < lo.length := by simpa using hjs
      have ho : lo[j]? = some lo[j] := List.getElem?_eq_getElem hjl
      refine wpOp_stg ho (hop j hj1 hj0 f w hS fun d hd hd0 => ?_) fun v w' hS' hE' hv hva => ⟨trivial, ?_⟩
      · have hdl := hDj d hd
        rcases Nat.lt_or_ge d n1 with h | h
        · exact hf d hd0 h hdl
        · rw [hn d h] at hdl; cases hdl
      rw [put_flowIn hB hSl ho hj0 hj1]
      refine ih _ _ _ (by rw [Array.size_setIfInBounds]; exact hs) (closd_step hC hdj) (fun i hi => by rw [getD_set_ne (by omega)]; exact h0 i hi) (fun i hi => by rw [getD_set_ne (by omega)]; exact hn i hi) (by have := cnt l j (by omega) hlj; omega) hS' ?_ ?_
      · intro i hi0 hi1 hi
        by_cases hij : i = j
        · subst hij; exact hv
        · rw [getD_set_ne hij] at hi
          refine (factAt L (i - n0)).2 f _ w w' (hf i hi0 hi1 hi) hE' fun d hd => ?_
          unfold updF
          rw [if_neg]
          rintro rfl
          obtain ⟨_, _, h5⟩ := onU i hi0 hi1 d hd
          rcases h5 with h5 | h5
          · exact hij h5.symm
          · have his : i < lo.toArray.size := by omega
            have := dep_listed hA hN hC (i + 1) i (by omega) his (fun o ho e he hb => hC i hi o ho e he hb) d h5
            rw [this] at hlj; cases hlj
      · intro i hi k hk h2 h3 hne
        have e : ∀ x, (l.setIfInBounds j true).getD x false = true → x = j ∨ l.getD x false = true := fun x hx => by
          by_cases hxj : x = j
          · exact .inl hxj
          · rw [getD_set_ne hxj] at hx; exact .inr hx
        unfold updF
        by_cases hij : i = j
        · subst hij
          rw [if_pos rfl, if_neg (Ne.symm hne)]
          rcases e k h3 with h4 | h4
          · exact absurd h4.symm hne
          · exact (hva hi k hk (Ne.symm hne) (hf k (hAn' k hk).1 (hAn' k hk).2 h4)).symm
        · rw [if_neg hij]
          by_cases hkj : k = j
          · subst hkj
            rw [if_pos rfl]
            rcases e i h2 with h4 | h4
            · exact absurd h4 hij
            · exact hva hk i hi hij (hf i (hAn' i hi).1 (hAn' i hi).2 h4)
          · rw [if_neg hkj]
            rcases e i h2 with h4 | h4
            · exact absurd h4 hij
            · rcases e k h3 with h5 | h5
              · exact absurd h5 hkj
              · exact hap i hi k hk h4 h5 hne
  intro fuel l hl hC hf
  have h := main fuel l f0 w hl.1 hC hl.2.1 (fun i hi => hl.2.2 i (by omega)) (by rw [cntN l n0 hl.1 hl.2.1 hl.2.2]; exact hf) hS (fun i h0 _ hi => by rw [hl.2.2 i h0] at hi; cases hi) (fun i hi j _ h2 => by rw [hl.2.2 i (hAn' i hi).1] at h2; cases h2)
  rw [hf0] at h
  exact h
theorem wp_region_rest {id : Nat} {a : Act} {w : World} (hm : P.follows .mixedOrders = true) (h : Rest P lo.toArray (NoPanic Q) 0 a w.drew) : (Code.region id lo.toArray true).wp P Q a w := by
  have h0 : ∀ i, (Array.replicate lo.toArray.size false).getD i false = false := fun i => by
    rw [Array.getD_eq_getD_getElem?, Array.getElem?_replicate]
    split <;> rfl
  refine wp_region_noPanic (wp_region_held_drew (S := fun _ => True) hm trivial fun _ => ?_)
  exact h lo.toArray.size (Array.replicate lo.toArray.size false) ⟨by simp, fun i hi => absurd hi (by omega), fun i _ => h0 i⟩ (fun i hi => by rw [h0] at hi; cases hi) (by omega)
theorem rest_nilN {n : Nat} {a : Act} {w : World} (hn : n = lo.toArray.size) (h : Q .normal a w) : Rest P lo.toArray (NoPanic Q) n a w := rest_nil hn h
end
end Go.Proofs.YtnkcehmgagpadaaDoor
/- Operations of a stage (Fst). No condition. -/
namespace Go.Proofs.YtnkcehmgagpadaaDoor
open Go.RowKit
section
variable {lo : List Oper} {Q : Exit → Act → World → Prop} {S : World → Prop} {E : World → World → Prop} {L : List (Fct E)} {A : Act} {f : Nat → Value} {w : World} {j n0 : Nat} {A' : List Nat} {o : Oper}
theorem stg_val (hja : j ∉ A') (ho : lo[j]? = some o) (hw : Region.wanted o (yielded lo.toArray A.tmps) = true) (v : Value) (hr : (execOp A.eval o).run Tryd.prog w = .ok (.value v) w) (hS : S w) (hE : E w w) (hP : Lfs n0 L j (updF f j v) w) :
    StgOp n0 A' Tryd.prog lo Q S E L A f w j := ⟨o, ho, .inl ⟨hw, fun _ hK => by
      unfold Oper.wp
      rw [hr]
      exact hK v w hS hE hP (fun h => absurd h hja)⟩⟩
theorem stg_wp (hja : j ∉ A') (ho : lo[j]? = some o) (hw : Region.wanted o (yielded lo.toArray A.tmps) = true) (h : ∀ K : Act → World → Prop, (∀ v w', S w' → E w w' → Lfs n0 L j (updF f j v) w' → K (A.put o.dst v) w') → o.wp Tryd.prog A w K Q) :
    StgOp n0 A' Tryd.prog lo Q S E L A f w j := ⟨o, ho, .inl ⟨hw, fun K hK => h K fun v w' a b c => hK v w' a b c (fun h => absurd h hja)⟩⟩
/-- A call whose answer is known. -/
theorem stg_call (hja : j ∉ A') (ho : lo[j]? = some o) (hw : Region.wanted o (yielded lo.toArray A.tmps) = true) (g : FuncId) (xs : Array Operand) (ts : Array TypeId) (hop : o.op = .call { callee := .value (.func g), args := xs, argTypes := ts })
    (us : Array Value) (hx : xs.map A.eval = us) (hcf : ∀ w, (callFunc g us).run Tryd.prog w = .ok (.enter g us) w)
    (R : Value → World → Prop) (hc : Calls Tryd.prog g us w fun e w' => (∃ v, e = .returned v ∧ R v w') ∧ Below w.heap.size w w') (h : ∀ v w', R v w' → Below w.heap.size w w' → S w' ∧ E w w' ∧ Lfs n0 L j (updF f j v) w') : StgOp n0 A' Tryd.prog lo Q S E L A f w j :=
  ⟨o, ho, .inl ⟨hw, fun K hK => by
    unfold Oper.wp
    have he : (execOp A.eval o).run Tryd.prog w = .ok (.enter g us) w := by
      unfold execOp
      have hf : A.eval (.func g) = .func (.func g) #[] #[] := rfl
      simp [hop, resolve, invoke, hx, hf, Deferred.ofValue, hcf]
    rw [he, Oper.upon_enter]
    refine Calls.mono hc ?_
    rintro e w' ⟨⟨v, rfl, hr⟩, hb⟩
    obtain ⟨a, b, c⟩ := h v w' hr hb
    exact hK v w' a b c (fun h => absurd h hja)⟩⟩
end
theorem lt_b {p : Nat → Prop} {n0 : Nat} : ∀ j, j < n0 → n0 ≤ j → p j := fun _ h1 h2 => absurd h1 (by omega)
theorem lt_t {p : Nat → Prop} {n0 n : Nat} (h : ∀ j, j < n → n0 ≤ j → p j) (h' : p n) : ∀ j, j < n + 1 → n0 ≤ j → p j := fun j hj h0 => by
  rcases Nat.lt_or_ge j n with h1 | h1
  · exact h j h1 h0
  · obtain rfl : j = n := by omega
    exact h'
theorem rest_act {P : Program} {ops : Array Oper} {Q : Exit → Act → World → Prop} {n : Nat} {a : Act} {w : World} (h : ∀ a0, a0 = a → Rest P ops Q n a0 w) : Rest P ops Q n a w := h a rfl
end Go.Proofs.YtnkcehmgagpadaaDoor
