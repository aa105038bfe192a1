/- Plain laws of sets of sums: in order, each once; what one has and another has not; gone through two at a time; how many. No condition. -/
import Derived.Test.YtnkcehmgagpadaaDoorGp14
import Derived.Lib.SlicesCompact
import Derived.Sort.LotA
import Derived.Shelf.SlSortCmp.Insertion
namespace Go.Proofs.YtnkcehmgagpadaaDoor
open Go.RowKit Go.Sort
/-- A sum: thirty-two bytes. -/
abbrev Su := { x : List (BitVec 8) // x.length = 32 }
instance : Inhabited Su := ⟨⟨List.replicate 32 0, by simp⟩⟩
def cmpU (x y : Su) : Int := cmpL x.1 y.1
theorem cmpU_len (x y : Su) : x.1.length = y.1.length := x.2.trans y.2.symm
theorem cmpU_vals (x y : Su) : cmpU x y = -1 ∨ cmpU x y = 0 ∨ cmpU x y = 1 := cmpL_vals _ _
theorem cmpU_self (x : Su) : cmpU x x = 0 := cmpL_self _
theorem cmpU_zero {x y : Su} : cmpU x y = 0 ↔ x = y := (cmpL_zero (cmpU_len x y)).trans Subtype.ext_iff.symm
theorem cmpU_neg (x y : Su) : cmpU y x = - cmpU x y := cmpL_neg _ _ (cmpU_len x y)
theorem cmpU_trans {x y z : Su} (h1 : cmpU x y ≤ 0) (h2 : cmpU y z ≤ 0) : cmpU x z ≤ 0 := (cmpL_trans _ _ _ (cmpU_len x y) (cmpU_len y z)).1 h1 h2
theorem cmpU_ltle {x y z : Su} (h1 : cmpU x y = -1) (h2 : cmpU y z ≤ 0) : cmpU x z = -1 := by
  have h3 := (cmpL_trans _ _ _ (cmpU_len x y) (cmpU_len y z)).2 (show cmpU x y < 0 by omega) h2
  have h4 : cmpU x z < 0 := h3
  rcases cmpU_vals x z with h | h | h <;> omega
/-- Each ahead of the next ones. -/
abbrev AscU (R : List Su) : Prop := R.Pairwise fun x y => cmpU x y = -1
theorem cmpU_flip {x y : Su} (h : cmpU x y = -1) : cmpU y x = 1 := by rw [cmpU_neg, h]; rfl
theorem ascU_unique : ∀ {A B : List Su}, AscU A → AscU B → (∀ x, x ∈ A ↔ x ∈ B) → A = B
  | [], [], _, _, _ => rfl
  | [], b :: B, _, _, h => absurd ((h b).2 (List.mem_cons_self ..)) (by simp)
  | a :: A, [], _, _, h => absurd ((h a).1 (List.mem_cons_self ..)) (by simp)
  | a :: A, b :: B, ha, hb, h => by
    obtain ⟨ha1, ha2⟩ := List.pairwise_cons.1 ha
    obtain ⟨hb1, hb2⟩ := List.pairwise_cons.1 hb
    have hab : a = b := by
      rcases List.mem_cons.1 ((h a).1 (List.mem_cons_self ..)) with e | e
      · exact e
      · rcases List.mem_cons.1 ((h b).2 (List.mem_cons_self ..)) with e2 | e2
        · exact e2.symm
        · have h1 := ha1 b e2
          have h2 := hb1 a e
          rw [cmpU_flip h2] at h1
          cases h1
    subst hab
    have hn : ∀ {C : List Su}, (∀ x ∈ C, cmpU a x = -1) → a ∉ C := fun hc hm => by
      have h1 := hc a hm
      rw [cmpU_self] at h1
      cases h1
    rw [ascU_unique ha2 hb2 (fun x => ?_)]
    constructor
    · intro hx
      rcases List.mem_cons.1 ((h x).1 (List.mem_cons_of_mem _ hx)) with e | e
      · exact absurd (e ▸ hx) (hn ha1)
      · exact e
    · intro hx
      rcases List.mem_cons.1 ((h x).2 (List.mem_cons_of_mem _ hx)) with e | e
      · exact absurd (e ▸ hx) (hn hb1)
      · exact e
theorem compactU_inv (M : List Su) (h : M.Pairwise fun x y => cmpU x y ≤ 0) : ∀ m, m ≤ M.length → AscU (Lib.compactUpTo M.toArray m) ∧ ∀ x, x ∈ Lib.compactUpTo M.toArray m ↔ x ∈ M.take m := by
  intro m
  induction m with
  | zero => intro _; exact ⟨by simp [Lib.compactUpTo], by simp [Lib.compactUpTo]⟩
  | succ m ih =>
    intro hm
    obtain ⟨i1, i2⟩ := ih (by omega)
    have hget : M.toArray[m]! = M[m] := getElem!_pos M.toArray m (by simpa using (show m < M.length by omega))
    have htk : M.take (m + 1) = M.take m ++ [M[m]] := by rw [List.take_add_one, List.getElem?_eq_getElem (show m < M.length by omega)]; rfl
    have hle : ∀ x ∈ M.take m, cmpU x M[m] ≤ 0 := fun x hx => by
      have h2 : (M.take (m + 1)).Pairwise fun x y => cmpU x y ≤ 0 := h.sublist (List.take_sublist _ _)
      rw [htk, List.pairwise_append] at h2
      exact h2.2.2 x hx M[m] (by simp)
    rw [Lib.compactUpTo_succ, htk]
    cases hk : Lib.keeps M.toArray m with
    | false =>
      unfold Lib.keeps at hk
      have hk2 := of_decide_eq_false hk
      have hm0 : m ≠ 0 := fun e => hk2 (.inl e)
      have he : M.toArray[m]! = M.toArray[m - 1]! := Classical.byContradiction fun e => hk2 (.inr e)
      rw [hget, getElem!_pos M.toArray (m - 1) (by simpa using (show m - 1 < M.length by omega))] at he
      have hin : M[m] ∈ M.take m := by
        rw [he, List.getElem_toArray]
        exact List.mem_take_iff_getElem.2 ⟨m - 1, by omega, rfl⟩
      simp only [Bool.false_eq_true, if_false, List.append_nil]
      refine ⟨i1, fun x => (i2 x).trans ⟨fun hx => List.mem_append_left _ hx, fun hx => ?_⟩⟩
      rcases List.mem_append.1 hx with e | e
      · exact e
      · rw [List.mem_singleton.1 e]; exact hin
    | true =>
      unfold Lib.keeps at hk
      have hk2 := of_decide_eq_true hk
      rw [if_pos rfl, hget]
      refine ⟨?_, fun x => by rw [List.mem_append, List.mem_append, i2 x]⟩
      refine List.pairwise_append.2 ⟨i1, by simp, fun x hx y hy => ?_⟩
      rw [List.mem_singleton.1 hy]
      have hx2 := (i2 x).1 hx
      have hl := hle x hx2
      rcases cmpU_vals x M[m] with e | e | e
      · exact e
      · exfalso
        have hxe := cmpU_zero.1 e
        obtain ⟨j, hj, hxj⟩ := List.mem_take_iff_getElem.1 hx2
        have hm0 : m ≠ 0 := by omega
        have hne : M.toArray[m]! ≠ M.toArray[m - 1]! := hk2.resolve_left hm0
        rw [hget, getElem!_pos M.toArray (m - 1) (by simpa using (show m - 1 < M.length by omega)), List.getElem_toArray] at hne
        have h1 : cmpU M[m - 1] M[m] ≤ 0 := hle _ (List.mem_take_iff_getElem.2 ⟨m - 1, by omega, rfl⟩)
        have h2 : cmpU x M[m - 1] ≤ 0 := by
          by_cases hjm : j = m - 1
          · subst hjm; rw [← hxj, cmpU_self]; exact Int.le_refl _
          · have := List.pairwise_iff_getElem.1 h j (m - 1) (by omega) (by omega) (by omega)
            rw [← hxj]; exact this
        rw [hxe] at h2
        have h3 := cmpU_neg M[m] M[m - 1]
        exact hne (cmpU_zero.1 (by omega))
      · omega
theorem compactU_srt (M : List Su) (h : M.Pairwise fun x y => cmpU x y ≤ 0) : AscU (Lib.compact M) ∧ ∀ x, x ∈ Lib.compact M ↔ x ∈ M := by
  have := compactU_inv M h M.length (Nat.le_refl _)
  rw [List.take_length] at this
  exact this

theorem asc_next {L : List Su} (h : ∀ i (hi : i + 1 < L.length), cmpU L[i] L[i + 1] = -1) : AscU L := by
  refine List.pairwise_iff_getElem.2 fun i j hi hj hij => ?_
  obtain ⟨d, rfl⟩ : ∃ d, j = i + 1 + d := ⟨j - (i + 1), by omega⟩
  clear hij
  induction d with
  | zero => exact h i hj
  | succ d ih => exact cmpU_ltle (ih (by omega)) (by have := h (i + 1 + d) (by omega); show cmpU L[i + 1 + d] L[i + 1 + d + 1] ≤ 0; omega)
theorem asc_at {L : List Su} (h : AscU L) (i : Nat) (hi : i + 1 < L.length) : cmpU L[i] L[i + 1] = -1 := List.pairwise_iff_getElem.1 h i (i + 1) (by omega) hi (by omega)
/-- One is put in. -/
def putU (x : Su) : List Su → List Su
  | [] => [x]
  | y :: R => if cmpU x y = -1 then x :: y :: R else if x = y then y :: R else y :: putU x R
theorem mem_putU (x z : Su) : ∀ R : List Su, z ∈ putU x R ↔ z = x ∨ z ∈ R
  | [] => by simp [putU]
  | y :: R => by
    unfold putU
    split
    · simp
    · split
      · rename_i h; subst h; simp
      · rw [List.mem_cons, mem_putU x z R, List.mem_cons]
        constructor
        · rintro (h | h | h)
          · exact .inr (.inl h)
          · exact .inl h
          · exact .inr (.inr h)
        · rintro (h | h | h)
          · exact .inr (.inl h)
          · exact .inl h
          · exact .inr (.inr h)
theorem asc_putU (x : Su) : ∀ R : List Su, AscU R → AscU (putU x R)
  | [], _ => by simp [putU]
  | y :: R, h => by
    obtain ⟨h1, h2⟩ := List.pairwise_cons.1 h
    unfold putU
    split
    · rename_i hx
      refine List.pairwise_cons.2 ⟨fun z hz => ?_, h⟩
      rcases List.mem_cons.1 hz with rfl | hz
      · exact hx
      · exact cmpU_ltle hx (by rw [h1 z hz]; decide)
    · split
      · exact h
      · rename_i hx hne
        refine List.pairwise_cons.2 ⟨fun z hz => ?_, asc_putU x R h2⟩
        rcases (mem_putU x z R).1 hz with rfl | hz
        · have := cmpU_neg z y
          rcases cmpU_vals z y with e | e | e
          · exact absurd e hx
          · exact absurd (cmpU_zero.1 e) hne
          · omega
        · exact h1 z hz
theorem len_putU (x : Su) : ∀ R : List Su, x ∉ R → (putU x R).length = R.length + 1
  | [], _ => rfl
  | y :: R, h => by
    unfold putU
    split
    · rfl
    · split
      · rename_i e; exact absurd (e ▸ List.mem_cons_self ..) h
      · rw [List.length_cons, len_putU x R (fun hm => h (List.mem_cons_of_mem _ hm)), List.length_cons]
/-- What Of answers: each once, in order. -/
def srt (L : List Su) : List Su := L.foldr putU []
theorem asc_srt : ∀ L : List Su, AscU (srt L)
  | [] => List.Pairwise.nil
  | x :: L => asc_putU x _ (asc_srt L)
theorem mem_srt {x : Su} : ∀ {L : List Su}, x ∈ srt L ↔ x ∈ L
  | [] => Iff.rfl
  | y :: L => by
    show x ∈ putU y (srt L) ↔ _
    rw [mem_putU, mem_srt, List.mem_cons]
theorem srt_of {L R : List Su} (h : AscU R) (hm : ∀ x, x ∈ R ↔ x ∈ L) : R = srt L := ascU_unique h (asc_srt L) fun x => (hm x).trans mem_srt.symm
theorem srt_asc {L : List Su} (h : AscU L) : srt L = L := (srt_of h fun _ => Iff.rfl).symm
theorem len_srt : ∀ {L : List Su}, L.Nodup → (srt L).length = L.length
  | [], _ => rfl
  | x :: L, h => by
    obtain ⟨h1, h2⟩ := List.nodup_cons.1 h
    show (putU x (srt L)).length = _
    rw [len_putU x _ (fun hm => h1 (mem_srt.1 hm)), len_srt h2, List.length_cons]
theorem len_put_le (x : Su) : ∀ R : List Su, (putU x R).length ≤ R.length + 1
  | [] => Nat.le_refl _
  | y :: R => by
    unfold putU
    split
    · exact Nat.le_refl _
    · split
      · exact Nat.le_succ _
      · have := len_put_le x R; simp only [List.length_cons]; omega
theorem len_srt_le : ∀ L : List Su, (srt L).length ≤ L.length
  | [] => Nat.le_refl _
  | x :: L => by have := len_srt_le L; have h2 := len_put_le x (srt L); show (putU x (srt L)).length ≤ _; simp only [List.length_cons]; omega
/-- What one has more, what both have, what one of both has. -/
def minU (A B : List Su) : List Su := srt (A.filter fun x => !decide (x ∈ B))
def botU (A B : List Su) : List Su := srt (A.filter fun x => decide (x ∈ B))
theorem mem_minU {A B : List Su} {x : Su} : x ∈ minU A B ↔ x ∈ A ∧ x ∉ B := by unfold minU; rw [mem_srt, List.mem_filter]; simp
theorem mem_botU {A B : List Su} {x : Su} : x ∈ botU A B ↔ x ∈ A ∧ x ∈ B := by unfold botU; rw [mem_srt, List.mem_filter]; simp
theorem asc_minU (A B : List Su) : AscU (minU A B) := asc_srt _
theorem asc_botU (A B : List Su) : AscU (botU A B) := asc_srt _
/-- The least of two sets that rise, and in which of them it is. -/
def leastU : List Su → List Su → Su × Bool × Bool
  | [], [] => (default, false, false)
  | [], y :: _ => (y, false, true)
  | x :: _, [] => (x, true, false)
  | x :: _, y :: _ => if cmpU x y ≤ 0 then (x, true, decide (cmpU x y = 0)) else (y, false, true)
def mrgN (keep : Bool → Bool → Bool) : Nat → List Su → List Su → List Su
  | 0, _, _ => []
  | n + 1, A, B => if A = [] ∧ B = [] then [] else
      (if keep (leastU A B).2.1 (leastU A B).2.2 then [(leastU A B).1] else []) ++ mrgN keep n (if (leastU A B).2.1 then A.tail else A) (if (leastU A B).2.2 then B.tail else B)
theorem mrgN_nil (keep : Bool → Bool → Bool) : ∀ n, mrgN keep n [] [] = []
  | 0 => rfl
  | _ + 1 => by simp [mrgN]
/-- What is told of the least. -/
theorem least_fact {A B : List Su} (hA : AscU A) (hB : AscU B) (h : ¬ (A = [] ∧ B = [])) :
    ((leastU A B).2.1 = decide ((leastU A B).1 ∈ A)) ∧ ((leastU A B).2.2 = decide ((leastU A B).1 ∈ B)) ∧ ((leastU A B).1 ∈ A ∨ (leastU A B).1 ∈ B) ∧
    (∀ z, z ∈ (if (leastU A B).2.1 then A.tail else A) ↔ z ∈ A ∧ z ≠ (leastU A B).1) ∧ (∀ z, z ∈ (if (leastU A B).2.2 then B.tail else B) ↔ z ∈ B ∧ z ≠ (leastU A B).1) ∧
    (∀ z, (z ∈ A ∨ z ∈ B) → z ≠ (leastU A B).1 → cmpU (leastU A B).1 z = -1) := by
  have tl : ∀ {x : Su} {C : List Su}, AscU (x :: C) → ∀ z, z ∈ C ↔ z ∈ x :: C ∧ z ≠ x := fun {x C} h z => by
    have h1 := (List.pairwise_cons.1 h).1
    rw [List.mem_cons]
    constructor
    · intro hz
      refine ⟨.inr hz, fun e => ?_⟩
      subst e
      have := h1 z hz
      rw [cmpU_self] at this; cases this
    · rintro ⟨rfl | hz, hne⟩
      · exact absurd rfl hne
      · exact hz
  match A, B, hA, hB, h with
  | [], [], _, _, h => exact absurd ⟨rfl, rfl⟩ h
  | [], y :: B, _, hB, _ =>
    obtain ⟨h1, h2⟩ := List.pairwise_cons.1 hB
    refine ⟨by simp [leastU], by simp [leastU], .inr (by simp [leastU]), fun z => by simp [leastU], fun z => tl hB z, fun z hz hne => ?_⟩
    rcases hz with hz | hz
    · cases hz
    · rcases List.mem_cons.1 hz with e | hz
      · exact absurd e hne
      · exact h1 z hz
  | x :: A, [], hA, _, _ =>
    obtain ⟨h1, h2⟩ := List.pairwise_cons.1 hA
    refine ⟨by simp [leastU], by simp [leastU], .inl (by simp [leastU]), fun z => tl hA z, fun z => by simp [leastU], fun z hz hne => ?_⟩
    rcases hz with hz | hz
    · rcases List.mem_cons.1 hz with e | hz
      · exact absurd e hne
      · exact h1 z hz
    · cases hz
  | x :: A, y :: B, hA, hB, _ =>
    obtain ⟨h1, _⟩ := List.pairwise_cons.1 hA
    obtain ⟨h2, _⟩ := List.pairwise_cons.1 hB
    have h1' : ∀ z ∈ x :: A, cmpU x z ≤ 0 := fun z hz => by
      rcases List.mem_cons.1 hz with rfl | hz
      · rw [cmpU_self]; decide
      · rw [h1 z hz]; decide
    have h2' : ∀ z ∈ y :: B, cmpU y z ≤ 0 := fun z hz => by
      rcases List.mem_cons.1 hz with rfl | hz
      · rw [cmpU_self]; decide
      · rw [h2 z hz]; decide
    have lt : ∀ {u z : Su}, cmpU u z ≤ 0 → z ≠ u → cmpU u z = -1 := fun {u z} h hne => by
      rcases cmpU_vals u z with e | e | e
      · exact e
      · exact absurd (cmpU_zero.1 e).symm hne
      · omega
    by_cases hc : cmpU x y ≤ 0
    · have hL : leastU (x :: A) (y :: B) = (x, true, decide (cmpU x y = 0)) := by show (if cmpU x y ≤ 0 then _ else _) = _; rw [if_pos hc]
      rw [hL]
      have hxB : ∀ z ∈ y :: B, cmpU x z ≤ 0 := fun z hz => cmpU_trans hc (h2' z hz)
      have hin : (cmpU x y = 0) ↔ x ∈ y :: B := by
        constructor
        · intro e; rw [cmpU_zero.1 e]; exact List.mem_cons_self ..
        · intro hm
          have := h2' x hm
          have h3 := cmpU_neg x y
          omega
      refine ⟨by simp, by simp only [hin], .inl (List.mem_cons_self ..), fun z => tl hA z, fun z => ?_, fun z hz hne => ?_⟩
      · by_cases he : cmpU x y = 0
        · have := cmpU_zero.1 he
          subst this
          simp only [cmpU_self, decide_true, if_true]
          exact tl hB z
        · simp only [he, decide_false, Bool.false_eq_true, if_false]
          constructor
          · intro hz
            refine ⟨hz, fun e => he (hin.2 (e ▸ hz))⟩
          · exact fun h => h.1
      · rcases hz with hz | hz
        · exact lt (h1' z hz) hne
        · exact lt (hxB z hz) hne
    · have hL : leastU (x :: A) (y :: B) = (y, false, true) := by show (if cmpU x y ≤ 0 then _ else _) = _; rw [if_neg hc]
      rw [hL]
      have hyx : cmpU y x = -1 := by
        have := cmpU_neg x y
        rcases cmpU_vals x y with e | e | e <;> omega
      have hyA : ∀ z ∈ x :: A, cmpU y z = -1 := fun z hz => cmpU_ltle hyx (h1' z hz)
      have hin : y ∉ x :: A := fun hm => by
        have := hyA y hm
        rw [cmpU_self] at this; cases this
      refine ⟨by simp only [hin, decide_false], by simp, .inr (List.mem_cons_self ..), fun z => ?_, fun z => tl hB z, fun z hz hne => ?_⟩
      · simp only [Bool.false_eq_true, if_false]
        exact ⟨fun hz => ⟨hz, fun e => hin (e ▸ hz)⟩, fun h => h.1⟩
      · rcases hz with hz | hz
        · exact hyA z hz
        · exact lt (h2' z hz) hne
theorem asc_tail {A : List Su} (h : AscU A) : AscU A.tail := by
  cases A with
  | nil => exact h
  | cons x A => exact (List.pairwise_cons.1 h).2
theorem mrgN_spec (keep : Bool → Bool → Bool) : ∀ (n : Nat) (A B : List Su), AscU A → AscU B → A.length + B.length ≤ n →
    AscU (mrgN keep n A B) ∧ ∀ z, z ∈ mrgN keep n A B ↔ (z ∈ A ∨ z ∈ B) ∧ keep (decide (z ∈ A)) (decide (z ∈ B)) = true
  | 0, A, B, _, _, hl => by
    have h1 : A = [] := List.eq_nil_of_length_eq_zero (by omega)
    have h2 : B = [] := List.eq_nil_of_length_eq_zero (by omega)
    subst h1; subst h2
    exact ⟨List.Pairwise.nil, fun z => by simp [mrgN]⟩
  | n + 1, A, B, hA, hB, hl => by
    by_cases h0 : A = [] ∧ B = []
    · obtain ⟨rfl, rfl⟩ := h0
      rw [mrgN_nil]
      exact ⟨List.Pairwise.nil, fun z => by simp⟩
    · obtain ⟨f1, f2, f3, f4, f5, f6⟩ := least_fact hA hB h0
      have hA' : AscU (if (leastU A B).2.1 then A.tail else A) := by split; exact asc_tail hA; exact hA
      have hB' : AscU (if (leastU A B).2.2 then B.tail else B) := by split; exact asc_tail hB; exact hB
      have hlen : (if (leastU A B).2.1 then A.tail else A).length + (if (leastU A B).2.2 then B.tail else B).length ≤ n := by
        have k1 : A.tail.length = A.length - 1 := List.length_tail
        have k2 : B.tail.length = B.length - 1 := List.length_tail
        rcases f3 with h | h
        · have : 0 < A.length := List.length_pos_of_mem h
          rw [f1, decide_eq_true h, if_pos rfl, k1]
          split <;> omega
        · have : 0 < B.length := List.length_pos_of_mem h
          rw [f2, decide_eq_true h, if_pos rfl, k2]
          split <;> omega
      obtain ⟨i1, i2⟩ := mrgN_spec keep n _ _ hA' hB' hlen
      rw [mrgN, if_neg h0]
      generalize hA2 : (if (leastU A B).2.1 then A.tail else A) = A2 at *
      generalize hB2 : (if (leastU A B).2.2 then B.tail else B) = B2 at *
      generalize hM : mrgN keep n A2 B2 = M at *
      generalize hx : (leastU A B).1 = x at *
      rw [f1, f2]
      have hmem : ∀ z, z ∈ M → z ≠ x ∧ (z ∈ A ∨ z ∈ B) := fun z hz => by
        have := ((i2 z).1 hz).1
        rw [f4 z, f5 z] at this
        rcases this with h | h
        · exact ⟨h.2, .inl h.1⟩
        · exact ⟨h.2, .inr h.1⟩
      have key : ∀ z, z ∈ M ↔ z ≠ x ∧ (z ∈ A ∨ z ∈ B) ∧ keep (decide (z ∈ A)) (decide (z ∈ B)) = true := fun z => by
        rw [i2 z]
        simp only [f4 z, f5 z]
        by_cases hz : z = x
        · simp [hz]
        · simp [hz]
      refine ⟨?_, fun z => ?_⟩
      · split
        · exact List.pairwise_cons.2 ⟨fun z hz => f6 z (hmem z hz).2 (hmem z hz).1, i1⟩
        · exact i1
      · rw [List.mem_append, key z]
        by_cases hz : z = x
        · subst hz
          by_cases hk : keep (decide (z ∈ A)) (decide (z ∈ B)) = true
          · simp [hk, f3]
          · simp [hk]
        · by_cases hk : keep (decide (x ∈ A)) (decide (x ∈ B)) = true
          · simp [hk, hz]
          · simp [hk, hz]
def kMin (a b : Bool) : Bool := a && !b
def kBot (a b : Bool) : Bool := a && b
theorem mrg_min (A B : List Su) : mrgN kMin ((srt A).length + (srt B).length) (srt A) (srt B) = minU A B := by
  obtain ⟨h1, h2⟩ := mrgN_spec kMin _ (srt A) (srt B) (asc_srt A) (asc_srt B) (Nat.le_refl _)
  refine ascU_unique h1 (asc_minU _ _) fun z => ?_
  rw [h2, mem_minU]
  simp only [mem_srt]
  unfold kMin
  by_cases a : z ∈ A <;> by_cases b : z ∈ B <;> simp [a, b]
theorem mrg_bot (A B : List Su) : mrgN kBot ((srt A).length + (srt B).length) (srt A) (srt B) = botU A B := by
  obtain ⟨h1, h2⟩ := mrgN_spec kBot _ (srt A) (srt B) (asc_srt A) (asc_srt B) (Nat.le_refl _)
  refine ascU_unique h1 (asc_botU _ _) fun z => ?_
  rw [h2, mem_botU]
  simp only [mem_srt]
  unfold kBot
  by_cases a : z ∈ A <;> by_cases b : z ∈ B <;> simp [a, b]
/-- For the sort: by what is less. -/
theorem ltU_iff (x y : Su) : ltOf cmpU x y = true ↔ cmpU x y < 0 := decide_eq_true_iff
theorem nltU_iff (x y : Su) : ltOf cmpU x y = false ↔ cmpU y x ≤ 0 := by
  unfold ltOf
  rw [decide_eq_false_iff_not, cmpU_neg x y]
  omega
theorem swoU : SWO (ltOf cmpU) where
  irrefl x := by rw [nltU_iff, cmpU_self]; exact Int.le_refl _
  trans x y z h1 h2 := by
    rw [ltU_iff] at *
    have e : cmpU x y = -1 := by rcases cmpU_vals x y with e | e | e <;> omega
    have := cmpU_ltle e (show cmpU y z ≤ 0 by omega)
    omega
  ntrans x y z h1 h2 := by
    rw [nltU_iff] at *
    exact cmpU_trans h2 h1
theorem partedU (x y : Su) (h1 : ltOf cmpU x y = false) (h2 : ltOf cmpU y x = false) : x = y := by
  rw [nltU_iff] at h1 h2
  have := cmpU_neg x y
  exact cmpU_zero.1 (by omega)
theorem sortU_facts (D : List Su) : (D.mergeSort fun x y => !(ltOf cmpU) y x).Perm D ∧ (D.mergeSort fun x y => !(ltOf cmpU) y x).Pairwise fun x y => cmpU x y ≤ 0 := by
  refine ⟨List.mergeSort_perm D _, ?_⟩
  refine (List.pairwise_mergeSort (le := fun x y => !(ltOf cmpU) y x) (fun a b c h1 h2 => ?_) (fun a b => ?_) D).imp fun h => ?_
  · simp only [Bool.not_eq_true', nltU_iff] at *
    exact cmpU_trans h1 h2
  · simp only [Bool.or_eq_true, Bool.not_eq_true', nltU_iff]
    have := cmpU_neg a b
    omega
  · simpa [nltU_iff] using h
theorem of_srt (D : List Su) : Lib.compact (D.mergeSort fun x y => !(ltOf cmpU) y x) = srt D := by
  obtain ⟨h1, h2⟩ := sortU_facts D
  obtain ⟨h3, h4⟩ := compactU_srt _ h2
  exact srt_of h3 fun x => (h4 x).trans h1.mem_iff
end Go.Proofs.YtnkcehmgagpadaaDoor
