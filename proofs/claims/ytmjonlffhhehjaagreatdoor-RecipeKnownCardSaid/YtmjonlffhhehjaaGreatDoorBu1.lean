/- Plain laws of sets of sums: in order, each once; what one has and another has not; gone through two at a time; how many. No condition. -/
import Derived.Test.YtmjonlffhhehjaaGreatDoorBa1
import Derived.Lib.SlicesCompact
import Derived.Sort.LotA
import Derived.Shelf.SlSortCmp.Insertion
import Derived.Test.YtmjonlffhhehjaaGreatDoorBg1
import Derived.Laws.Rows
import Derived.Laws.AppendOwnNone
import Derived.Lib.LazyBuf
import Derived.StillTailTactics
import Derived.Laws.StructEq
import Derived.Laws.IdiomCopy
namespace Go.Proofs.YtmjonlffhhehjaaGreatDoor
open Go.RowKit Go.Sort
/-- A sum: thirty-two bytes. -/
abbrev Su := { x : List (BitVec 8) // x.length = 32 }
instance : Inhabited Su := ⟨⟨List.replicate 32 0, by simp⟩⟩
def cmpU (x y : Su) : Int := cmpL x.1 y.1
theorem cmpU_len (x y : Su) : x.1.length = y.1.length := x.2.trans y.2.symm
theorem cmpU_vals (x y : Su) : cmpU x y = -1 ∨ cmpU x y = 0 ∨ cmpU x y = 1 := cmpL_vals _ _
theorem cmpU_self (x : Su) : cmpU x x = 0 := cmpL_self _
theorem cmpU_zero {x y : Su} : cmpU x y = 0 ↔ x = y := (cmpL_zero (cmpU_len x y)).trans Subtype.ext_iff.symm
theorem cmpU_neg (x y : Su) : cmpU y x = - cmpU x y := cmpL_neg _ _ (cmpU_len x y)
theorem cmpU_trans {x y z : Su} (h1 : cmpU x y ≤ 0) (h2 : cmpU y z ≤ 0) : cmpU x z ≤ 0 := (cmpL_trans _ _ _ (cmpU_len x y) (cmpU_len y z)).1 h1 h2
theorem cmpU_ltle {x y z : Su} (h1 : cmpU x y = -1) (h2 : cmpU y z ≤ 0) : cmpU x z = -1 := by
  have h3 := (cmpL_trans _ _ _ (cmpU_len x y) (cmpU_len y z)).2 (show cmpU x y < 0 by omega) h2
  have h4 : cmpU x z < 0 := h3
  rcases cmpU_vals x z with h | h | h <;> omega
theorem cmpU_lelt {x y z : Su} (h1 : cmpU x y ≤ 0) (h2 : cmpU y z = -1) : cmpU x z = -1 := by
  have h3 := cmpU_trans h1 (show cmpU y z ≤ 0 by omega)
  rcases cmpU_vals x z with h | h | h
  · exact h
  · have e := cmpU_zero.1 h
    subst e
    have := cmpU_neg y x
    omega
  · omega
/-- Each ahead of the next ones. -/
abbrev AscU (R : List Su) : Prop := R.Pairwise fun x y => cmpU x y = -1
theorem cmpU_flip {x y : Su} (h : cmpU x y = -1) : cmpU y x = 1 := by rw [cmpU_neg, h]; rfl
theorem ascU_unique : ∀ {A B : List Su}, AscU A → AscU B → (∀ x, x ∈ A ↔ x ∈ B) → A = B
  | [], [], _, _, _ => rfl
  | [], b :: B, _, _, h => absurd ((h b).2 (List.mem_cons_self ..)) (by simp)
  | a :: A, [], _, _, h => absurd ((h a).1 (List.mem_cons_self ..)) (by simp)
  | a :: A, b :: B, ha, hb, h => by
    obtain ⟨ha1, ha2⟩ := List.pairwise_cons.1 ha
    obtain ⟨hb1, hb2⟩ := List.pairwise_cons.1 hb
    have hab : a = b := by
      rcases List.mem_cons.1 ((h a).1 (List.mem_cons_self ..)) with e | e
      · exact e
      · rcases List.mem_cons.1 ((h b).2 (List.mem_cons_self ..)) with e2 | e2
        · exact e2.symm
        · have h1 := ha1 b e2
          have h2 := hb1 a e
          rw [cmpU_flip h2] at h1
          cases h1
    subst hab
    have hn : ∀ {C : List Su}, (∀ x ∈ C, cmpU a x = -1) → a ∉ C := fun hc hm => by
      have h1 := hc a hm
      rw [cmpU_self] at h1
      cases h1
    rw [ascU_unique ha2 hb2 (fun x => ?_)]
    constructor
    · intro hx
      rcases List.mem_cons.1 ((h x).1 (List.mem_cons_of_mem _ hx)) with e | e
      · exact absurd (e ▸ hx) (hn ha1)
      · exact e
    · intro hx
      rcases List.mem_cons.1 ((h x).2 (List.mem_cons_of_mem _ hx)) with e | e
      · exact absurd (e ▸ hx) (hn hb1)
      · exact e
theorem compactU_inv (M : List Su) (h : M.Pairwise fun x y => cmpU x y ≤ 0) : ∀ m, m ≤ M.length → AscU (Lib.compactUpTo M.toArray m) ∧ ∀ x, x ∈ Lib.compactUpTo M.toArray m ↔ x ∈ M.take m := by
  intro m
  induction m with
  | zero => intro _; exact ⟨by simp [Lib.compactUpTo], by simp [Lib.compactUpTo]⟩
  | succ m ih =>
    intro hm
    obtain ⟨i1, i2⟩ := ih (by omega)
    have hget : M.toArray[m]! = M[m] := getElem!_pos M.toArray m (by simpa using (show m < M.length by omega))
    have htk : M.take (m + 1) = M.take m ++ [M[m]] := by rw [List.take_add_one, List.getElem?_eq_getElem (show m < M.length by omega)]; rfl
    have hle : ∀ x ∈ M.take m, cmpU x M[m] ≤ 0 := fun x hx => by
      have h2 : (M.take (m + 1)).Pairwise fun x y => cmpU x y ≤ 0 := h.sublist (List.take_sublist _ _)
      rw [htk, List.pairwise_append] at h2
      exact h2.2.2 x hx M[m] (by simp)
    rw [Lib.compactUpTo_succ, htk]
    cases hk : Lib.keeps M.toArray m with
    | false =>
      unfold Lib.keeps at hk
      have hk2 := of_decide_eq_false hk
      have hm0 : m ≠ 0 := fun e => hk2 (.inl e)
      have he : M.toArray[m]! = M.toArray[m - 1]! := Classical.byContradiction fun e => hk2 (.inr e)
      rw [hget, getElem!_pos M.toArray (m - 1) (by simpa using (show m - 1 < M.length by omega))] at he
      have hin : M[m] ∈ M.take m := by
        rw [he, List.getElem_toArray]
        exact List.mem_take_iff_getElem.2 ⟨m - 1, by omega, rfl⟩
      simp only [Bool.false_eq_true, if_false, List.append_nil]
      refine ⟨i1, fun x => (i2 x).trans ⟨fun hx => List.mem_append_left _ hx, fun hx => ?_⟩⟩
      rcases List.mem_append.1 hx with e | e
      · exact e
      · rw [List.mem_singleton.1 e]; exact hin
    | true =>
      unfold Lib.keeps at hk
      have hk2 := of_decide_eq_true hk
      rw [if_pos rfl, hget]
      refine ⟨?_, fun x => by rw [List.mem_append, List.mem_append, i2 x]⟩
      refine List.pairwise_append.2 ⟨i1, by simp, fun x hx y hy => ?_⟩
      rw [List.mem_singleton.1 hy]
      have hx2 := (i2 x).1 hx
      have hl := hle x hx2
      rcases cmpU_vals x M[m] with e | e | e
      · exact e
      · exfalso
        have hxe := cmpU_zero.1 e
        obtain ⟨j, hj, hxj⟩ := List.mem_take_iff_getElem.1 hx2
        have hm0 : m ≠ 0 := by omega
        have hne : M.toArray[m]! ≠ M.toArray[m - 1]! := hk2.resolve_left hm0
        rw [hget, getElem!_pos M.toArray (m - 1) (by simpa using (show m - 1 < M.length by omega)), List.getElem_toArray] at hne
        have h1 : cmpU M[m - 1] M[m] ≤ 0 := hle _ (List.mem_take_iff_getElem.2 ⟨m - 1, by omega, rfl⟩)
        have h2 : cmpU x M[m - 1] ≤ 0 := by
          by_cases hjm : j = m - 1
          · subst hjm; rw [← hxj, cmpU_self]; exact Int.le_refl _
          · have := List.pairwise_iff_getElem.1 h j (m - 1) (by omega) (by omega) (by omega)
            rw [← hxj]; exact this
        rw [hxe] at h2
        have h3 := cmpU_neg M[m] M[m - 1]
        exact hne (cmpU_zero.1 (by omega))
      · omega
theorem compactU_srt (M : List Su) (h : M.Pairwise fun x y => cmpU x y ≤ 0) : AscU (Lib.compact M) ∧ ∀ x, x ∈ Lib.compact M ↔ x ∈ M := by
  have := compactU_inv M h M.length (Nat.le_refl _)
  rw [List.take_length] at this
  exact this

theorem asc_next {L : List Su} (h : ∀ i (hi : i + 1 < L.length), cmpU L[i] L[i + 1] = -1) : AscU L := by
  refine List.pairwise_iff_getElem.2 fun i j hi hj hij => ?_
  obtain ⟨d, rfl⟩ : ∃ d, j = i + 1 + d := ⟨j - (i + 1), by omega⟩
  clear hij
  induction d with
  | zero => exact h i hj
  | succ d ih => exact cmpU_ltle (ih (by omega)) (by have := h (i + 1 + d) (by omega); show cmpU L[i + 1 + d] L[i + 1 + d + 1] ≤ 0; omega)
theorem asc_at {L : List Su} (h : AscU L) (i : Nat) (hi : i + 1 < L.length) : cmpU L[i] L[i + 1] = -1 := List.pairwise_iff_getElem.1 h i (i + 1) (by omega) hi (by omega)
theorem asc_nodup {L : List Su} (h : AscU L) : L.Nodup := h.imp fun h e => by subst e; rw [cmpU_self] at h; cases h
/-- One is put in. -/
def putU (x : Su) : List Su → List Su
  | [] => [x]
  | y :: R => if cmpU x y = -1 then x :: y :: R else if x = y then y :: R else y :: putU x R
theorem mem_putU (x z : Su) : ∀ R : List Su, z ∈ putU x R ↔ z = x ∨ z ∈ R
  | [] => by simp [putU]
  | y :: R => by
    unfold putU
    split
    · simp
    · split
      · rename_i h; subst h; simp
      · rw [List.mem_cons, mem_putU x z R, List.mem_cons]
        constructor
        · rintro (h | h | h)
          · exact .inr (.inl h)
          · exact .inl h
          · exact .inr (.inr h)
        · rintro (h | h | h)
          · exact .inr (.inl h)
          · exact .inl h
          · exact .inr (.inr h)
theorem asc_putU (x : Su) : ∀ R : List Su, AscU R → AscU (putU x R)
  | [], _ => by simp [putU]
  | y :: R, h => by
    obtain ⟨h1, h2⟩ := List.pairwise_cons.1 h
    unfold putU
    split
    · rename_i hx
      refine List.pairwise_cons.2 ⟨fun z hz => ?_, h⟩
      rcases List.mem_cons.1 hz with rfl | hz
      · exact hx
      · exact cmpU_ltle hx (by rw [h1 z hz]; decide)
    · split
      · exact h
      · rename_i hx hne
        refine List.pairwise_cons.2 ⟨fun z hz => ?_, asc_putU x R h2⟩
        rcases (mem_putU x z R).1 hz with rfl | hz
        · have := cmpU_neg z y
          rcases cmpU_vals z y with e | e | e
          · exact absurd e hx
          · exact absurd (cmpU_zero.1 e) hne
          · omega
        · exact h1 z hz
theorem len_putU (x : Su) : ∀ R : List Su, x ∉ R → (putU x R).length = R.length + 1
  | [], _ => rfl
  | y :: R, h => by
    unfold putU
    split
    · rfl
    · split
      · rename_i e; exact absurd (e ▸ List.mem_cons_self ..) h
      · rw [List.length_cons, len_putU x R (fun hm => h (List.mem_cons_of_mem _ hm)), List.length_cons]
/-- What Of answers: each once, in order. -/
def srt (L : List Su) : List Su := L.foldr putU []
theorem asc_srt : ∀ L : List Su, AscU (srt L)
  | [] => List.Pairwise.nil
  | x :: L => asc_putU x _ (asc_srt L)
theorem mem_srt {x : Su} : ∀ {L : List Su}, x ∈ srt L ↔ x ∈ L
  | [] => Iff.rfl
  | y :: L => by
    show x ∈ putU y (srt L) ↔ _
    rw [mem_putU, mem_srt, List.mem_cons]
theorem srt_of {L R : List Su} (h : AscU R) (hm : ∀ x, x ∈ R ↔ x ∈ L) : R = srt L := ascU_unique h (asc_srt L) fun x => (hm x).trans mem_srt.symm
theorem srt_congr {L M : List Su} (hm : ∀ x, x ∈ L ↔ x ∈ M) : srt L = srt M := srt_of (asc_srt L) fun x => mem_srt.trans (hm x)
theorem srt_asc {L : List Su} (h : AscU L) : srt L = L := (srt_of h fun _ => Iff.rfl).symm
theorem srt_srt (L : List Su) : srt (srt L) = srt L := srt_asc (asc_srt L)
theorem len_srt : ∀ {L : List Su}, L.Nodup → (srt L).length = L.length
  | [], _ => rfl
  | x :: L, h => by
    obtain ⟨h1, h2⟩ := List.nodup_cons.1 h
    show (putU x (srt L)).length = _
    rw [len_putU x _ (fun hm => h1 (mem_srt.1 hm)), len_srt h2, List.length_cons]
theorem len_put_le (x : Su) : ∀ R : List Su, (putU x R).length ≤ R.length + 1
  | [] => Nat.le_refl _
  | y :: R => by
    unfold putU
    split
    · exact Nat.le_refl _
    · split
      · exact Nat.le_succ _
      · have := len_put_le x R; simp only [List.length_cons]; omega
theorem len_srt_le : ∀ L : List Su, (srt L).length ≤ L.length
  | [] => Nat.le_refl _
  | x :: L => by have := len_srt_le L; have h2 := len_put_le x (srt L); show (putU x (srt L)).length ≤ _; simp only [List.length_cons]; omega
theorem len_same {A B : List Su} (hA : A.Nodup) (hB : B.Nodup) (h : ∀ x, x ∈ A ↔ x ∈ B) : A.length = B.length := by rw [← len_srt hA, ← len_srt hB, srt_congr h]
/-- What one has more, what both have, what one of both has. -/
def minU (A B : List Su) : List Su := srt (A.filter fun x => !decide (x ∈ B))
def botU (A B : List Su) : List Su := srt (A.filter fun x => decide (x ∈ B))
def eitU (A B : List Su) : List Su := srt (A ++ B)
theorem mem_minU {A B : List Su} {x : Su} : x ∈ minU A B ↔ x ∈ A ∧ x ∉ B := by unfold minU; rw [mem_srt, List.mem_filter]; simp
theorem mem_botU {A B : List Su} {x : Su} : x ∈ botU A B ↔ x ∈ A ∧ x ∈ B := by unfold botU; rw [mem_srt, List.mem_filter]; simp
theorem mem_eitU {A B : List Su} {x : Su} : x ∈ eitU A B ↔ x ∈ A ∨ x ∈ B := by unfold eitU; rw [mem_srt, List.mem_append]
theorem asc_minU (A B : List Su) : AscU (minU A B) := asc_srt _
theorem asc_botU (A B : List Su) : AscU (botU A B) := asc_srt _
theorem asc_eitU (A B : List Su) : AscU (eitU A B) := asc_srt _
theorem len_minU (A B : List Su) : (minU A B).length ≤ A.length := Nat.le_trans (len_srt_le _) (List.length_filter_le _ _)
theorem len_botU (A B : List Su) : (botU A B).length ≤ A.length := Nat.le_trans (len_srt_le _) (List.length_filter_le _ _)
theorem len_eitU (A B : List Su) : (eitU A B).length ≤ A.length + B.length := Nat.le_trans (len_srt_le _) (by rw [List.length_append]; exact Nat.le_refl _)
/-- How many there are, apart and together. -/
theorem len_apart {A B : List Su} (hA : AscU A) : (minU A B).length + (botU A B).length + (minU B A).length = (eitU A B).length := by
  have hn : (A ++ minU B A).Nodup := List.nodup_append.2 ⟨asc_nodup hA, asc_nodup (asc_minU _ _), fun x hx y hy e => by
    subst e; exact (mem_minU.1 hy).2 hx⟩
  have h1 : (A ++ minU B A).length = (eitU A B).length := len_same hn (asc_nodup (asc_eitU _ _)) fun x => by
    rw [List.mem_append, mem_minU, mem_eitU]
    constructor
    · rintro (h | h)
      · exact .inl h
      · exact .inr h.1
    · rintro (h | h)
      · exact .inl h
      · by_cases hx : x ∈ A
        · exact .inl hx
        · exact .inr ⟨h, hx⟩
  have hn2 : (minU A B ++ botU A B).Nodup := List.nodup_append.2 ⟨asc_nodup (asc_minU _ _), asc_nodup (asc_botU _ _), fun x hx y hy e => by
    subst e; exact (mem_minU.1 hx).2 (mem_botU.1 hy).2⟩
  have h2 : (minU A B ++ botU A B).length = A.length := len_same hn2 (asc_nodup hA) fun x => by
    rw [List.mem_append, mem_minU, mem_botU]
    constructor
    · rintro (h | h) <;> exact h.1
    · intro h
      by_cases hx : x ∈ B
      · exact .inr ⟨h, hx⟩
      · exact .inl ⟨h, hx⟩
  rw [List.length_append] at h1 h2
  omega
/-- The least of two sets that rise, and in which of them it is. -/
def leastU : List Su → List Su → Su × Bool × Bool
  | [], [] => (default, false, false)
  | [], y :: _ => (y, false, true)
  | x :: _, [] => (x, true, false)
  | x :: _, y :: _ => if cmpU x y ≤ 0 then (x, true, decide (cmpU x y = 0)) else (y, false, true)
def mrgN (keep : Bool → Bool → Bool) : Nat → List Su → List Su → List Su
  | 0, _, _ => []
  | n + 1, A, B => if A = [] ∧ B = [] then [] else
      (if keep (leastU A B).2.1 (leastU A B).2.2 then [(leastU A B).1] else []) ++ mrgN keep n (if (leastU A B).2.1 then A.tail else A) (if (leastU A B).2.2 then B.tail else B)
theorem mrgN_nil (keep : Bool → Bool → Bool) : ∀ n, mrgN keep n [] [] = []
  | 0 => rfl
  | _ + 1 => by simp [mrgN]
/-- What is told of the least. -/
theorem least_fact {A B : List Su} (hA : AscU A) (hB : AscU B) (h : ¬ (A = [] ∧ B = [])) :
    ((leastU A B).2.1 = decide ((leastU A B).1 ∈ A)) ∧ ((leastU A B).2.2 = decide ((leastU A B).1 ∈ B)) ∧ ((leastU A B).1 ∈ A ∨ (leastU A B).1 ∈ B) ∧
    (∀ z, z ∈ (if (leastU A B).2.1 then A.tail else A) ↔ z ∈ A ∧ z ≠ (leastU A B).1) ∧ (∀ z, z ∈ (if (leastU A B).2.2 then B.tail else B) ↔ z ∈ B ∧ z ≠ (leastU A B).1) ∧
    (∀ z, (z ∈ A ∨ z ∈ B) → z ≠ (leastU A B).1 → cmpU (leastU A B).1 z = -1) := by
  have tl : ∀ {x : Su} {C : List Su}, AscU (x :: C) → ∀ z, z ∈ C ↔ z ∈ x :: C ∧ z ≠ x := fun {x C} h z => by
    have h1 := (List.pairwise_cons.1 h).1
    rw [List.mem_cons]
    constructor
    · intro hz
      refine ⟨.inr hz, fun e => ?_⟩
      subst e
      have := h1 z hz
      rw [cmpU_self] at this; cases this
    · rintro ⟨rfl | hz, hne⟩
      · exact absurd rfl hne
      · exact hz
  match A, B, hA, hB, h with
  | [], [], _, _, h => exact absurd ⟨rfl, rfl⟩ h
  | [], y :: B, _, hB, _ =>
    obtain ⟨h1, h2⟩ := List.pairwise_cons.1 hB
    refine ⟨by simp [leastU], by simp [leastU], .inr (by simp [leastU]), fun z => by simp [leastU], fun z => tl hB z, fun z hz hne => ?_⟩
    rcases hz with hz | hz
    · cases hz
    · rcases List.mem_cons.1 hz with e | hz
      · exact absurd e hne
      · exact h1 z hz
  | x :: A, [], hA, _, _ =>
    obtain ⟨h1, h2⟩ := List.pairwise_cons.1 hA
    refine ⟨by simp [leastU], by simp [leastU], .inl (by simp [leastU]), fun z => tl hA z, fun z => by simp [leastU], fun z hz hne => ?_⟩
    rcases hz with hz | hz
    · rcases List.mem_cons.1 hz with e | hz
      · exact absurd e hne
      · exact h1 z hz
    · cases hz
  | x :: A, y :: B, hA, hB, _ =>
    obtain ⟨h1, _⟩ := List.pairwise_cons.1 hA
    obtain ⟨h2, _⟩ := List.pairwise_cons.1 hB
    have h1' : ∀ z ∈ x :: A, cmpU x z ≤ 0 := fun z hz => by
      rcases List.mem_cons.1 hz with rfl | hz
      · rw [cmpU_self]; decide
      · rw [h1 z hz]; decide
    have h2' : ∀ z ∈ y :: B, cmpU y z ≤ 0 := fun z hz => by
      rcases List.mem_cons.1 hz with rfl | hz
      · rw [cmpU_self]; decide
      · rw [h2 z hz]; decide
    have lt : ∀ {u z : Su}, cmpU u z ≤ 0 → z ≠ u → cmpU u z = -1 := fun {u z} h hne => by
      rcases cmpU_vals u z with e | e | e
      · exact e
      · exact absurd (cmpU_zero.1 e).symm hne
      · omega
    by_cases hc : cmpU x y ≤ 0
    · have hL : leastU (x :: A) (y :: B) = (x, true, decide (cmpU x y = 0)) := by show (if cmpU x y ≤ 0 then _ else _) = _; rw [if_pos hc]
      rw [hL]
      have hxB : ∀ z ∈ y :: B, cmpU x z ≤ 0 := fun z hz => cmpU_trans hc (h2' z hz)
      have hin : (cmpU x y = 0) ↔ x ∈ y :: B := by
        constructor
        · intro e; rw [cmpU_zero.1 e]; exact List.mem_cons_self ..
        · intro hm
          have := h2' x hm
          have h3 := cmpU_neg x y
          omega
      refine ⟨by simp, by simp only [hin], .inl (List.mem_cons_self ..), fun z => tl hA z, fun z => ?_, fun z hz hne => ?_⟩
      · by_cases he : cmpU x y = 0
        · have := cmpU_zero.1 he
          subst this
          simp only [cmpU_self, decide_true, if_true]
          exact tl hB z
        · simp only [he, decide_false, Bool.false_eq_true, if_false]
          constructor
          · intro hz
            refine ⟨hz, fun e => he (hin.2 (e ▸ hz))⟩
          · exact fun h => h.1
      · rcases hz with hz | hz
        · exact lt (h1' z hz) hne
        · exact lt (hxB z hz) hne
    · have hL : leastU (x :: A) (y :: B) = (y, false, true) := by show (if cmpU x y ≤ 0 then _ else _) = _; rw [if_neg hc]
      rw [hL]
      have hyx : cmpU y x = -1 := by
        have := cmpU_neg x y
        rcases cmpU_vals x y with e | e | e <;> omega
      have hyA : ∀ z ∈ x :: A, cmpU y z = -1 := fun z hz => cmpU_ltle hyx (h1' z hz)
      have hin : y ∉ x :: A := fun hm => by
        have := hyA y hm
        rw [cmpU_self] at this; cases this
      refine ⟨by simp only [hin, decide_false], by simp, .inr (List.mem_cons_self ..), fun z => ?_, fun z => tl hB z, fun z hz hne => ?_⟩
      · simp only [Bool.false_eq_true, if_false]
        exact ⟨fun hz => ⟨hz, fun e => hin (e ▸ hz)⟩, fun h => h.1⟩
      · rcases hz with hz | hz
        · exact hyA z hz
        · exact lt (h2' z hz) hne
theorem asc_tail {A : List Su} (h : AscU A) : AscU A.tail := by
  cases A with
  | nil => exact h
  | cons x A => exact (List.pairwise_cons.1 h).2
theorem mrgN_spec (keep : Bool → Bool → Bool) : ∀ (n : Nat) (A B : List Su), AscU A → AscU B → A.length + B.length ≤ n →
    AscU (mrgN keep n A B) ∧ ∀ z, z ∈ mrgN keep n A B ↔ (z ∈ A ∨ z ∈ B) ∧ keep (decide (z ∈ A)) (decide (z ∈ B)) = true
  | 0, A, B, _, _, hl => by
    have h1 : A = [] := List.eq_nil_of_length_eq_zero (by omega)
    have h2 : B = [] := List.eq_nil_of_length_eq_zero (by omega)
    subst h1; subst h2
    exact ⟨List.Pairwise.nil, fun z => by simp [mrgN]⟩
  | n + 1, A, B, hA, hB, hl => by
    by_cases h0 : A = [] ∧ B = []
    · obtain ⟨rfl, rfl⟩ := h0
      rw [mrgN_nil]
      exact ⟨List.Pairwise.nil, fun z => by simp⟩
    · obtain ⟨f1, f2, f3, f4, f5, f6⟩ := least_fact hA hB h0
      have hA' : AscU (if (leastU A B).2.1 then A.tail else A) := by split; exact asc_tail hA; exact hA
      have hB' : AscU (if (leastU A B).2.2 then B.tail else B) := by split; exact asc_tail hB; exact hB
      have hlen : (if (leastU A B).2.1 then A.tail else A).length + (if (leastU A B).2.2 then B.tail else B).length ≤ n := by
        have k1 : A.tail.length = A.length - 1 := List.length_tail
        have k2 : B.tail.length = B.length - 1 := List.length_tail
        rcases f3 with h | h
        · have : 0 < A.length := List.length_pos_of_mem h
          rw [f1, decide_eq_true h, if_pos rfl, k1]
          split <;> omega
        · have : 0 < B.length := List.length_pos_of_mem h
          rw [f2, decide_eq_true h, if_pos rfl, k2]
          split <;> omega
      obtain ⟨i1, i2⟩ := mrgN_spec keep n _ _ hA' hB' hlen
      rw [mrgN, if_neg h0]
      generalize hA2 : (if (leastU A B).2.1 then A.tail else A) = A2 at *
      generalize hB2 : (if (leastU A B).2.2 then B.tail else B) = B2 at *
      generalize hM : mrgN keep n A2 B2 = M at *
      generalize hx : (leastU A B).1 = x at *
      rw [f1, f2]
      have hmem : ∀ z, z ∈ M → z ≠ x ∧ (z ∈ A ∨ z ∈ B) := fun z hz => by
        have := ((i2 z).1 hz).1
        rw [f4 z, f5 z] at this
        rcases this with h | h
        · exact ⟨h.2, .inl h.1⟩
        · exact ⟨h.2, .inr h.1⟩
      have key : ∀ z, z ∈ M ↔ z ≠ x ∧ (z ∈ A ∨ z ∈ B) ∧ keep (decide (z ∈ A)) (decide (z ∈ B)) = true := fun z => by
        rw [i2 z]
        simp only [f4 z, f5 z]
        by_cases hz : z = x
        · simp [hz]
        · simp [hz]
      refine ⟨?_, fun z => ?_⟩
      · split
        · exact List.pairwise_cons.2 ⟨fun z hz => f6 z (hmem z hz).2 (hmem z hz).1, i1⟩
        · exact i1
      · rw [List.mem_append, key z]
        by_cases hz : z = x
        · subst hz
          by_cases hk : keep (decide (z ∈ A)) (decide (z ∈ B)) = true
          · simp [hk, f3]
          · simp [hk]
        · by_cases hk : keep (decide (x ∈ A)) (decide (x ∈ B)) = true
          · simp [hk, hz]
          · simp [hk, hz]
def kMin (a b : Bool) : Bool := a && !b
def kBot (a b : Bool) : Bool := a && b
def kEit (a b : Bool) : Bool := a || b
theorem mrg_min (A B : List Su) : mrgN kMin ((srt A).length + (srt B).length) (srt A) (srt B) = minU A B := by
  obtain ⟨h1, h2⟩ := mrgN_spec kMin _ (srt A) (srt B) (asc_srt A) (asc_srt B) (Nat.le_refl _)
  refine ascU_unique h1 (asc_minU _ _) fun z => ?_
  rw [h2, mem_minU]
  simp only [mem_srt]
  unfold kMin
  by_cases a : z ∈ A <;> by_cases b : z ∈ B <;> simp [a, b]
theorem mrg_bot (A B : List Su) : mrgN kBot ((srt A).length + (srt B).length) (srt A) (srt B) = botU A B := by
  obtain ⟨h1, h2⟩ := mrgN_spec kBot _ (srt A) (srt B) (asc_srt A) (asc_srt B) (Nat.le_refl _)
  refine ascU_unique h1 (asc_botU _ _) fun z => ?_
  rw [h2, mem_botU]
  simp only [mem_srt]
  unfold kBot
  by_cases a : z ∈ A <;> by_cases b : z ∈ B <;> simp [a, b]
theorem mrg_eit (A B : List Su) : mrgN kEit ((srt A).length + (srt B).length) (srt A) (srt B) = eitU A B := by
  obtain ⟨h1, h2⟩ := mrgN_spec kEit _ (srt A) (srt B) (asc_srt A) (asc_srt B) (Nat.le_refl _)
  refine ascU_unique h1 (asc_eitU _ _) fun z => ?_
  rw [h2, mem_eitU]
  simp only [mem_srt]
  unfold kEit
  by_cases a : z ∈ A <;> by_cases b : z ∈ B <;> simp [a, b]
/-- For the sort: by what is less. -/
theorem ltU_iff (x y : Su) : ltOf cmpU x y = true ↔ cmpU x y < 0 := decide_eq_true_iff
theorem nltU_iff (x y : Su) : ltOf cmpU x y = false ↔ cmpU y x ≤ 0 := by
  unfold ltOf
  rw [decide_eq_false_iff_not, cmpU_neg x y]
  omega
theorem swoU : SWO (ltOf cmpU) where
  irrefl x := by rw [nltU_iff, cmpU_self]; exact Int.le_refl _
  trans x y z h1 h2 := by
    rw [ltU_iff] at *
    have e : cmpU x y = -1 := by rcases cmpU_vals x y with e | e | e <;> omega
    have := cmpU_ltle e (show cmpU y z ≤ 0 by omega)
    omega
  ntrans x y z h1 h2 := by
    rw [nltU_iff] at *
    exact cmpU_trans h2 h1
theorem partedU (x y : Su) (h1 : ltOf cmpU x y = false) (h2 : ltOf cmpU y x = false) : x = y := by
  rw [nltU_iff] at h1 h2
  have := cmpU_neg x y
  exact cmpU_zero.1 (by omega)
theorem sortU_facts (D : List Su) : (D.mergeSort fun x y => !(ltOf cmpU) y x).Perm D ∧ (D.mergeSort fun x y => !(ltOf cmpU) y x).Pairwise fun x y => cmpU x y ≤ 0 := by
  refine ⟨List.mergeSort_perm D _, ?_⟩
  refine (List.pairwise_mergeSort (le := fun x y => !(ltOf cmpU) y x) (fun a b c h1 h2 => ?_) (fun a b => ?_) D).imp fun h => ?_
  · simp only [Bool.not_eq_true', nltU_iff] at *
    exact cmpU_trans h1 h2
  · simp only [Bool.or_eq_true, Bool.not_eq_true', nltU_iff]
    have := cmpU_neg a b
    omega
  · simpa [nltU_iff] using h
theorem of_srt (D : List Su) : Lib.compact (D.mergeSort fun x y => !(ltOf cmpU) y x) = srt D := by
  obtain ⟨h1, h2⟩ := sortU_facts D
  obtain ⟨h3, h4⟩ := compactU_srt _ h2
  exact srt_of h3 fun x => (h4 x).trans h1.mem_iff
end Go.Proofs.YtmjonlffhhehjaaGreatDoor
/- Rows of sums in memory: thirty-two cells a sum; a sum loaded, a row of one made, rows put behind, cut. No condition. -/
namespace Go.Proofs.YtmjonlffhhehjaaGreatDoor
open Go.RowKit
def encU (x : Su) : List Value := x.1.map u8v
theorem encU_len (x : Su) : (encU x).length = 32 := by unfold encU; rw [List.length_map]; exact x.2
theorem encU_one (x : Su) : ∀ v ∈ encU x, v.oneCell' = true := fun v hv => by
  obtain ⟨y, _, rfl⟩ := List.mem_map.1 hv; rfl
theorem encU_all (x : Su) : (encU x).toArray.all (·.oneCell') = true := u8v_one _
theorem encU_size (x : Su) : (encU x).toArray.size = 32 := by simpa using encU_len x
def rowU (L : List Su) : List Value := L.flatMap encU
theorem rowU_len : ∀ L : List Su, (rowU L).length = L.length * 32
  | [] => rfl
  | x :: L => by
    have h : rowU (x :: L) = encU x ++ rowU L := rfl
    rw [h, List.length_append, encU_len, rowU_len L, List.length_cons]; omega
theorem rowU_app (A B : List Su) : rowU (A ++ B) = rowU A ++ rowU B := List.flatMap_append
theorem rowU_one (x : Su) : rowU [x] = encU x := by unfold rowU; simp
theorem rowU_take (L : List Su) (k : Nat) : (rowU L).take (k * 32) = rowU (L.take k) := by
  by_cases h : k ≤ L.length
  · conv => lhs; rw [← List.take_append_drop k L, rowU_app]
    rw [List.take_append_of_le_length (by rw [rowU_len, List.length_take]; omega), List.take_of_length_le (by rw [rowU_len, List.length_take]; omega)]
  · rw [List.take_of_length_le (by rw [rowU_len]; omega), List.take_of_length_le (by omega)]
theorem rowU_drop (L : List Su) (k : Nat) : (rowU L).drop (k * 32) = rowU (L.drop k) := by
  by_cases h : k ≤ L.length
  · conv => lhs; rw [← List.take_append_drop k L, rowU_app]
    rw [List.drop_append_of_le_length (by rw [rowU_len, List.length_take]; omega), List.drop_of_length_le (by rw [rowU_len, List.length_take]; omega), List.nil_append]
  · rw [List.drop_of_length_le (by rw [rowU_len]; omega), List.drop_of_length_le (by omega)]; rfl
theorem rowU_get (L : List Su) (i : Nat) (h : i < L.length) (j : Nat) (hj : j < 32) : (rowU L)[i * 32 + j]? = (encU L[i])[j]? := by
  have e : rowU L = rowU (L.take i) ++ (encU L[i] ++ rowU (L.drop (i + 1))) := by
    conv => lhs; rw [← List.take_append_drop i L, List.drop_eq_getElem_cons h, rowU_app]
    rfl
  have hl : (rowU (L.take i)).length = i * 32 := by rw [rowU_len, List.length_take]; omega
  rw [e, List.getElem?_append_right (by omega), hl, List.getElem?_append_left (by rw [encU_len]; omega)]
  congr 1; omega
theorem rowU_one' (L : List Su) : ∀ v ∈ rowU L, v.oneCell' = true := fun v hv => by
  obtain ⟨x, _, hx⟩ := List.mem_flatMap.1 hv
  exact encU_one x v hx
/-- A type of slices of sums, the type of its sums. -/
def ElT (T E : TypeId) : Prop := Tryz.prog.underlying T = some (.slice E) ∧ Tryz.prog.underlying E = some (.array 32 5) ∧ (Tryz.prog.info? E).map (fun i => (i.zero, i.size, i.bytes)) = some (some (.agg (Array.replicate 32 (.int .u8 0))), 32, 32)
/-- A slice in memory reads as these sums. -/
def Ss (w : World) (b : Nat) (q : Option Addr) (L : List Su) : Prop := Sees w b q (rowU L)
theorem Ss.el {w : World} {b : Nat} {q : Option Addr} {L : List Su} (h : Ss w b q L) {i : Nat} (hi : i < L.length) :
    ∃ a : Addr, q = some a ∧ a.block < b ∧ ∀ w', Below b w w' → ∀ j u, (encU L[i])[j]? = some u → w'.cell? ((a.add (i * 32)).add j) = some u := by
  obtain ⟨a, rfl, hb, hc⟩ := h.get (by rw [rowU_len]; omega)
  refine ⟨a, rfl, hb, fun w' hw j u hu => ?_⟩
  have hj : j < 32 := by have := (List.getElem?_eq_some_iff.1 hu).1; rwa [encU_len] at this
  rw [add_add, hw.cell (by rw [add_block]; exact hb)]
  exact hc _ u (by rw [rowU_get L i hi j hj]; exact hu)
/-- The value reads as these sums. -/
def Us (w : World) (v : Value) (L : List Su) : Prop := ∃ q c, v = .slice q L.length c ∧ L.length ≤ c ∧ (q = none → c = 0) ∧ Sees w w.heap.size q (rowU L)
theorem Us.keep {w w' : World} {v : Value} {L : List Su} (h : Us w v L) (hb : Below w.heap.size w w') : Us w' v L := by
  obtain ⟨q, c, h1, h2, h3, h4⟩ := h
  exact ⟨q, c, h1, h2, h3, (h4.keep hb).more hb.size⟩
theorem Us.drew {w : World} {v : Value} {L : List Su} (h : Us w v L) : Us w.drew v L := h
theorem Us.nil (w : World) : Us w (.slice none 0 0) [] := ⟨none, 0, rfl, Nat.le_refl _, fun _ => rfl, Sees.nil _ _ _⟩
/-- A row of the call's own. -/
def OwnU (w : World) (base : Nat) (E : TypeId) (v : Value) (L : List Su) : Prop := w.ownsRow base E 32 v L.length (rowU L)
theorem OwnU.nil (w : World) (base : Nat) (E : TypeId) : OwnU w base E (.slice none 0 0) [] := World.ownsRow_nil w base E 32
theorem OwnU.empty (w : World) (base : Nat) (E : TypeId) (hb : base ≤ w.heap.size) : OwnU (w.alloc (.cells #[] E)) base E (.slice (some ⟨w.heap.size, 0, none⟩) 0 0) [] :=
  World.ownsRow_made w #[] 0 hb (Nat.zero_le _) (by simp)
theorem OwnU.base {w : World} {base : Nat} {E : TypeId} {v : Value} {L : List Su} (h : OwnU w base E v L) : ∀ j, Value.ownBlock v = some j → base ≤ j := fun j hj => (World.ownsRow.lt h j hj).1
theorem OwnU.keep {w w' : World} {base : Nat} {E : TypeId} {v : Value} {L : List Su} (h : OwnU w base E v L) (hb : Below w.heap.size w w') : OwnU w' base E v L := by
  rcases h.2 with ⟨rfl, h0⟩ | ⟨g', cap, cur, rfl, hb', hg', h1, h2, h3, h4⟩
  · exact ⟨h.1, .inl ⟨rfl, h0⟩⟩
  · exact ⟨h.1, .inr ⟨g', cap, cur, rfl, hb', (hb.block g' (Array.getElem?_eq_some_iff.1 hg').1).trans hg', h1, h2, h3, h4⟩⟩
theorem OwnU.less {w : World} {b base : Nat} {E : TypeId} {v : Value} {L : List Su} (h : OwnU w base E v L) (hb : b ≤ base) : OwnU w b E v L := by
  rcases h.2 with ⟨rfl, h0⟩ | ⟨g', cap, cur, rfl, hb', r⟩
  · exact ⟨h.1, .inl ⟨rfl, h0⟩⟩
  · exact ⟨h.1, .inr ⟨g', cap, cur, rfl, by omega, r⟩⟩
theorem OwnU.us {w : World} {base : Nat} {E : TypeId} {v : Value} {L : List Su} (h : OwnU w base E v L) : Us w v L := by
  rcases h.2 with ⟨rfl, h0⟩ | ⟨g, cap, cur, rfl, hb, hg, h1, _⟩
  · have : L = [] := List.eq_nil_of_length_eq_zero h0
    subst this
    exact Us.nil w
  · exact ⟨_, cap, rfl, h1, fun e => (by cases e), fun _ => ⟨_, rfl, (Array.getElem?_eq_some_iff.1 hg).1, World.ownsRow.cells h (g := g) rfl⟩⟩
section
variable {P : Program}
theorem load_su {o : Oper} {ev : Operand → Value} {w : World} (E : TypeId) (x : Operand) (ho : o.op = .load E x) (p : Addr) (hx : ev x = .pointer (some p)) (hu : Tryz.prog.underlying E = some (.array 32 5)) (hi : (Tryz.prog.info? E).map (·.size) = some 32)
    (s : Su) (hc : ∀ j u, (encU s)[j]? = some u → w.cell? (p.add j) = some u) : (execOp ev o).run Tryz.prog w = .ok (.value (.agg (encU s).toArray)) w := by
  have hl := run_loadCells_list (P := Tryz.prog) w p (encU s) hc
  rw [encU_len] at hl
  have hrun : (loadVar E p).run Tryz.prog w = .ok (.agg (encU s).toArray) w := by
    cases hq : Tryz.prog.info? E with
    | none => simp [hq] at hi
    | some i =>
      have hs : i.size = 32 := by simpa [hq] using hi
      have hagg : (isAgg E).run Tryz.prog w = .ok true w := by
        unfold isAgg
        rw [Sem.run_bind, run_underlying hu w]
        simp
      simp only [loadVar, sizeOf, typeInfo, Sem.run_bind, hagg, Result.andThen_ok, if_true]
      simp [hq, hs, hl]
  unfold execOp
  simp only [ho, hx, Instr.loadAt, Instr.sureAddr, Sem.run_bind, Sem.run_pure, Result.andThen_ok, hrun]
end
section
variable {ops : Array Oper} {rest : List Oper} {o : Oper} {a : Act} {w : World} {Q : Exit → Act → World → Prop} {K : Act → World → Prop}
theorem wp_load_su (E : TypeId) (x : Operand) (ho : o.op = .load E x) (p : Addr) (hx : a.eval x = .pointer (some p)) (hu : Tryz.prog.underlying E = some (.array 32 5)) (hi : (Tryz.prog.info? E).map (·.size) = some 32)
    (s : Su) (hc : ∀ j u, (encU s)[j]? = some u → w.cell? (p.add j) = some u) (h : K (a.put o.dst (.agg (encU s).toArray)) w) : o.wp Tryz.prog a w K Q := by
  unfold Oper.wp
  rw [load_su E x ho p hx hu hi s hc]
  exact h
theorem wpList_load_su (hgd : o.guard = none) (E : TypeId) (x : Operand) (ho : o.op = .load E x) (p : Addr) (hx : a.eval x = .pointer (some p)) (hu : Tryz.prog.underlying E = some (.array 32 5)) (hi : (Tryz.prog.info? E).map (·.size) = some 32)
    (s : Su) (hc : ∀ j u, (encU s)[j]? = some u → w.cell? (p.add j) = some u) (h : wpList Tryz.prog ops Q rest (a.put o.dst (.agg (encU s).toArray)) w) : wpList Tryz.prog ops Q (o :: rest) a w :=
  wpList_plain hgd fun _ hK => wp_load_su E x ho p hx hu hi s hc (hK _ _ h)
theorem wpList_load_suOn (hw : Region.wanted o (yielded ops a.tmps) = true) (E : TypeId) (x : Operand) (ho : o.op = .load E x) (p : Addr) (hx : a.eval x = .pointer (some p)) (hu : Tryz.prog.underlying E = some (.array 32 5)) (hi : (Tryz.prog.info? E).map (·.size) = some 32)
    (s : Su) (hc : ∀ j u, (encU s)[j]? = some u → w.cell? (p.add j) = some u) (h : wpList Tryz.prog ops Q rest (a.put o.dst (.agg (encU s).toArray)) w) : wpList Tryz.prog ops Q (o :: rest) a w :=
  wpList_step fun K hK => by rw [if_pos hw]; exact wp_load_su E x ho p hx hu hi s hc (hK _ _ h)
def aggU (s : Su) : Value := .agg (encU s).toArray
theorem fill_many (L : List Su) (cells : Array Value) (hc : cells.size = L.length * 32) :
    Instr.fill (fun i => some (i * 32, 32)) cells (((L.map aggU).zipIdx 0).map fun x => (x.2, x.1)) = some (rowU L).toArray := by
  obtain ⟨r, h1, h2, h3⟩ := Great.fill_dense (s := 32) (by decide) (L.map aggU) 0 cells (fun v hv => by
    obtain ⟨x, _, rfl⟩ := List.mem_map.1 hv
    exact encU_size x) (by rw [List.length_map, hc, Nat.zero_add]; exact Nat.le_refl _)
  rw [h1]
  congr 1
  have hs : r.size = (rowU L).toArray.size := by rw [h2, hc]; simp [rowU_len]
  refine Array.ext hs fun k hk1 hk2 => ?_
  have h4 := h3 k
  have hk : k < L.length * 32 := by rw [h2, hc] at hk1; exact hk1
  have hi : k / 32 < L.length := by omega
  rw [if_pos ⟨by omega, by rw [List.length_map, Nat.zero_add]; exact hk⟩, Nat.sub_zero, List.getElem?_map, List.getElem?_eq_getElem hi, Option.map_some, Option.bind_some] at h4
  have h5 := rowU_get L (k / 32) hi (k % 32) (Nat.mod_lt _ (by decide))
  rw [show k / 32 * 32 + k % 32 = k by omega] at h5
  have h6 : (aggU L[k / 32]).cells[k % 32]? = (encU L[k / 32])[k % 32]? := by simp [aggU, Value.cells]
  rw [h6, ← h5, Array.getElem?_eq_getElem hk1] at h4
  have h7 : (rowU L)[k]? = some ((rowU L).toArray[k]) := by simp
  rw [h7] at h4
  exact Option.some.inj h4
theorem fill_one (cells : Array Value) (hc : cells.size = 32) (s : Su) : Instr.fill (fun i => some (i * 32, 32)) cells [(0, aggU s)] = some (encU s).toArray := by
  have := fill_many [s] cells (by simpa using hc)
  rw [rowU_one] at this
  exact this
/-- A row of some sums, a literal. -/
theorem wp_lit_su (T E : TypeId) (hT : ElT T E) (n : Nat) (parts : Array (Nat × Operand)) (ho : o.op = .buildSlice T n parts) (L : List Su) (hn : L.length = n) (h0 : 0 < n) (h9 : n ≤ 1000)
    (hx : (parts.map fun (i, x) => (i, a.eval x)).toList = ((L.map aggU).zipIdx 0).map fun x => (x.2, x.1))
    (h : K (a.put o.dst (.slice (some ⟨w.heap.size, 0, none⟩) n n)) (w.alloc (.cells (rowU L).toArray E))) : o.wp Tryz.prog a w K Q := by
  subst hn
  obtain ⟨i0, hi, hz0, hz1, hz2⟩ := info_parts hT.2.2
  refine wp_buildSlice T E L.length parts ho (rowU L).toArray i0 _ hT.1 hi hz0 (by rw [hz1]; omega) (by rw [hz1]; omega) ?_ h
  rw [hx, hz1]
  exact fill_many L _ (by simp)
theorem wpList_lit_su (hgd : o.guard = none) (T E : TypeId) (hT : ElT T E) (n : Nat) (parts : Array (Nat × Operand)) (ho : o.op = .buildSlice T n parts) (L : List Su) (hn : L.length = n) (h0 : 0 < n) (h9 : n ≤ 1000)
    (hx : (parts.map fun (i, x) => (i, a.eval x)).toList = ((L.map aggU).zipIdx 0).map fun x => (x.2, x.1))
    (h : wpList Tryz.prog ops Q rest (a.put o.dst (.slice (some ⟨w.heap.size, 0, none⟩) n n)) (w.alloc (.cells (rowU L).toArray E))) : wpList Tryz.prog ops Q (o :: rest) a w :=
  wpList_plain hgd fun _ hK => wp_lit_su T E hT n parts ho L hn h0 h9 hx (hK _ _ h)
/-- A row of one sum. -/
theorem wp_one_su (T E : TypeId) (hT : ElT T E) (x : Operand) (ho : o.op = .buildSlice T 1 #[(0, x)]) (s : Su) (hx : a.eval x = .agg (encU s).toArray)
    (h : K (a.put o.dst (.slice (some ⟨w.heap.size, 0, none⟩) 1 1)) (w.alloc (.cells (encU s).toArray E))) : o.wp Tryz.prog a w K Q := by
  obtain ⟨i0, hi, hz0, hz1, hz2⟩ := info_parts hT.2.2
  refine wp_buildSlice T E 1 _ ho (encU s).toArray i0 _ hT.1 hi hz0 (by rw [hz1]; omega) (by rw [hz1]; omega) ?_ h
  rw [hz1]
  simp only [List.map_toArray, List.map_cons, List.map_nil, hx]
  exact fill_one _ (by simp) s
theorem wpList_one_su (hgd : o.guard = none) (T E : TypeId) (hT : ElT T E) (x : Operand) (ho : o.op = .buildSlice T 1 #[(0, x)]) (s : Su) (hx : a.eval x = .agg (encU s).toArray)
    (h : wpList Tryz.prog ops Q rest (a.put o.dst (.slice (some ⟨w.heap.size, 0, none⟩) 1 1)) (w.alloc (.cells (encU s).toArray E))) : wpList Tryz.prog ops Q (o :: rest) a w :=
  wpList_plain hgd fun _ hK => wp_one_su T E hT x ho s hx (hK _ _ h)
theorem Ss.one {w : World} {g : Nat} {E : TypeId} {s : Su} {b : Nat} (h : Has w g E (encU s)) (hb : g < b) : Sees w b (some ⟨g, 0, none⟩) (rowU [s]) := by
  rw [rowU_one]; exact Sees.of_has h hb
theorem run_none_su (T E : TypeId) (hT : ElT T E) (w : World) : (Instr.buildSlice T 0 #[]).run Tryz.prog w = .ok (.slice (some ⟨w.heap.size, 0, none⟩) 0 0) (w.alloc (.cells #[] E)) := by
  obtain ⟨i0, hi, hz0, hz1, hz2⟩ := info_parts hT.2.2
  simp [Instr.buildSlice, run_underlying hT.1, sizeOf, typeInfo, hi, newRow, Instr.fill]
  rw [show Array.range 0 = #[] by kernel_rfl, Array.map_empty]
theorem wp_none_su (T E : TypeId) (hT : ElT T E) (ho : o.op = .buildSlice T 0 #[])
    (h : K (a.put o.dst (.slice (some ⟨w.heap.size, 0, none⟩) 0 0)) (w.alloc (.cells #[] E))) : o.wp Tryz.prog a w K Q := by
  unfold Oper.wp execOp
  simp only [ho, Sem.run_bind]
  rw [Array.map_empty, run_none_su T E hT]
  exact h
/-- Sums put behind a row of the call's own. -/
theorem wp_append_su (T E : TypeId) (hT : ElT T E) (s x : Operand) (ho : o.op = .call { callee := .builtin .append, args := #[s, x], argTypes := #[T, T] })
    (base : Nat) (v : Value) (L : List Su) (hs : a.eval s = v) (hown : OwnU w base E v L)
    (q : Option Addr) (M : List Su) (m cap b : Nat) (hm : M.length = m) (hx : a.eval x = .slice q m cap) (hq : q = none → cap = 0) (hl : Sees w b q (rowU M))
    (hn : L.length + m ≤ 4000000) (hbase : base ≤ w.heap.size)
    (h : ∀ v' w', OwnU w' base E v' (L ++ M) → w.grownBy w' v.ownBlock → K (a.put o.dst v') w') : o.wp Tryz.prog a w K Q := by
  subst hm
  obtain ⟨i0, hi, hz0, hz1, hz2⟩ := info_parts hT.2.2
  have fin : ∀ v' w', w'.ownsRow base E 32 v' (L.length + M.length) (rowU L ++ rowU M) → OwnU w' base E v' (L ++ M) := fun v' w' h1 => by
    unfold OwnU; rw [List.length_append, rowU_app]; exact h1
  have hbytes : (L.length + M.length) * 32 ≤ 140737488355328 := Nat.le_trans (Nat.mul_le_mul hn (Nat.le_refl 32)) (by decide)
  rcases q with _ | ad
  · have hl0 : M = [] := by
      rcases M with _ | ⟨y, M⟩
      · rfl
      · obtain ⟨a, h1, _⟩ := hl.get (by rw [rowU_len, List.length_cons]; omega)
        cases h1
    subst hl0
    obtain rfl := hq rfl
    have hrun := run_append_owned_none (P := Tryz.prog) (w := w) base T o.type E i0 32 hT.1 hi v L.length (rowU L) hown
    have hx' : a.eval x = .slice none 0 0 := hx
    unfold Oper.wp
    simp [execOp, ho, resolve, invoke, builtin, hs, hx', hrun, Result.andThen]
    exact h v w (by simpa using hown) ⟨rfl, rfl, rfl, Nat.le_refl _, fun _ _ _ => rfl⟩
  · by_cases hl0 : M = []
    · subst hl0
      refine wp_append_own w s x T ho base E i0 _ 32 32 hT.1 hi hz0 hz1 hz2 rfl (by decide) v L.length (rowU L) hs hown ad 0 cap [] hx rfl (fun j u hj => by simp at hj) (fun u hu => by cases hu) (by unfold maxLen; simp at hn; omega) hbytes hbase (fun v' w' h1 h2 _ => ?_)
      exact h v' w' (fin v' w' (by simpa [rowU] using h1)) h2
    · refine wp_append_own w s x T ho base E i0 _ 32 32 hT.1 hi hz0 hz1 hz2 rfl (by decide) v L.length (rowU L) hs hown ad M.length cap (rowU M) hx (rowU_len M) (fun j u hj => ?_) (fun u hu => rowU_one' M u hu) (by unfold maxLen; omega) hbytes hbase (fun v' w' h1 h2 _ => ?_)
      · obtain ⟨a', h1, _, h3⟩ := hl.get (by have := (List.getElem?_eq_some_iff.1 hj).1; omega)
        cases h1
        exact h3 j u hj
      · exact h v' w' (fin v' w' h1) h2
theorem wpList_append_su (hgd : o.guard = none) (T E : TypeId) (hT : ElT T E) (s x : Operand) (ho : o.op = .call { callee := .builtin .append, args := #[s, x], argTypes := #[T, T] })
    (base : Nat) (v : Value) (L : List Su) (hs : a.eval s = v) (hown : OwnU w base E v L)
    (q : Option Addr) (M : List Su) (m cap b : Nat) (hm : M.length = m) (hx : a.eval x = .slice q m cap) (hq : q = none → cap = 0) (hl : Sees w b q (rowU M))
    (hn : L.length + m ≤ 4000000) (hbase : base ≤ w.heap.size)
    (h : ∀ v' w', OwnU w' base E v' (L ++ M) → Below base w w' → wpList Tryz.prog ops Q rest (a.put o.dst v') w') : wpList Tryz.prog ops Q (o :: rest) a w :=
  wpList_plain hgd fun _ hK => wp_append_su T E hT s x ho base v L hs hown q M m cap b hm hx hq hl hn hbase fun v' w' h1 h2 => hK _ _ (h v' w' h1 ((Below.refl base w).grown h2 hbase (fun k hk => hown.base k hk)))
end
theorem cut_su (T E : TypeId) (hT : ElT T E) (q : Option Addr) (n c k : Nat) (hk : k ≤ n) (w : World) :
    (Instr.slice T (.slice q n c) (some (.int .i64 (k : Int))) none none).run Tryz.prog w = .ok (.slice (if c = k then q else q.map (·.add (k * 32))) (n - k) (c - k)) w := by
  obtain ⟨i0, hi, hz0, hz1, hz2⟩ := info_parts hT.2.2
  simp [Instr.slice, run_underlying hT.1, Instr.sliceBounds, Instr.sliceBound, asIntOf, sizeOf, typeInfo, hi, hz1]
  intro hc
  omega
theorem head_su (T E : TypeId) (hT : ElT T E) (q : Option Addr) (n c k : Nat) (hk : k ≤ c) (w : World) :
    (Instr.slice T (.slice q n c) none (some (.int .i64 (k : Int))) none).run Tryz.prog w = .ok (.slice q k c) w := by
  obtain ⟨i0, hi, hz0, hz1, hz2⟩ := info_parts hT.2.2
  have e : q.map (fun a : Addr => a.add 0) = q := by cases q <;> simp [Addr.add]
  simp [Instr.slice, run_underlying hT.1, Instr.sliceBounds, Instr.sliceBound, asIntOf, sizeOf, typeInfo, hi, e]
  intro hc
  omega
theorem Sees.cutU {w : World} {b : Nat} {q : Option Addr} {L : List Su} {c k : Nat} (h : Sees w b q (rowU L)) (hc : L.length ≤ c) : Sees w b (if c = k then q else q.map (·.add (k * 32))) (rowU (L.drop k)) := fun hl => by
  have hk : k < L.length := by rw [rowU_len, List.length_drop] at hl; omega
  obtain ⟨a, rfl, hb, hx⟩ := h.get (by rw [rowU_len]; omega)
  rw [if_neg (by omega)]
  refine ⟨a.add (k * 32), rfl, by rw [add_block]; exact hb, fun j u hu => ?_⟩
  rw [add_add]
  exact hx _ u (by rw [← hu, ← rowU_drop, List.getElem?_drop])
theorem cutU_none {q : Option Addr} {c k n : Nat} (hq : q = none → c = 0) : (if c = k then q else q.map (·.add n)) = none → c - k = 0 := by
  split
  · intro _; omega
  · intro h; have := hq (by simpa using h); omega
end Go.Proofs.YtmjonlffhhehjaaGreatDoor
/- '==' and '!=' of two sums; a row of sums written in place: one stored, the rest cleared. No condition. -/
namespace Go.Proofs.YtmjonlffhhehjaaGreatDoor
open Go.RowKit
section
variable {P : Program}
theorem eqIn_su (E : TypeId) (hu : Tryz.prog.underlying E = some (.array 32 5)) (s t : Su) (w : World) : (Op.equalIn 10000 E (.agg (encU s).toArray) (.agg (encU t).toArray)).run Tryz.prog w = .ok (decide (s = t)) w := by
  have h := arr_eqlU E hu s.1 t.1 s.2 t.2 w
  rw [run_eql_struct] at h
  have e : decide (s.1 = t.1) = decide (s = t) := by
    by_cases hst : s = t
    · subst hst; simp
    · rw [decide_eq_false hst, decide_eq_false (fun h => hst (Subtype.ext h))]
  rw [e] at h
  have h' : ((Op.equalIn 10000 E (.agg (encU s).toArray) (.agg (encU t).toArray)).run Tryz.prog w).andThen (fun b w' => Result.ok (Value.bool b) w') = .ok (.bool (decide (s = t))) w := h
  cases hr : (Op.equalIn 10000 E (.agg (encU s).toArray) (.agg (encU t).toArray)).run Tryz.prog w <;> rw [hr] at h' <;> simp [Result.andThen] at h' <;> simp_all
theorem eql_su {o : Oper} {ev : Operand → Value} {w : World} (E : TypeId) (x y : Operand) (E2 : TypeId) (ho : o.op = .binOp .eql E x y E2) (s t : Su) (hx : ev x = .agg (encU s).toArray) (hy : ev y = .agg (encU t).toArray)
    (hu : Tryz.prog.underlying E = some (.array 32 5)) (hg : Tryz.prog.eqGuardType Tryz.prog.depth E = false) : (execOp ev o).run Tryz.prog w = .ok (.value (.bool (decide (s = t)))) w := by
  have h1 := run_eqGuard_agg w .eql E x y (encU s).toArray (encU t).toArray hg
  have h2 := eqIn_su E hu s t w
  unfold execOp
  simp [ho, hx, hy, h1, h2, run_eql_struct]
theorem neq_su {o : Oper} {ev : Operand → Value} {w : World} (E : TypeId) (x y : Operand) (E2 : TypeId) (ho : o.op = .binOp .neq E x y E2) (s t : Su) (hx : ev x = .agg (encU s).toArray) (hy : ev y = .agg (encU t).toArray)
    (hu : Tryz.prog.underlying E = some (.array 32 5)) (hg : Tryz.prog.eqGuardType Tryz.prog.depth E = false) : (execOp ev o).run Tryz.prog w = .ok (.value (.bool (!decide (s = t)))) w := by
  have h1 := run_eqGuard_agg w .neq E x y (encU s).toArray (encU t).toArray hg
  have h2 := eqIn_su E hu s t w
  unfold execOp
  simp [ho, hx, hy, h1, h2, run_neq_struct]
end
/-- The row's head: these sums; what stands behind them. -/
def RowAt (w : World) (g : Nat) (E : TypeId) (dk : Array Su) (rest : List Value) : Prop := Has w g E (rowU dk.toList ++ rest)
theorem add_lit' (g o j : Nat) : (Addr.add ⟨g, o, none⟩ j) = ⟨g, o + j, none⟩ := by unfold Addr.add; split <;> simp_all
theorem RowAt.el {w : World} {g : Nat} {E : TypeId} {dk : Array Su} {rest : List Value} (h : RowAt w g E dk rest) (i : Nat) (hi : i < dk.size) (o : Nat) (ho : o = i * 32) : ∀ j u, (encU dk[i]!)[j]? = some u → w.cell? ((⟨g, o, none⟩ : Addr).add j) = some u := fun j u hu => by
  subst ho
  have hj : j < 32 := by have := (List.getElem?_eq_some_iff.1 hu).1; rwa [encU_len] at this
  have hil : i < dk.toList.length := by simpa using hi
  rw [add_lit']
  refine Has.cellv h ?_
  rw [List.getElem?_append_left (by rw [rowU_len]; omega), rowU_get dk.toList i hil j hj, ← hu, getElem!_pos dk i hi]
  simp
theorem rowU_set (L : List Su) (k : Nat) (s : Su) (hk : k < L.length) : rowU (L.set k s) = (rowU L).take (k * 32) ++ encU s ++ (rowU L).drop (k * 32 + 32) := by
  rw [rowU_take, show k * 32 + 32 = (k + 1) * 32 by omega, rowU_drop, List.set_eq_take_append_cons_drop, if_pos hk, rowU_app, List.append_assoc]
  rfl
theorem RowAt.put {w : World} {g : Nat} {E : TypeId} {dk : Array Su} {rest : List Value} (h : RowAt w g E dk rest) (k : Nat) (hk : k < dk.size) (s : Su) : RowAt (w.setCells g (k * 32) (encU s)) g E (dk.setIfInBounds k s) rest := by
  have hl : k < dk.toList.length := by simpa using hk
  have hrl := rowU_len dk.toList
  have hm := Has.mid (encU s) (k * 32) w _ h (by rw [List.length_append, hrl, encU_len]; omega)
  unfold RowAt
  have e : (dk.setIfInBounds k s).toList = dk.toList.set k s := by simp
  rw [e, rowU_set _ _ _ hl]
  rw [encU_len, List.take_append_of_le_length (by rw [hrl]; omega), List.drop_append_of_le_length (by rw [hrl]; omega)] at hm
  simpa [List.append_assoc] using hm
theorem RowAt.isIn {w : World} {g : Nat} {E : TypeId} {dk : Array Su} {rest : List Value} (h : RowAt w g E dk rest) (o n : Nat) (hn : o + n ≤ dk.size * 32) : ∀ j, j < n → (w.cell? ⟨g, o + j, none⟩).isSome = true ∧ w.frozen? ⟨g, o + j, none⟩ = false := fun j hj =>
  ⟨by rw [Has.cell h, List.getElem?_eq_getElem (by rw [List.length_append, rowU_len]; simp; omega)]; rfl, Has.free h _⟩
theorem store_su {w : World} (E : TypeId) (hi : (Tryz.prog.info? E).map (·.size) = some 32) (g k : Nat) (s : Su) {dk : Array Su} {rest : List Value} {F : TypeId} (h : RowAt w g F dk rest) (hk : k < dk.size) (o : Nat) (ho : o = k * 32) :
    (storeVar E ⟨g, o, none⟩ (.agg (encU s).toArray)).run Tryz.prog w = .ok () (w.setCells g (k * 32) (encU s)) := by
  subst ho
  have hin := h.isIn (k * 32) 32 (by omega)
  have hst := run_storeCells_cells (P := Tryz.prog) g (k * 32) (encU s) 0 w (fun j hj => by rw [Nat.add_zero]; rw [encU_len] at hj; exact (hin j hj).1) (fun j hj => by rw [Nat.add_zero]; rw [encU_len] at hj; exact (hin j hj).2) (encU_one s)
  rw [Nat.add_zero] at hst
  cases hq : Tryz.prog.info? E with
  | none => simp [hq] at hi
  | some i =>
    have hs : i.size = 32 := by simpa [hq] using hi
    have hz := encU_size s
    simp only [storeVar, sizeOf, typeInfo, Sem.run_bind]
    simp [hq, hs, Value.cells, encU_len, hst]
theorem wpList_store_su {ops : Array Oper} {rest : List Oper} {o : Oper} {a : Act} {w : World} {Q : Exit → Act → World → Prop} (hgd : o.guard = none) (E : TypeId) (hi : (Tryz.prog.info? E).map (·.size) = some 32) (x y : Operand) (ho : o.op = .store E x y) (g k : Nat) (p : Nat) (hp : p = k * 32) (hx : a.eval x = .pointer (some ⟨g, p, none⟩))
    (s : Su) (hy : a.eval y = .agg (encU s).toArray) {dk : Array Su} {row : List Value} {F : TypeId} (h : RowAt w g F dk row) (hk : k < dk.size) (hK : wpList Tryz.prog ops Q rest (a.put o.dst undef) (w.setCells g (k * 32) (encU s))) : wpList Tryz.prog ops Q (o :: rest) a w :=
  wpList_plain hgd fun _ hK' => by
    unfold Oper.wp execOp
    simp only [ho, hx, hy, Instr.storeAt, Instr.sureAddr, Sem.run_bind, Sem.run_pure, Result.andThen_ok, store_su E hi g k s h hk p hp]
    exact hK' _ _ hK
def zU : Su := ⟨List.replicate 32 0, by simp⟩
theorem rowU_zero : ∀ n : Nat, rowU (List.replicate n zU) = List.replicate (n * 32) (.int .u8 0)
  | 0 => rfl
  | n + 1 => by
    rw [List.replicate_succ]
    show encU zU ++ rowU (List.replicate n zU) = _
    have h0 : encU zU = List.replicate 32 (.int .u8 0) := by simp [encU, zU, u8v, B]
    rw [rowU_zero n, show (n + 1) * 32 = 32 + n * 32 by omega, h0, List.replicate_append_replicate]
theorem zeroCells_su (n : Nat) : (Builtin.zeroCells (Array.replicate 32 (Value.int .u8 0)) n).toList = List.replicate (n * 32) (.int .u8 0) := by
  unfold Builtin.zeroCells
  apply List.ext_getElem
  · simp
  · intro i h1 h2
    have hm : i % 32 < 32 := Nat.mod_lt _ (by decide)
    simp only [Array.toList_map, Array.toList_range, Array.size_replicate, List.getElem_map, List.getElem_range, List.getElem_replicate]
    rw [getElem!_pos _ _ (by simpa using hm)]
    simp
theorem run_clear_su (T E : TypeId) (hT : ElT T E) (w : World) (g k n c ty : Nat) (hn : 0 < n) {dk : Array Su} {rest : List Value} (h : RowAt w g E dk rest) (hk : k + n ≤ dk.size) (o : Nat) (ho : o = k * 32) :
    (Builtin.clear_ #[T] ty #[.slice (some ⟨g, o, none⟩) n c]).run Tryz.prog w = .ok (.tuple #[]) (w.setCells g (k * 32) (List.replicate (n * 32) (.int .u8 0))) := by
  subst ho
  obtain ⟨i0, hi, hz0, hz1, hz2⟩ := info_parts hT.2.2
  have hin := h.isIn (k * 32) (n * 32) (by omega)
  have hst := run_storeCells_cells (P := Tryz.prog) g (k * 32) (List.replicate (n * 32) (Value.int .u8 0)) 0 w (fun j hj => by rw [Nat.add_zero]; rw [List.length_replicate] at hj; exact (hin j hj).1) (fun j hj => by rw [Nat.add_zero]; rw [List.length_replicate] at hj; exact (hin j hj).2) (fun v hv => by rw [List.eq_of_mem_replicate hv]; rfl)
  rw [Nat.add_zero] at hst
  have hz : (zeroValue E).run Tryz.prog w = .ok (.agg (Array.replicate 32 (.int .u8 0))) w := by simp [zeroValue, typeInfo, hi, hz0]
  have hc : (Value.agg (Array.replicate 32 (Value.int .u8 0))).cells = Array.replicate 32 (Value.int .u8 0) := rfl
  obtain ⟨m, rfl⟩ : ∃ m, n = m + 1 := ⟨n - 1, by omega⟩
  simp [Builtin.clear_, run_underlying hT.1, hz, hc, zeroCells_su, hst]
theorem RowAt.cleared {w : World} {g : Nat} {E : TypeId} {dk : Array Su} {rest : List Value} (h : RowAt w g E dk rest) (k n : Nat) (hk : k + n = dk.size) : ∃ back, RowAt (w.setCells g (k * 32) (List.replicate (n * 32) (.int .u8 0))) g E (dk.toList.take k).toArray back ∧ back.length = n * 32 + rest.length := by
  have hrl := rowU_len dk.toList
  have hl : dk.toList.length = dk.size := by simp
  have hm := Has.mid (List.replicate (n * 32) (Value.int .u8 0)) (k * 32) w _ h (by rw [List.length_append, hrl, List.length_replicate]; omega)
  refine ⟨List.replicate (n * 32) (.int .u8 0) ++ rest, ?_, by simp⟩
  rw [List.length_replicate, List.take_append_of_le_length (by rw [hrl]; omega), rowU_take, List.drop_append, List.drop_of_length_le (by rw [hrl]; omega), List.nil_append, show k * 32 + n * 32 - (rowU dk.toList).length = 0 by rw [hrl]; omega, List.drop_zero] at hm
  unfold RowAt
  rw [← List.append_assoc]
  exact hm
theorem setCells_block {w : World} {g : Nat} : ∀ (vs : List Value) (o : Nat) (b : Nat) (a : World), Below b a w → b ≤ g → Below b a (w.setCells g o vs) := fun vs o _ _ h hg => below_setCells hg vs o w h
end Go.Proofs.YtmjonlffhhehjaaGreatDoor
/- Contracts: a law's arguments as a set (the law's 'row'), package set's rises, Good. Conditions: at most 10^5 sums (Good, rises: fewer than 2^62). -/
namespace Go.Proofs.YtmjonlffhhehjaaGreatDoor
open Go.RowKit
theorem elSet : ElT 54 31 := ⟨Tryz.underlying54, Tryz.underlying31, by kernel_rfl⟩
theorem elSum : ElT 32 31 := ⟨Tryz.underlying32, Tryz.underlying31, by kernel_rfl⟩
theorem szSum : (Tryz.prog.info? 31).map (·.size) = some 32 := by kernel_rfl
theorem szArr : (Tryz.prog.info? 30).map (·.size) = some 32 := by kernel_rfl
theorem cmpS_any (x y : Su) (w : World) : Calls Tryz.prog 92 #[.agg (encU x).toArray, .agg (encU y).toArray] w fun e w' => e = .returned (.int .i64 (cmpU x y)) ∧ Below w.heap.size w w' := cmp_any x.1 y.1 x.2 y.2 w
set_option maxHeartbeats 4000000 in
set_option maxRecDepth 100000 in
theorem rises_any (L : List Su) (q : Option Addr) (c : Nat) (hm : L.length < 4611686018427387904) (w : World) (hs : Sees w w.heap.size q (rowU L)) :
    Calls Tryz.prog 80 #[.slice q L.length c] w fun e w' => e = .returned (.bool (decide (AscU L))) ∧ Below w.heap.size w w' := by
  have HS := Lib.hid hs
  clear hs
  go_enter Tryz.func80, Tryz.ntmps80
  go_wp2_with fail
  go_loopw [3] (fun vi wr => ∃ i : Nat, 1 ≤ i ∧ (i ≤ L.length ∨ i = 1) ∧ vi = .int .i64 i ∧ (∀ j (hj : j + 1 < L.length), j + 1 < i → cmpU L[j] L[j + 1] = -1) ∧ Below w.heap.size w wr) (fun vi _ => L.length - (intOf vi).toNat)
  case atStart => exact ⟨1, by omega, .inr rfl, rfl, fun j _ h => by omega, Below.refl _ _⟩
  case round =>
    rename_i wr
    obtain ⟨i, hi1, hi2, rfl, hall, hB⟩ := hrel
    have HALL := Lib.hid hall
    have HB := Lib.hid hB
    clear hall hB
    by_cases hlt : i < L.length
    · obtain ⟨k, rfl⟩ : ∃ k, i = k + 1 := ⟨i - 1, by omega⟩
      obtain ⟨a, rfl, ha, hc⟩ := Ss.el HS.out (show k < L.length by omega)
      obtain ⟨a', e', _, hc'⟩ := Ss.el HS.out hlt
      cases e'
      obtain ⟨m, hme⟩ : ∃ m, m = k + 1 := ⟨_, rfl⟩
      have HNEW : Hid (cmpU L[k] L[k + 1] = -1 → ∀ j (hj : j + 1 < L.length), j + 1 < m + 1 → cmpU L[j] L[j + 1] = -1) := Lib.hid (fun h j hj hjm => by
        by_cases e : j = k
        · subst e; exact h
        · exact HALL.out j hj (by omega))
      have HBAD : Hid (cmpU L[k] L[k + 1] ≠ -1 → ¬ AscU L) := Lib.hid (fun h ha => h (asc_at ha k hlt))
      obtain ⟨x, hxe⟩ : ∃ x, L[k]'(Nat.lt_of_succ_lt hlt) = x := ⟨_, rfl⟩
      obtain ⟨y, hye⟩ : ∃ y, L[k + 1] = y := ⟨_, rfl⟩
      rw [hxe, hye] at HNEW HBAD
      have HC : Hid (∀ w', Below w.heap.size w w' → ∀ j u, (encU x)[j]? = some u → w'.cell? ((a.add (k * 32)).add j) = some u) := Lib.hid (hxe ▸ hc)
      have HC' : Hid (∀ w', Below w.heap.size w w' → ∀ j u, (encU y)[j]? = some u → w'.cell? ((a.add (m * 32)).add j) = some u) := Lib.hid (by subst hye; subst hme; exact hc')
      have kk : (m : Int) < (L.length : Int) := by omega
      have km : (m : Int) - 1 = (k : Int) := by omega
      have km2 : m ≤ 4611686018427387904 := by omega
      have HM := Lib.hid hme
      have HV := Lib.hid (cmpU_vals x y)
      clear hc hc' ha hxe hye
      rw [← hme]
      have hk1 : k < 4611686018427387904 := by omega
      have hkl : (k : Int) < (L.length : Int) := by omega
      have kwr : IntKind.i64.wrap (k : Int) = (k : Int) := IntWalk.i64_in _ (by omega)
      clear hme
      go_wp2_with fail
      refine wp_region_org [(0, true), (1, true), (2, true), (3, true), (4, true), (5, true), (6, true), (7, true), (8, true), (9, false), (10, true)] (by kernel_rfl) (by kernel_rfl) (by kernel_rfl) ?_
      replace HB := Lib.hid HB.out.drew
      generalize wr.drew = wd at *
      simp only [pickOrs, List.getElem?_cons_zero, List.getElem?_cons_succ]
      refine org_pure (v := ?_) (by kernel_rfl) ?_ ?_
      rotate_left
      · intro w' hv; clear hv; go_simp; try with_reducible rfl
      try simp only [Act.put, List.setIfInBounds_toArray, List.set_cons_zero, List.set_cons_succ]
      refine org_pure (v := ?_) (by kernel_rfl) ?_ ?_
      rotate_left
      · intro w' hv; clear hv; go_simp; try with_reducible rfl
      try simp only [Act.put, List.setIfInBounds_toArray, List.set_cons_zero, List.set_cons_succ]
      refine org_pure (v := ?_) (by kernel_rfl) ?_ ?_
      rotate_left
      · intro w' hv; clear hv; go_simp; try with_reducible rfl
      try simp only [Act.put, List.setIfInBounds_toArray, List.set_cons_zero, List.set_cons_succ]
      refine org_pure (v := ?_) (by kernel_rfl) ?_ ?_
      rotate_left
      · intro w' hv; clear hv; go_simp; try with_reducible rfl
      try simp only [Act.put, List.setIfInBounds_toArray, List.set_cons_zero, List.set_cons_succ]
      refine org_pure (by kernel_rfl) (fun w' hv => load_su 31 (.tmp 13) rfl _ rfl elSum.2.1 szSum x ((fun w' hv => HC.out w' (HB.out.trans (Below.mono hv HB.out.size))) w' hv)) ?_
      try simp only [Act.put, List.setIfInBounds_toArray, List.set_cons_zero, List.set_cons_succ]
      refine org_pure (v := ?_) (by kernel_rfl) ?_ ?_
      rotate_left
      · intro w' hv; clear hv; go_simp; try with_reducible rfl
      try simp only [Act.put, List.setIfInBounds_toArray, List.set_cons_zero, List.set_cons_succ]
      refine org_pure (v := ?_) (by kernel_rfl) ?_ ?_
      rotate_left
      · intro w' hv; clear hv; go_simp; try with_reducible rfl
      try simp only [Act.put, List.setIfInBounds_toArray, List.set_cons_zero, List.set_cons_succ]
      refine org_pure (v := ?_) (by kernel_rfl) ?_ ?_
      rotate_left
      · intro w' hv; clear hv; go_simp; try with_reducible rfl
      try simp only [Act.put, List.setIfInBounds_toArray, List.set_cons_zero, List.set_cons_succ]
      refine org_pure (by kernel_rfl) (fun w' hv => load_su 31 (.tmp 17) rfl _ rfl elSum.2.1 szSum y ((fun w' hv => HC'.out w' (HB.out.trans (Below.mono hv HB.out.size))) w' hv)) ?_
      try simp only [Act.put, List.setIfInBounds_toArray, List.set_cons_zero, List.set_cons_succ]
      refine org_step (by kernel_rfl) (fun K hK => ?_)
      go_wp2_with fail
      refine (cmpS_any x y _).mono ?_
      rintro e wx ⟨rfl, hb⟩
      have HE := Lib.hid hb
      clear hb
      refine hK _ _ ⟨HE.out, ?_⟩
      clear hK
      try simp only [Act.put, List.setIfInBounds_toArray, List.set_cons_zero, List.set_cons_succ]
      replace HB := Lib.hid (HB.out.trans (HE.out.mono HB.out.size))
      clear HE
      rcases HV.out with hv | hv | hv
      · rw [hv]
        refine org_pure (v := ?_) (by kernel_rfl) ?_ ?_
        rotate_left
        · intro w' hv; clear hv; go_simp; try with_reducible rfl
        try simp only [Act.put, List.setIfInBounds_toArray, List.set_cons_zero, List.set_cons_succ]
        refine org_nil ?_
        have HN := Lib.hid (HNEW.out hv)
        clear hv
        go_wp2_with fail
        go_roundw
        case rel => exact ⟨m + 1, by omega, .inl (by have := HM.out; omega), by go_num, HN.out, HB.out⟩
        case measure => simp [intOf]; omega
      · rw [hv]
        refine org_pure (v := ?_) (by kernel_rfl) ?_ ?_
        rotate_left
        · intro w' hv; clear hv; go_simp; try with_reducible rfl
        try simp only [Act.put, List.setIfInBounds_toArray, List.set_cons_zero, List.set_cons_succ]
        refine org_nil ?_
        have HR := Lib.hid (decide_eq_false (HBAD.out (by rw [hv]; decide)))
        clear hv
        go_wp2_with fail
        go_ret
        exact ⟨congrArg (fun b => Ending.returned (.bool b)) HR.out.symm, HB.out⟩
      · rw [hv]
        refine org_pure (v := ?_) (by kernel_rfl) ?_ ?_
        rotate_left
        · intro w' hv; clear hv; go_simp; try with_reducible rfl
        try simp only [Act.put, List.setIfInBounds_toArray, List.set_cons_zero, List.set_cons_succ]
        refine org_nil ?_
        have HR := Lib.hid (decide_eq_false (HBAD.out (by rw [hv]; decide)))
        clear hv
        go_wp2_with fail
        go_ret
        exact ⟨congrArg (fun b => Ending.returned (.bool b)) HR.out.symm, HB.out⟩
    · have HR : Hid (decide (AscU L) = true) := Lib.hid (decide_eq_true (asc_next fun j hj => HALL.out j hj (by omega)))
      have kk : ¬ (i : Int) < (L.length : Int) := by omega
      go_wp2_with fail
      go_ret
      exact ⟨congrArg (fun b => Ending.returned (.bool b)) HR.out.symm, HB.out⟩
def goodU (L : List Su) : Bool := decide (L.length ≤ 512) && decide (AscU L)
set_option maxHeartbeats 1000000 in
theorem good_any (L : List Su) (q : Option Addr) (c : Nat) (hm : L.length < 4611686018427387904) (w : World) (hs : Sees w w.heap.size q (rowU L)) :
    Calls Tryz.prog 38 #[.slice q L.length c] w fun e w' => e = .returned (.bool (goodU L)) ∧ Below w.heap.size w w' := by
  have HR := Lib.hid (rises_any L q c hm w hs)
  clear hs
  by_cases hl : L.length ≤ 512
  · have HG : Hid (goodU L = decide (AscU L)) := Lib.hid (by unfold goodU; rw [decide_eq_true hl, Bool.true_and])
    have k1 : (L.length : Int) ≤ 512 := by omega
    go_enter Tryz.func38, Tryz.ntmps38
    go_wp2_with (refine HR.out.mono ?_; rintro e w1 ⟨rfl, hb⟩; have HB := Lib.hid hb; clear hb)
    go_ret
    exact ⟨congrArg (fun b => Ending.returned (.bool b)) HG.out.symm, HB.out⟩
  · have HG : Hid (goodU L = false) := Lib.hid (by unfold goodU; rw [decide_eq_false hl, Bool.false_and])
    have k1 : ¬ (L.length : Int) ≤ 512 := by omega
    go_enter Tryz.func38, Tryz.ntmps38
    go_wp2_with fail
    go_ret
    exact ⟨congrArg (fun b => Ending.returned (.bool b)) HG.out.symm, Below.refl _ _⟩
end Go.Proofs.YtmjonlffhhehjaaGreatDoor
/- Rows of sums in a guarded operation; a literal of a sum; sums told by their first byte. No condition. -/
namespace Go.Proofs.YtmjonlffhhehjaaGreatDoor
open Go.RowKit
section
variable {ops : Array Oper} {rest : List Oper} {o : Oper} {a : Act} {w : World} {Q : Exit → Act → World → Prop}
theorem wpList_one_suOn (hw : Region.wanted o (yielded ops a.tmps) = true) (T E : TypeId) (hT : ElT T E) (x : Operand) (ho : o.op = .buildSlice T 1 #[(0, x)]) (s : Su) (hx : a.eval x = .agg (encU s).toArray)
    (h : wpList Tryz.prog ops Q rest (a.put o.dst (.slice (some ⟨w.heap.size, 0, none⟩) 1 1)) (w.alloc (.cells (encU s).toArray E))) : wpList Tryz.prog ops Q (o :: rest) a w :=
  wpList_step fun K hK => by rw [if_pos hw]; exact wp_one_su T E hT x ho s hx (hK _ _ h)
theorem wpList_lit_suOn (hw : Region.wanted o (yielded ops a.tmps) = true) (T E : TypeId) (hT : ElT T E) (n : Nat) (parts : Array (Nat × Operand)) (ho : o.op = .buildSlice T n parts) (L : List Su) (hn : L.length = n) (h0 : 0 < n) (h9 : n ≤ 1000)
    (hx : (parts.map fun (i, x) => (i, a.eval x)).toList = ((L.map aggU).zipIdx 0).map fun x => (x.2, x.1))
    (h : wpList Tryz.prog ops Q rest (a.put o.dst (.slice (some ⟨w.heap.size, 0, none⟩) n n)) (w.alloc (.cells (rowU L).toArray E))) : wpList Tryz.prog ops Q (o :: rest) a w :=
  wpList_step fun K hK => by rw [if_pos hw]; exact wp_lit_su T E hT n parts ho L hn h0 h9 hx (hK _ _ h)
theorem wpList_none_suOn (hw : Region.wanted o (yielded ops a.tmps) = true) (T E : TypeId) (hT : ElT T E) (ho : o.op = .buildSlice T 0 #[])
    (h : wpList Tryz.prog ops Q rest (a.put o.dst (.slice (some ⟨w.heap.size, 0, none⟩) 0 0)) (w.alloc (.cells #[] E))) : wpList Tryz.prog ops Q (o :: rest) a w :=
  wpList_step fun K hK => by rw [if_pos hw]; exact wp_none_su T E hT ho (hK _ _ h)
theorem wpList_append_suOn (hw : Region.wanted o (yielded ops a.tmps) = true) (T E : TypeId) (hT : ElT T E) (s x : Operand) (ho : o.op = .call { callee := .builtin .append, args := #[s, x], argTypes := #[T, T] })
    (base : Nat) (v : Value) (L : List Su) (hs : a.eval s = v) (hown : OwnU w base E v L)
    (q : Option Addr) (M : List Su) (m cap b : Nat) (hm : M.length = m) (hx : a.eval x = .slice q m cap) (hq : q = none → cap = 0) (hl : Sees w b q (rowU M))
    (hn : L.length + m ≤ 4000000) (hbase : base ≤ w.heap.size)
    (h : ∀ v' w', OwnU w' base E v' (L ++ M) → Below base w w' → wpList Tryz.prog ops Q rest (a.put o.dst v') w') : wpList Tryz.prog ops Q (o :: rest) a w :=
  wpList_step fun K hK => by
    rw [if_pos hw]
    exact wp_append_su T E hT s x ho base v L hs hown q M m cap b hm hx hq hl hn hbase fun v' w' h1 h2 => hK _ _ (h v' w' h1 ((Below.refl base w).grown h2 hbase (fun k hk => hown.base k hk)))
/-- A sum written out. -/
theorem wpList_build_su (hw : Region.wanted o (yielded ops a.tmps) = true) (E : TypeId) (parts : Array (Nat × Operand)) (ho : o.op = .build E parts) (s : Su) (l : List (Nat × Value)) (hl : (parts.map fun (i, x) => (i, a.eval x)).toList = l) (hb : Tryz.prog.built E l = some (encU s).toArray)
    (h : wpList Tryz.prog ops Q rest (a.put o.dst (.agg (encU s).toArray)) w) : wpList Tryz.prog ops Q (o :: rest) a w :=
  wpList_step fun K hK => by
    rw [if_pos hw]
    unfold Oper.wp execOp
    simp only [ho, Sem.run_bind, run_build w E _ (encU s).toArray (by rw [hl]; exact hb), Result.andThen_ok]
    exact hK _ _ h
end
/-- A sum of these two bytes, then noughts. -/
def su2 (a b : BitVec 8) : Su := ⟨a :: b :: List.replicate 30 0, by simp⟩
def su1 (a : BitVec 8) : Su := su2 a 0
theorem built_one (x : Int) (b : BitVec 8) (h : x = B b) : Tryz.prog.built 31 [(0, .int .u8 x)] = some (encU (su1 b)).toArray := by
  subst h; kernel_rfl
theorem encU_su2 (a b : BitVec 8) : encU (su2 a b) = u8v a :: u8v b :: List.replicate 30 (.int .u8 0) := by
  simp [encU, su2, u8v, B]
end Go.Proofs.YtmjonlffhhehjaaGreatDoor
/- A region in its order, one operation at a time. No condition. -/
namespace Go.Proofs.YtmjonlffhhehjaaGreatDoor
open Go.RowKit
section
variable {P : Program} {ops : Array Oper} {rest : List Oper} {o : Oper} {a : Act} {w : World} {Q : Exit → Act → World → Prop}
theorem lp_pure {v : Value} (hw : Region.wanted o (yielded ops a.tmps) = true) (hy : (execOp a.eval o).run P w = .ok (.value v) w) (h : wpList P ops Q rest (a.put o.dst v) w) : wpList P ops Q (o :: rest) a w :=
  wpList_step fun K hK => by
    rw [if_pos hw]
    unfold Oper.wp
    rw [hy]
    exact hK _ _ h
theorem lp_skip (hw : Region.wanted o (yielded ops a.tmps) = false) (h : wpList P ops Q rest (a.put o.dst undef) w) : wpList P ops Q (o :: rest) a w :=
  wpList_step fun K hK => by rw [if_neg (by rw [hw]; simp)]; exact hK _ _ h
theorem lp_step (hw : Region.wanted o (yielded ops a.tmps) = true) (h : ∀ K : Act → World → Prop, (∀ a w, wpList P ops Q rest a w → K a w) → o.wp P a w K Q) : wpList P ops Q (o :: rest) a w :=
  wpList_step fun K hK => by rw [if_pos hw]; exact h K hK
end
theorem build_su {o : Oper} {ev : Operand → Value} {w : World} (E : TypeId) (parts : Array (Nat × Operand)) (ho : o.op = .build E parts) (s : Su) (l : List (Nat × Value)) (hl : (parts.map fun (i, x) => (i, ev x)).toList = l) (hb : Tryz.prog.built E l = some (encU s).toArray) :
    (execOp ev o).run Tryz.prog w = .ok (.value (.agg (encU s).toArray)) w := by
  unfold execOp
  simp only [ho, Sem.run_bind, run_build w E _ (encU s).toArray (by rw [hl]; exact hb), Result.andThen_ok]
  rfl
theorem built_two (x y : Int) (a b : BitVec 8) (h : x = B a) (h' : y = B b) : Tryz.prog.built 31 [(0, .int .u8 x), (1, .int .u8 y)] = some (encU (su2 a b)).toArray := by
  subst h; subst h'; kernel_rfl
end Go.Proofs.YtmjonlffhhehjaaGreatDoor
