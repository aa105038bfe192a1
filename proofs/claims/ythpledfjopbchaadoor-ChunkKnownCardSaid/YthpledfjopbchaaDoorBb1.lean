/- Plain laws of sets of sums: in order, each once; what one has and another has not; gone through two at a time; how many. No condition. -/
import Derived.Test.YthpledfjopbchaaDoorBa1
import Derived.Lib.SlicesCompact
import Derived.Sort.LotA
import Derived.Shelf.SlSortCmp.Insertion
import Derived.Below
import Derived.Laws.Rows
import Derived.Laws.AppendOwnNone
import Derived.Lib.LazyBuf
import Derived.StillTailTactics
import Derived.Laws.StructEq
import Derived.Laws.IdiomCopy
import Derived.Shelf.SlGeneric
import Derived.Shelf.SlSortCmp.NoneTotal
import Derived.Shelf.SlicesE.Clone
import Derived.Shelf.SlicesQ.Equal
import Derived.Shelf.SlLaysE0
import Derived.Shelf.SlLaysQ
import Derived.Test.YthpledfjopbchaaDoorProg
import Derived.KernelRfl
namespace Go.Proofs.YthpledfjopbchaaDoor
open Go.RowKit Go.Sort
/-- A sum: thirty-two bytes. -/
abbrev Su := { x : List (BitVec 8) // x.length = 32 }
instance : Inhabited Su := ⟨⟨List.replicate 32 0, by simp⟩⟩
def cmpU (x y : Su) : Int := cmpL x.1 y.1
theorem cmpU_len (x y : Su) : x.1.length = y.1.length := x.2.trans y.2.symm
theorem cmpU_vals (x y : Su) : cmpU x y = -1 ∨ cmpU x y = 0 ∨ cmpU x y = 1 := cmpL_vals _ _
theorem cmpU_self (x : Su) : cmpU x x = 0 := cmpL_self _
theorem cmpU_zero {x y : Su} : cmpU x y = 0 ↔ x = y := (cmpL_zero (cmpU_len x y)).trans Subtype.ext_iff.symm
theorem cmpU_neg (x y : Su) : cmpU y x = - cmpU x y := cmpL_neg _ _ (cmpU_len x y)
theorem cmpU_trans {x y z : Su} (h1 : cmpU x y ≤ 0) (h2 : cmpU y z ≤ 0) : cmpU x z ≤ 0 := (cmpL_trans _ _ _ (cmpU_len x y) (cmpU_len y z)).1 h1 h2
theorem cmpU_ltle {x y z : Su} (h1 : cmpU x y = -1) (h2 : cmpU y z ≤ 0) : cmpU x z = -1 := by
  have h3 := (cmpL_trans _ _ _ (cmpU_len x y) (cmpU_len y z)).2 (show cmpU x y < 0 by omega) h2
  have h4 : cmpU x z < 0 := h3
  rcases cmpU_vals x z with h | h | h <;> omega
theorem cmpU_lelt {x y z : Su} (h1 : cmpU x y ≤ 0) (h2 : cmpU y z = -1) : cmpU x z = -1 := by
  have h3 := cmpU_trans h1 (show cmpU y z ≤ 0 by omega)
  rcases cmpU_vals x z with h | h | h
  · exact h
  · have e := cmpU_zero.1 h
    subst e
    have := cmpU_neg y x
    omega
  · omega
/-- Each ahead of the next ones. -/
abbrev AscU (R : List Su) : Prop := R.Pairwise fun x y => cmpU x y = -1
theorem cmpU_flip {x y : Su} (h : cmpU x y = -1) : cmpU y x = 1 := by rw [cmpU_neg, h]; rfl
theorem ascU_unique : ∀ {A B : List Su}, AscU A → AscU B → (∀ x, x ∈ A ↔ x ∈ B) → A = B
  | [], [], _, _, _ => rfl
  | [], b :: B, _, _, h => absurd ((h b).2 (List.mem_cons_self ..)) (by simp)
  | a :: A, [], _, _, h => absurd ((h a).1 (List.mem_cons_self ..)) (by simp)
  | a :: A, b :: B, ha, hb, h => by
    obtain ⟨ha1, ha2⟩ := List.pairwise_cons.1 ha
    obtain ⟨hb1, hb2⟩ := List.pairwise_cons.1 hb
    have hab : a = b := by
      rcases List.mem_cons.1 ((h a).1 (List.mem_cons_self ..)) with e | e
      · exact e
      · rcases List.mem_cons.1 ((h b).2 (List.mem_cons_self ..)) with e2 | e2
        · exact e2.symm
        · have h1 := ha1 b e2
          have h2 := hb1 a e
          rw [cmpU_flip h2] at h1
          cases h1
    subst hab
    have hn : ∀ {C : List Su}, (∀ x ∈ C, cmpU a x = -1) → a ∉ C := fun hc hm => by
      have h1 := hc a hm
      rw [cmpU_self] at h1
      cases h1
    rw [ascU_unique ha2 hb2 (fun x => ?_)]
    constructor
    · intro hx
      rcases List.mem_cons.1 ((h x).1 (List.mem_cons_of_mem _ hx)) with e | e
      · exact absurd (e ▸ hx) (hn ha1)
      · exact e
    · intro hx
      rcases List.mem_cons.1 ((h x).2 (List.mem_cons_of_mem _ hx)) with e | e
      · exact absurd (e ▸ hx) (hn hb1)
      · exact e
theorem compactU_inv (M : List Su) (h : M.Pairwise fun x y => cmpU x y ≤ 0) : ∀ m, m ≤ M.length → AscU (Lib.compactUpTo M.toArray m) ∧ ∀ x, x ∈ Lib.compactUpTo M.toArray m ↔ x ∈ M.take m := by
  intro m
  induction m with
  | zero => intro _; exact ⟨by simp [Lib.compactUpTo], by simp [Lib.compactUpTo]⟩
  | succ m ih =>
    intro hm
    obtain ⟨i1, i2⟩ := ih (by omega)
    have hget : M.toArray[m]! = M[m] := getElem!_pos M.toArray m (by simpa using (show m < M.length by omega))
    have htk : M.take (m + 1) = M.take m ++ [M[m]] := by rw [List.take_add_one, List.getElem?_eq_getElem (show m < M.length by omega)]; rfl
    have hle : ∀ x ∈ M.take m, cmpU x M[m] ≤ 0 := fun x hx => by
      have h2 : (M.take (m + 1)).Pairwise fun x y => cmpU x y ≤ 0 := h.sublist (List.take_sublist _ _)
      rw [htk, List.pairwise_append] at h2
      exact h2.2.2 x hx M[m] (by simp)
    rw [Lib.compactUpTo_succ, htk]
    cases hk : Lib.keeps M.toArray m with
    | false =>
      unfold Lib.keeps at hk
      have hk2 := of_decide_eq_false hk
      have hm0 : m ≠ 0 := fun e => hk2 (.inl e)
      have he : M.toArray[m]! = M.toArray[m - 1]! := Classical.byContradiction fun e => hk2 (.inr e)
      rw [hget, getElem!_pos M.toArray (m - 1) (by simpa using (show m - 1 < M.length by omega))] at he
      have hin : M[m] ∈ M.take m := by
        rw [he, List.getElem_toArray]
        exact List.mem_take_iff_getElem.2 ⟨m - 1, by omega, rfl⟩
      simp only [Bool.false_eq_true, if_false, List.append_nil]
      refine ⟨i1, fun x => (i2 x).trans ⟨fun hx => List.mem_append_left _ hx, fun hx => ?_⟩⟩
      rcases List.mem_append.1 hx with e | e
      · exact e
      · rw [List.mem_singleton.1 e]; exact hin
    | true =>
      unfold Lib.keeps at hk
      have hk2 := of_decide_eq_true hk
      rw [if_pos rfl, hget]
      refine ⟨?_, fun x => by rw [List.mem_append, List.mem_append, i2 x]⟩
      refine List.pairwise_append.2 ⟨i1, by simp, fun x hx y hy => ?_⟩
      rw [List.mem_singleton.1 hy]
      have hx2 := (i2 x).1 hx
      have hl := hle x hx2
      rcases cmpU_vals x M[m] with e | e | e
      · exact e
      · exfalso
        have hxe := cmpU_zero.1 e
        obtain ⟨j, hj, hxj⟩ := List.mem_take_iff_getElem.1 hx2
        have hm0 : m ≠ 0 := by omega
        have hne : M.toArray[m]! ≠ M.toArray[m - 1]! := hk2.resolve_left hm0
        rw [hget, getElem!_pos M.toArray (m - 1) (by simpa using (show m - 1 < M.length by omega)), List.getElem_toArray] at hne
        have h1 : cmpU M[m - 1] M[m] ≤ 0 := hle _ (List.mem_take_iff_getElem.2 ⟨m - 1, by omega, rfl⟩)
        have h2 : cmpU x M[m - 1] ≤ 0 := by
          by_cases hjm : j = m - 1
          · subst hjm; rw [← hxj, cmpU_self]; exact Int.le_refl _
          · have := List.pairwise_iff_getElem.1 h j (m - 1) (by omega) (by omega) (by omega)
            rw [← hxj]; exact this
        rw [hxe] at h2
        have h3 := cmpU_neg M[m] M[m - 1]
        exact hne (cmpU_zero.1 (by omega))
      · omega
theorem compactU_srt (M : List Su) (h : M.Pairwise fun x y => cmpU x y ≤ 0) : AscU (Lib.compact M) ∧ ∀ x, x ∈ Lib.compact M ↔ x ∈ M := by
  have := compactU_inv M h M.length (Nat.le_refl _)
  rw [List.take_length] at this
  exact this

theorem asc_next {L : List Su} (h : ∀ i (hi : i + 1 < L.length), cmpU L[i] L[i + 1] = -1) : AscU L := by
  refine List.pairwise_iff_getElem.2 fun i j hi hj hij => ?_
  obtain ⟨d, rfl⟩ : ∃ d, j = i + 1 + d := ⟨j - (i + 1), by omega⟩
  clear hij
  induction d with
  | zero => exact h i hj
  | succ d ih => exact cmpU_ltle (ih (by omega)) (by have := h (i + 1 + d) (by omega); show cmpU L[i + 1 + d] L[i + 1 + d + 1] ≤ 0; omega)
theorem asc_at {L : List Su} (h : AscU L) (i : Nat) (hi : i + 1 < L.length) : cmpU L[i] L[i + 1] = -1 := List.pairwise_iff_getElem.1 h i (i + 1) (by omega) hi (by omega)
theorem asc_nodup {L : List Su} (h : AscU L) : L.Nodup := h.imp fun h e => by subst e; rw [cmpU_self] at h; cases h
/-- One is put in. -/
def putU (x : Su) : List Su → List Su
  | [] => [x]
  | y :: R => if cmpU x y = -1 then x :: y :: R else if x = y then y :: R else y :: putU x R
theorem mem_putU (x z : Su) : ∀ R : List Su, z ∈ putU x R ↔ z = x ∨ z ∈ R
  | [] => by simp [putU]
  | y :: R => by
    unfold putU
    split
    · simp
    · split
      · rename_i h; subst h; simp
      · rw [List.mem_cons, mem_putU x z R, List.mem_cons]
        constructor
        · rintro (h | h | h)
          · exact .inr (.inl h)
          · exact .inl h
          · exact .inr (.inr h)
        · rintro (h | h | h)
          · exact .inr (.inl h)
          · exact .inl h
          · exact .inr (.inr h)
theorem asc_putU (x : Su) : ∀ R : List Su, AscU R → AscU (putU x R)
  | [], _ => by simp [putU]
  | y :: R, h => by
    obtain ⟨h1, h2⟩ := List.pairwise_cons.1 h
    unfold putU
    split
    · rename_i hx
      refine List.pairwise_cons.2 ⟨fun z hz => ?_, h⟩
      rcases List.mem_cons.1 hz with rfl | hz
      · exact hx
      · exact cmpU_ltle hx (by rw [h1 z hz]; decide)
    · split
      · exact h
      · rename_i hx hne
        refine List.pairwise_cons.2 ⟨fun z hz => ?_, asc_putU x R h2⟩
        rcases (mem_putU x z R).1 hz with rfl | hz
        · have := cmpU_neg z y
          rcases cmpU_vals z y with e | e | e
          · exact absurd e hx
          · exact absurd (cmpU_zero.1 e) hne
          · omega
        · exact h1 z hz
theorem len_putU (x : Su) : ∀ R : List Su, x ∉ R → (putU x R).length = R.length + 1
  | [], _ => rfl
  | y :: R, h => by
    unfold putU
    split
    · rfl
    · split
      · rename_i e; exact absurd (e ▸ List.mem_cons_self ..) h
      · rw [List.length_cons, len_putU x R (fun hm => h (List.mem_cons_of_mem _ hm)), List.length_cons]
/-- What Of answers: each once, in order. -/
def srt (L : List Su) : List Su := L.foldr putU []
theorem asc_srt : ∀ L : List Su, AscU (srt L)
  | [] => List.Pairwise.nil
  | x :: L => asc_putU x _ (asc_srt L)
theorem mem_srt {x : Su} : ∀ {L : List Su}, x ∈ srt L ↔ x ∈ L
  | [] => Iff.rfl
  | y :: L => by
    show x ∈ putU y (srt L) ↔ _
    rw [mem_putU, mem_srt, List.mem_cons]
theorem srt_of {L R : List Su} (h : AscU R) (hm : ∀ x, x ∈ R ↔ x ∈ L) : R = srt L := ascU_unique h (asc_srt L) fun x => (hm x).trans mem_srt.symm
theorem srt_congr {L M : List Su} (hm : ∀ x, x ∈ L ↔ x ∈ M) : srt L = srt M := srt_of (asc_srt L) fun x => mem_srt.trans (hm x)
theorem srt_asc {L : List Su} (h : AscU L) : srt L = L := (srt_of h fun _ => Iff.rfl).symm
theorem srt_srt (L : List Su) : srt (srt L) = srt L := srt_asc (asc_srt L)
theorem len_srt : ∀ {L : List Su}, L.Nodup → (srt L).length = L.length
  | [], _ => rfl
  | x :: L, h => by
    obtain ⟨h1, h2⟩ := List.nodup_cons.1 h
    show (putU x (srt L)).length = _
    rw [len_putU x _ (fun hm => h1 (mem_srt.1 hm)), len_srt h2, List.length_cons]
theorem len_put_le (x : Su) : ∀ R : List Su, (putU x R).length ≤ R.length + 1
  | [] => Nat.le_refl _
  | y :: R => by
    unfold putU
    split
    · exact Nat.le_refl _
    · split
      · exact Nat.le_succ _
      · have := len_put_le x R; simp only [List.length_cons]; omega
theorem len_srt_le : ∀ L : List Su, (srt L).length ≤ L.length
  | [] => Nat.le_refl _
  | x :: L => by have := len_srt_le L; have h2 := len_put_le x (srt L); show (putU x (srt L)).length ≤ _; simp only [List.length_cons]; omega
theorem len_same {A B : List Su} (hA : A.Nodup) (hB : B.Nodup) (h : ∀ x, x ∈ A ↔ x ∈ B) : A.length = B.length := by rw [← len_srt hA, ← len_srt hB, srt_congr h]
/-- What one has more, what both have, what one of both has. -/
def minU (A B : List Su) : List Su := srt (A.filter fun x => !decide (x ∈ B))
def botU (A B : List Su) : List Su := srt (A.filter fun x => decide (x ∈ B))
def eitU (A B : List Su) : List Su := srt (A ++ B)
theorem mem_minU {A B : List Su} {x : Su} : x ∈ minU A B ↔ x ∈ A ∧ x ∉ B := by unfold minU; rw [mem_srt, List.mem_filter]; simp
theorem mem_botU {A B : List Su} {x : Su} : x ∈ botU A B ↔ x ∈ A ∧ x ∈ B := by unfold botU; rw [mem_srt, List.mem_filter]; simp
theorem mem_eitU {A B : List Su} {x : Su} : x ∈ eitU A B ↔ x ∈ A ∨ x ∈ B := by unfold eitU; rw [mem_srt, List.mem_append]
theorem asc_minU (A B : List Su) : AscU (minU A B) := asc_srt _
theorem asc_botU (A B : List Su) : AscU (botU A B) := asc_srt _
theorem asc_eitU (A B : List Su) : AscU (eitU A B) := asc_srt _
theorem len_minU (A B : List Su) : (minU A B).length ≤ A.length := Nat.le_trans (len_srt_le _) (List.length_filter_le _ _)
theorem len_botU (A B : List Su) : (botU A B).length ≤ A.length := Nat.le_trans (len_srt_le _) (List.length_filter_le _ _)
theorem len_eitU (A B : List Su) : (eitU A B).length ≤ A.length + B.length := Nat.le_trans (len_srt_le _) (by rw [List.length_append]; exact Nat.le_refl _)
/-- How many there are, apart and together. -/
theorem len_apart {A B : List Su} (hA : AscU A) : (minU A B).length + (botU A B).length + (minU B A).length = (eitU A B).length := by
  have hn : (A ++ minU B A).Nodup := List.nodup_append.2 ⟨asc_nodup hA, asc_nodup (asc_minU _ _), fun x hx y hy e => by
    subst e; exact (mem_minU.1 hy).2 hx⟩
  have h1 : (A ++ minU B A).length = (eitU A B).length := len_same hn (asc_nodup (asc_eitU _ _)) fun x => by
    rw [List.mem_append, mem_minU, mem_eitU]
    constructor
    · rintro (h | h)
      · exact .inl h
      · exact .inr h.1
    · rintro (h | h)
      · exact .inl h
      · by_cases hx : x ∈ A
        · exact .inl hx
        · exact .inr ⟨h, hx⟩
  have hn2 : (minU A B ++ botU A B).Nodup := List.nodup_append.2 ⟨asc_nodup (asc_minU _ _), asc_nodup (asc_botU _ _), fun x hx y hy e => by
    subst e; exact (mem_minU.1 hx).2 (mem_botU.1 hy).2⟩
  have h2 : (minU A B ++ botU A B).length = A.length := len_same hn2 (asc_nodup hA) fun x => by
    rw [List.mem_append, mem_minU, mem_botU]
    constructor
    · rintro (h | h) <;> exact h.1
    · intro h
      by_cases hx : x ∈ B
      · exact .inr ⟨h, hx⟩
      · exact .inl ⟨h, hx⟩
  rw [List.length_append] at h1 h2
  omega
/-- The least of two sets that rise, and in which of them it is. -/
def leastU : List Su → List Su → Su × Bool × Bool
  | [], [] => (default, false, false)
  | [], y :: _ => (y, false, true)
  | x :: _, [] => (x, true, false)
  | x :: _, y :: _ => if cmpU x y ≤ 0 then (x, true, decide (cmpU x y = 0)) else (y, false, true)
def mrgN (keep : Bool → Bool → Bool) : Nat → List Su → List Su → List Su
  | 0, _, _ => []
  | n + 1, A, B => if A = [] ∧ B = [] then [] else
      (if keep (leastU A B).2.1 (leastU A B).2.2 then [(leastU A B).1] else []) ++ mrgN keep n (if (leastU A B).2.1 then A.tail else A) (if (leastU A B).2.2 then B.tail else B)
theorem mrgN_nil (keep : Bool → Bool → Bool) : ∀ n, mrgN keep n [] [] = []
  | 0 => rfl
  | _ + 1 => by simp [mrgN]
/-- What is told of the least. -/
theorem least_fact {A B : List Su} (hA : AscU A) (hB : AscU B) (h : ¬ (A = [] ∧ B = [])) :
    ((leastU A B).2.1 = decide ((leastU A B).1 ∈ A)) ∧ ((leastU A B).2.2 = decide ((leastU A B).1 ∈ B)) ∧ ((leastU A B).1 ∈ A ∨ (leastU A B).1 ∈ B) ∧
    (∀ z, z ∈ (if (leastU A B).2.1 then A.tail else A) ↔ z ∈ A ∧ z ≠ (leastU A B).1) ∧ (∀ z, z ∈ (if (leastU A B).2.2 then B.tail else B) ↔ z ∈ B ∧ z ≠ (leastU A B).1) ∧
    (∀ z, (z ∈ A ∨ z ∈ B) → z ≠ (leastU A B).1 → cmpU (leastU A B).1 z = -1) := by
  have tl : ∀ {x : Su} {C : List Su}, AscU (x :: C) → ∀ z, z ∈ C ↔ z ∈ x :: C ∧ z ≠ x := fun {x C} h z => by
    have h1 := (List.pairwise_cons.1 h).1
    rw [List.mem_cons]
    constructor
    · intro hz
      refine ⟨.inr hz, fun e => ?_⟩
      subst e
      have := h1 z hz
      rw [cmpU_self] at this; cases this
    · rintro ⟨rfl | hz, hne⟩
      · exact absurd rfl hne
      · exact hz
  match A, B, hA, hB, h with
  | [], [], _, _, h => exact absurd ⟨rfl, rfl⟩ h
  | [], y :: B, _, hB, _ =>
    obtain ⟨h1, h2⟩ := List.pairwise_cons.1 hB
    refine ⟨by simp [leastU], by simp [leastU], .inr (by simp [leastU]), fun z => by simp [leastU], fun z => tl hB z, fun z hz hne => ?_⟩
    rcases hz with hz | hz
    · cases hz
    · rcases List.mem_cons.1 hz with e | hz
      · exact absurd e hne
      · exact h1 z hz
  | x :: A, [], hA, _, _ =>
    obtain ⟨h1, h2⟩ := List.pairwise_cons.1 hA
    refine ⟨by simp [leastU], by simp [leastU], .inl (by simp [leastU]), fun z => tl hA z, fun z => by simp [leastU], fun z hz hne => ?_⟩
    rcases hz with hz | hz
    · rcases List.mem_cons.1 hz with e | hz
      · exact absurd e hne
      · exact h1 z hz
    · cases hz
  | x :: A, y :: B, hA, hB, _ =>
    obtain ⟨h1, _⟩ := List.pairwise_cons.1 hA
    obtain ⟨h2, _⟩ := List.pairwise_cons.1 hB
    have h1' : ∀ z ∈ x :: A, cmpU x z ≤ 0 := fun z hz => by
      rcases List.mem_cons.1 hz with rfl | hz
      · rw [cmpU_self]; decide
      · rw [h1 z hz]; decide
    have h2' : ∀ z ∈ y :: B, cmpU y z ≤ 0 := fun z hz => by
      rcases List.mem_cons.1 hz with rfl | hz
      · rw [cmpU_self]; decide
      · rw [h2 z hz]; decide
    have lt : ∀ {u z : Su}, cmpU u z ≤ 0 → z ≠ u → cmpU u z = -1 := fun {u z} h hne => by
      rcases cmpU_vals u z with e | e | e
      · exact e
      · exact absurd (cmpU_zero.1 e).symm hne
      · omega
    by_cases hc : cmpU x y ≤ 0
    · have hL : leastU (x :: A) (y :: B) = (x, true, decide (cmpU x y = 0)) := by show (if cmpU x y ≤ 0 then _ else _) = _; rw [if_pos hc]
      rw [hL]
      have hxB : ∀ z ∈ y :: B, cmpU x z ≤ 0 := fun z hz => cmpU_trans hc (h2' z hz)
      have hin : (cmpU x y = 0) ↔ x ∈ y :: B := by
        constructor
        · intro e; rw [cmpU_zero.1 e]; exact List.mem_cons_self ..
        · intro hm
          have := h2' x hm
          have h3 := cmpU_neg x y
          omega
      refine ⟨by simp, by simp only [hin], .inl (List.mem_cons_self ..), fun z => tl hA z, fun z => ?_, fun z hz hne => ?_⟩
      · by_cases he : cmpU x y = 0
        · have := cmpU_zero.1 he
          subst this
          simp only [cmpU_self, decide_true, if_true]
          exact tl hB z
        · simp only [he, decide_false, Bool.false_eq_true, if_false]
          constructor
          · intro hz
            refine ⟨hz, fun e => he (hin.2 (e ▸ hz))⟩
          · exact fun h => h.1
      · rcases hz with hz | hz
        · exact lt (h1' z hz) hne
        · exact lt (hxB z hz) hne
    · have hL : leastU (x :: A) (y :: B) = (y, false, true) := by show (if cmpU x y ≤ 0 then _ else _) = _; rw [if_neg hc]
      rw [hL]
      have hyx : cmpU y x = -1 := by
        have := cmpU_neg x y
        rcases cmpU_vals x y with e | e | e <;> omega
      have hyA : ∀ z ∈ x :: A, cmpU y z = -1 := fun z hz => cmpU_ltle hyx (h1' z hz)
      have hin : y ∉ x :: A := fun hm => by
        have := hyA y hm
        rw [cmpU_self] at this; cases this
      refine ⟨by simp only [hin, decide_false], by simp, .inr (List.mem_cons_self ..), fun z => ?_, fun z => tl hB z, fun z hz hne => ?_⟩
      · simp only [Bool.false_eq_true, if_false]
        exact ⟨fun hz => ⟨hz, fun e => hin (e ▸ hz)⟩, fun h => h.1⟩
      · rcases hz with hz | hz
        · exact hyA z hz
        · exact lt (h2' z hz) hne
theorem asc_tail {A : List Su} (h : AscU A) : AscU A.tail := by
  cases A with
  | nil => exact h
  | cons x A => exact (List.pairwise_cons.1 h).2
theorem mrgN_spec (keep : Bool → Bool → Bool) : ∀ (n : Nat) (A B : List Su), AscU A → AscU B → A.length + B.length ≤ n →
    AscU (mrgN keep n A B) ∧ ∀ z, z ∈ mrgN keep n A B ↔ (z ∈ A ∨ z ∈ B) ∧ keep (decide (z ∈ A)) (decide (z ∈ B)) = true
  | 0, A, B, _, _, hl => by
    have h1 : A = [] := List.eq_nil_of_length_eq_zero (by omega)
    have h2 : B = [] := List.eq_nil_of_length_eq_zero (by omega)
    subst h1; subst h2
    exact ⟨List.Pairwise.nil, fun z => by simp [mrgN]⟩
  | n + 1, A, B, hA, hB, hl => by
    by_cases h0 : A = [] ∧ B = []
    · obtain ⟨rfl, rfl⟩ := h0
      rw [mrgN_nil]
      exact ⟨List.Pairwise.nil, fun z => by simp⟩
    · obtain ⟨f1, f2, f3, f4, f5, f6⟩ := least_fact hA hB h0
      have hA' : AscU (if (leastU A B).2.1 then A.tail else A) := by split; exact asc_tail hA; exact hA
      have hB' : AscU (if (leastU A B).2.2 then B.tail else B) := by split; exact asc_tail hB; exact hB
      have hlen : (if (leastU A B).2.1 then A.tail else A).length + (if (leastU A B).2.2 then B.tail else B).length ≤ n := by
        have k1 : A.tail.length = A.length - 1 := List.length_tail
        have k2 : B.tail.length = B.length - 1 := List.length_tail
        rcases f3 with h | h
        · have : 0 < A.length := List.length_pos_of_mem h
          rw [f1, decide_eq_true h, if_pos rfl, k1]
          split <;> omega
        · have : 0 < B.length := List.length_pos_of_mem h
          rw [f2, decide_eq_true h, if_pos rfl, k2]
          split <;> omega
      obtain ⟨i1, i2⟩ := mrgN_spec keep n _ _ hA' hB' hlen
      rw [mrgN, if_neg h0]
      generalize hA2 : (if (leastU A B).2.1 then A.tail else A) = A2 at *
      generalize hB2 : (if (leastU A B).2.2 then B.tail else B) = B2 at *
      generalize hM : mrgN keep n A2 B2 = M at *
      generalize hx : (leastU A B).1 = x at *
      rw [f1, f2]
      have hmem : ∀ z, z ∈ M → z ≠ x ∧ (z ∈ A ∨ z ∈ B) := fun z hz => by
        have := ((i2 z).1 hz).1
        rw [f4 z, f5 z] at this
        rcases this with h | h
        · exact ⟨h.2, .inl h.1⟩
        · exact ⟨h.2, .inr h.1⟩
      have key : ∀ z, z ∈ M ↔ z ≠ x ∧ (z ∈ A ∨ z ∈ B) ∧ keep (decide (z ∈ A)) (decide (z ∈ B)) = true := fun z => by
        rw [i2 z]
        simp only [f4 z, f5 z]
        by_cases hz : z = x
        · simp [hz]
        · simp [hz]
      refine ⟨?_, fun z => ?_⟩
      · split
        · exact List.pairwise_cons.2 ⟨fun z hz => f6 z (hmem z hz).2 (hmem z hz).1, i1⟩
        · exact i1
      · rw [List.mem_append, key z]
        by_cases hz : z = x
        · subst hz
          by_cases hk : keep (decide (z ∈ A)) (decide (z ∈ B)) = true
          · simp [hk, f3]
          · simp [hk]
        · by_cases hk : keep (decide (x ∈ A)) (decide (x ∈ B)) = true
          · simp [hk, hz]
          · simp [hk, hz]
def kMin (a b : Bool) : Bool := a && !b
def kBot (a b : Bool) : Bool := a && b
def kEit (a b : Bool) : Bool := a || b
theorem mrg_min (A B : List Su) : mrgN kMin ((srt A).length + (srt B).length) (srt A) (srt B) = minU A B := by
  obtain ⟨h1, h2⟩ := mrgN_spec kMin _ (srt A) (srt B) (asc_srt A) (asc_srt B) (Nat.le_refl _)
  refine ascU_unique h1 (asc_minU _ _) fun z => ?_
  rw [h2, mem_minU]
  simp only [mem_srt]
  unfold kMin
  by_cases a : z ∈ A <;> by_cases b : z ∈ B <;> simp [a, b]
theorem mrg_bot (A B : List Su) : mrgN kBot ((srt A).length + (srt B).length) (srt A) (srt B) = botU A B := by
  obtain ⟨h1, h2⟩ := mrgN_spec kBot _ (srt A) (srt B) (asc_srt A) (asc_srt B) (Nat.le_refl _)
  refine ascU_unique h1 (asc_botU _ _) fun z => ?_
  rw [h2, mem_botU]
  simp only [mem_srt]
  unfold kBot
  by_cases a : z ∈ A <;> by_cases b : z ∈ B <;> simp [a, b]
theorem mrg_eit (A B : List Su) : mrgN kEit ((srt A).length + (srt B).length) (srt A) (srt B) = eitU A B := by
  obtain ⟨h1, h2⟩ := mrgN_spec kEit _ (srt A) (srt B) (asc_srt A) (asc_srt B) (Nat.le_refl _)
  refine ascU_unique h1 (asc_eitU _ _) fun z => ?_
  rw [h2, mem_eitU]
  simp only [mem_srt]
  unfold kEit
  by_cases a : z ∈ A <;> by_cases b : z ∈ B <;> simp [a, b]
/-- For the sort: by what is less. -/
theorem ltU_iff (x y : Su) : ltOf cmpU x y = true ↔ cmpU x y < 0 := decide_eq_true_iff
theorem nltU_iff (x y : Su) : ltOf cmpU x y = false ↔ cmpU y x ≤ 0 := by
  unfold ltOf
  rw [decide_eq_false_iff_not, cmpU_neg x y]
  omega
theorem swoU : SWO (ltOf cmpU) where
  irrefl x := by rw [nltU_iff, cmpU_self]; exact Int.le_refl _
  trans x y z h1 h2 := by
    rw [ltU_iff] at *
    have e : cmpU x y = -1 := by rcases cmpU_vals x y with e | e | e <;> omega
    have := cmpU_ltle e (show cmpU y z ≤ 0 by omega)
    omega
  ntrans x y z h1 h2 := by
    rw [nltU_iff] at *
    exact cmpU_trans h2 h1
theorem partedU (x y : Su) (h1 : ltOf cmpU x y = false) (h2 : ltOf cmpU y x = false) : x = y := by
  rw [nltU_iff] at h1 h2
  have := cmpU_neg x y
  exact cmpU_zero.1 (by omega)
theorem sortU_facts (D : List Su) : (D.mergeSort fun x y => !(ltOf cmpU) y x).Perm D ∧ (D.mergeSort fun x y => !(ltOf cmpU) y x).Pairwise fun x y => cmpU x y ≤ 0 := by
  refine ⟨List.mergeSort_perm D _, ?_⟩
  refine (List.pairwise_mergeSort (le := fun x y => !(ltOf cmpU) y x) (fun a b c h1 h2 => ?_) (fun a b => ?_) D).imp fun h => ?_
  · simp only [Bool.not_eq_true', nltU_iff] at *
    exact cmpU_trans h1 h2
  · simp only [Bool.or_eq_true, Bool.not_eq_true', nltU_iff]
    have := cmpU_neg a b
    omega
  · simpa [nltU_iff] using h
theorem of_srt (D : List Su) : Lib.compact (D.mergeSort fun x y => !(ltOf cmpU) y x) = srt D := by
  obtain ⟨h1, h2⟩ := sortU_facts D
  obtain ⟨h3, h4⟩ := compactU_srt _ h2
  exact srt_of h3 fun x => (h4 x).trans h1.mem_iff
end Go.Proofs.YthpledfjopbchaaDoor
/- A region that draws its order, walked in one named order; the condition on the memory follows the world: behind each operation it is 'new memory beside what the world now holds', so that what a call has made may be read by an operation that is taken first. No condition. -/
namespace Go.Proofs.YthpledfjopbchaaDoor
open Go.RowKit
/-- The world has grown. -/
def Ext (w w' : World) : Prop := Below w.heap.size w w'
theorem Ext.refl (w : World) : Ext w w := Below.refl _ _
theorem Ext.trans {a b c : World} (h : Ext a b) (h' : Ext b c) : Ext a c := Below.trans h (Below.mono h' (Below.size h))
section
variable {P : Program} {md : Region.Mode} {ops : Array Oper} {Q : Exit → Act → World → Prop}
theorem wpAnyH_mono {S S' : World → Prop} (hS : ∀ w, S' w → S w) : ∀ (fuel : Nat) (listed : Array Bool) (a : Act) (w : World), wpAnyH P md ops Q S' fuel listed a w → wpAnyH P md ops Q S fuel listed a w
  | 0, _, _, _, h => h
  | fuel + 1, _, _, _, h => ⟨h.1, fun i hi => wpOp_mono (fun a' w' h' => ⟨hS _ h'.1, wpAnyH_mono hS fuel _ a' w' h'.2⟩) (h.2 i hi)⟩
def wpOrg (P : Program) (ops : Array Oper) (Q : Exit → Act → World → Prop) : List (Nat × Bool) → Act → World → Prop
  | [], a, w => Q .normal a w
  | (i, true) :: r, a, w => ∃ o v, ops[i]? = some o ∧ YieldsIf P ops (Ext w) o v a ∧ wpOrg P ops Q r (a.put o.dst v) w
  | (i, false) :: r, a, w => wpOp P ops Q i (fun a' w' => Ext w w' ∧ wpOrg P ops Q r a' w') a w
theorem wpAnyH_of_org (hs : Region.noSelect ops = true) (hQ : ∀ c a d v w, Q (.panic c) (a.put d v) w → Q (.panic c) a w) :
    ∀ (l : List (Nat × Bool)) (fuel : Nat) (listed : Array Bool) (a : Act) (w : World), l.length ≤ fuel → orsB md ops l listed = true → wpOrg P ops Q l a w →
      wpAnyH P md ops Q (Ext w) fuel listed a w
  | [], fuel, listed, a, w, _, hB, h => wpAnyH_done (by simpa [orsB] using hB) h fuel
  | (i, b) :: r, 0, _, _, _, hl, _, _ => absurd hl (by simp)
  | (i, true) :: r, fuel + 1, listed, a, w, hl, hB, h => by
    obtain ⟨o, v, ho, hy, hr⟩ := h
    simp only [orsB, Bool.and_eq_true] at hB
    exact wpAnyH_take ho hs hB.1 hB.2.1 (fun c a w => hQ c a _ v w) hy (Ext.refl w) (wpAnyH_of_org hs hQ r fuel _ _ _ (by simpa using hl) hB.2.2 hr)
  | (i, false) :: r, fuel + 1, listed, a, w, hl, hB, h => by
    simp only [orsB, Bool.and_eq_true, decide_eq_true_eq] at hB
    refine wpAnyH_all hB.1 (by simp) (fun j hj => ?_)
    have hj : j = i := by simpa using hj
    subst hj
    exact wpOp_mono (fun a' w' h' => ⟨h'.1, wpAnyH_mono (fun x hx => Ext.trans h'.1 hx) _ _ _ _ (wpAnyH_of_org hs hQ r fuel _ _ _ (by simpa using hl) hB.2 h'.2)⟩) h
/-- The same with the operations themselves in their places. -/
def wpOrgL (P : Program) (ops : Array Oper) (Q : Exit → Act → World → Prop) : List (Oper × Bool) → Act → World → Prop
  | [], a, w => Q .normal a w
  | (o, true) :: r, a, w => ∃ v, YieldsIf P ops (Ext w) o v a ∧ wpOrgL P ops Q r (a.put o.dst v) w
  | (o, false) :: r, a, w => if Region.wanted o (yielded ops a.tmps) then o.wp P a w (fun a' w' => Ext w w' ∧ wpOrgL P ops Q r a' w') Q ∨ (o.asks P a w ∧ LetsOut Q) else wpOrgL P ops Q r (a.put o.dst undef) w
theorem wpOrg_of_L (ops : Array Oper) : ∀ (l : List (Nat × Bool)) (a : Act) (w : World), (l.all fun x => decide (x.1 < ops.size)) = true →
    wpOrgL P ops Q (pickOrs ops.toList l) a w → wpOrg P ops Q l a w
  | [], _, _, _, h => h
  | (i, b) :: r, a, w, hl, h => by
    simp only [List.all_cons, Bool.and_eq_true, decide_eq_true_eq] at hl
    have ho : ops.toList[i]? = some ops[i] := by simp [hl.1]
    have ho' : ops[i]? = some ops[i] := by simp [hl.1]
    rw [pickOrs, ho] at h
    cases b with
    | true =>
      obtain ⟨v, hy, hr⟩ := h
      exact ⟨_, v, ho', hy, wpOrg_of_L ops r _ _ hl.2 hr⟩
    | false =>
      show wpOp P ops Q i (fun a' w' => Ext w w' ∧ wpOrg P ops Q r a' w') a w
      have h2 : wpOp P ops Q i (fun a' w' => Ext w w' ∧ wpOrgL P ops Q (pickOrs ops.toList r) a' w') a w := by
        unfold wpOp
        rw [ho']
        show if _ then _ else _
        have h1 : (if Region.wanted ops[i] (yielded ops a.tmps) then (ops[i]).wp P a w (fun a' w' => Ext w w' ∧ wpOrgL P ops Q (pickOrs ops.toList r) a' w') Q ∨ ((ops[i]).asks P a w ∧ LetsOut Q) else wpOrgL P ops Q (pickOrs ops.toList r) (a.put (ops[i]).dst undef) w) := h
        split
        · rename_i hw; rw [if_pos hw] at h1; exact h1
        · rename_i hw; rw [if_neg hw] at h1; exact ⟨Ext.refl w, h1⟩
      exact wpOp_mono (fun a' w' h' => ⟨h'.1, wpOrg_of_L ops r _ _ hl.2 h'.2⟩) h2
theorem org_pure {o : Oper} {r : List (Oper × Bool)} {a : Act} {w : World} {v : Value} (hw : Region.wanted o (yielded ops a.tmps) = true)
    (hy : ∀ w', Ext w w' → (execOp a.eval o).run P w' = .ok (.value v) w') (h : wpOrgL P ops Q r (a.put o.dst v) w) : wpOrgL P ops Q ((o, true) :: r) a w :=
  ⟨v, .inl ⟨hw, hy⟩, h⟩
theorem org_skip {o : Oper} {r : List (Oper × Bool)} {a : Act} {w : World} (hw : Region.wanted o (yielded ops a.tmps) = false)
    (h : wpOrgL P ops Q r (a.put o.dst undef) w) : wpOrgL P ops Q ((o, true) :: r) a w :=
  ⟨undef, .inr ⟨hw, rfl⟩, h⟩
theorem org_step {o : Oper} {r : List (Oper × Bool)} {a : Act} {w : World} (hw : Region.wanted o (yielded ops a.tmps) = true)
    (h : ∀ K : Act → World → Prop, (∀ a w', Ext w w' ∧ wpOrgL P ops Q r a w' → K a w') → o.wp P a w K Q) : wpOrgL P ops Q ((o, false) :: r) a w := by
  have := h _ (fun _ _ h => h)
  show if _ then _ else _
  rw [if_pos hw]
  exact .inl this
theorem org_pass {o : Oper} {r : List (Oper × Bool)} {a : Act} {w : World} (hw : Region.wanted o (yielded ops a.tmps) = false)
    (h : wpOrgL P ops Q r (a.put o.dst undef) w) : wpOrgL P ops Q ((o, false) :: r) a w := by
  show if _ then _ else _
  rw [if_neg (by rw [hw]; simp)]
  exact h
/-- The region is shown not to panic. -/
theorem wp_region_org {id : Nat} {a : Act} {w : World} {lo : List Oper} (l : List (Nat × Bool)) (hm : P.follows .mixedOrders = true) (hs : Region.noSelect lo.toArray = true)
    (hB : (decide (l.length ≤ lo.toArray.size) && (orsB .any lo.toArray l (Array.replicate lo.toArray.size false) && l.all fun x => decide (x.1 < lo.toArray.size))) = true)
    (h : wpOrgL P lo.toArray (NoPanic Q) (pickOrs lo l) a w.drew) : (Code.region id lo.toArray true).wp P Q a w := by
  simp only [Bool.and_eq_true, decide_eq_true_eq] at hB
  exact wp_region_noPanic (wp_region_held_drew (S := Ext w.drew) hm (Ext.refl _) fun _ => wpAnyH_of_org hs (fun _ _ _ _ _ h => h) l _ _ _ _ hB.1 hB.2.1 (wpOrg_of_L _ _ _ _ hB.2.2 h))
theorem org_nil {a : Act} {w : World} (h : Q .normal a w) : wpOrgL P ops (NoPanic Q) [] a w := h
end
/-- The drawn regions of a body, by number. -/
def regs : Code → List (Nat × Array Oper)
  | .region id ops _ => [(id, ops)]
  | .seq a b => regs a ++ regs b
  | .block _ a => regs a
  | .loop a => regs a
  | .cond _ a b => regs a ++ regs b
  | _ => []
def regOf (c : Option Code) (id : Nat) : Array Oper :=
  match c with
  | some c => match (regs c).find? fun x => x.1 == id with
    | some x => x.2
    | none => #[]
  | none => #[]
/-- The check of an order, for a theorem of its own. -/
def orgB (l : List (Nat × Bool)) (q : Array Oper) : Bool :=
  decide (l.length ≤ q.size) && (orsB .any q l (Array.replicate q.size false) && l.all fun x => decide (x.1 < q.size))
theorem wp_region_orgc {P : Program} {Q : Exit → Act → World → Prop} {id : Nat} {a : Act} {w : World} {lo : List Oper} (l : List (Nat × Bool)) (q : Array Oper) (hq : orgB l q = true) (he : lo.toArray = q) (hm : P.follows .mixedOrders = true) (hs : Region.noSelect lo.toArray = true)
    (h : wpOrgL P lo.toArray (NoPanic Q) (pickOrs lo l) a w.drew) : (Code.region id lo.toArray true).wp P Q a w :=
  wp_region_org l hm hs (by rw [he]; exact hq) h
end Go.Proofs.YthpledfjopbchaaDoor
/- Rows of sums in memory: thirty-two cells a sum; a sum loaded, a row of one made, rows put behind, cut. No condition. -/
namespace Go.Proofs.YthpledfjopbchaaDoor
open Go.RowKit
def encU (x : Su) : List Value := x.1.map u8v
theorem encU_len (x : Su) : (encU x).length = 32 := by unfold encU; rw [List.length_map]; exact x.2
theorem encU_one (x : Su) : ∀ v ∈ encU x, v.oneCell' = true := fun v hv => by
  obtain ⟨y, _, rfl⟩ := List.mem_map.1 hv; rfl
theorem encU_all (x : Su) : (encU x).toArray.all (·.oneCell') = true := u8v_one _
theorem encU_size (x : Su) : (encU x).toArray.size = 32 := by simpa using encU_len x
def rowU (L : List Su) : List Value := L.flatMap encU
theorem rowU_len : ∀ L : List Su, (rowU L).length = L.length * 32
  | [] => rfl
  | x :: L => by
    have h : rowU (x :: L) = encU x ++ rowU L := rfl
    rw [h, List.length_append, encU_len, rowU_len L, List.length_cons]; omega
theorem rowU_app (A B : List Su) : rowU (A ++ B) = rowU A ++ rowU B := List.flatMap_append
theorem rowU_one (x : Su) : rowU [x] = encU x := by unfold rowU; simp
theorem rowU_take (L : List Su) (k : Nat) : (rowU L).take (k * 32) = rowU (L.take k) := by
  by_cases h : k ≤ L.length
  · conv => lhs; rw [← List.take_append_drop k L, rowU_app]
    rw [List.take_append_of_le_length (by rw [rowU_len, List.length_take]; omega), List.take_of_length_le (by rw [rowU_len, List.length_take]; omega)]
  · rw [List.take_of_length_le (by rw [rowU_len]; omega), List.take_of_length_le (by omega)]
theorem rowU_drop (L : List Su) (k : Nat) : (rowU L).drop (k * 32) = rowU (L.drop k) := by
  by_cases h : k ≤ L.length
  · conv => lhs; rw [← List.take_append_drop k L, rowU_app]
    rw [List.drop_append_of_le_length (by rw [rowU_len, List.length_take]; omega), List.drop_of_length_le (by rw [rowU_len, List.length_take]; omega), List.nil_append]
  · rw [List.drop_of_length_le (by rw [rowU_len]; omega), List.drop_of_length_le (by omega)]; rfl
theorem rowU_get (L : List Su) (i : Nat) (h : i < L.length) (j : Nat) (hj : j < 32) : (rowU L)[i * 32 + j]? = (encU L[i])[j]? := by
  have e : rowU L = rowU (L.take i) ++ (encU L[i] ++ rowU (L.drop (i + 1))) := by
    conv => lhs; rw [← List.take_append_drop i L, List.drop_eq_getElem_cons h, rowU_app]
    rfl
  have hl : (rowU (L.take i)).length = i * 32 := by rw [rowU_len, List.length_take]; omega
  rw [e, List.getElem?_append_right (by omega), hl, List.getElem?_append_left (by rw [encU_len]; omega)]
  congr 1; omega
theorem rowU_one' (L : List Su) : ∀ v ∈ rowU L, v.oneCell' = true := fun v hv => by
  obtain ⟨x, _, hx⟩ := List.mem_flatMap.1 hv
  exact encU_one x v hx
/-- A type of slices of sums, the type of its sums. -/
def ElT (T E : TypeId) : Prop := Tryd.prog.underlying T = some (.slice E) ∧ Tryd.prog.underlying E = some (.array 32 5) ∧ (Tryd.prog.info? E).map (fun i => (i.zero, i.size, i.bytes)) = some (some (.agg (Array.replicate 32 (.int .u8 0))), 32, 32)
/-- A slice in memory reads as these sums. -/
def Ss (w : World) (b : Nat) (q : Option Addr) (L : List Su) : Prop := Sees w b q (rowU L)
theorem Ss.el {w : World} {b : Nat} {q : Option Addr} {L : List Su} (h : Ss w b q L) {i : Nat} (hi : i < L.length) :
    ∃ a : Addr, q = some a ∧ a.block < b ∧ ∀ w', Below b w w' → ∀ j u, (encU L[i])[j]? = some u → w'.cell? ((a.add (i * 32)).add j) = some u := by
  obtain ⟨a, rfl, hb, hc⟩ := h.get (by rw [rowU_len]; omega)
  refine ⟨a, rfl, hb, fun w' hw j u hu => ?_⟩
  have hj : j < 32 := by have := (List.getElem?_eq_some_iff.1 hu).1; rwa [encU_len] at this
  rw [add_add, hw.cell (by rw [add_block]; exact hb)]
  exact hc _ u (by rw [rowU_get L i hi j hj]; exact hu)
/-- The value reads as these sums. -/
def Us (w : World) (v : Value) (L : List Su) : Prop := ∃ q c, v = .slice q L.length c ∧ L.length ≤ c ∧ (q = none → c = 0) ∧ Sees w w.heap.size q (rowU L)
theorem Us.keep {w w' : World} {v : Value} {L : List Su} (h : Us w v L) (hb : Below w.heap.size w w') : Us w' v L := by
  obtain ⟨q, c, h1, h2, h3, h4⟩ := h
  exact ⟨q, c, h1, h2, h3, (h4.keep hb).more hb.size⟩
theorem Us.drew {w : World} {v : Value} {L : List Su} (h : Us w v L) : Us w.drew v L := h
theorem Us.nil (w : World) : Us w (.slice none 0 0) [] := ⟨none, 0, rfl, Nat.le_refl _, fun _ => rfl, Sees.nil _ _ _⟩
/-- A row of the call's own. -/
def OwnU (w : World) (base : Nat) (E : TypeId) (v : Value) (L : List Su) : Prop := w.ownsRow base E 32 v L.length (rowU L)
theorem OwnU.nil (w : World) (base : Nat) (E : TypeId) : OwnU w base E (.slice none 0 0) [] := World.ownsRow_nil w base E 32
theorem OwnU.empty (w : World) (base : Nat) (E : TypeId) (hb : base ≤ w.heap.size) : OwnU (w.alloc (.cells #[] E)) base E (.slice (some ⟨w.heap.size, 0, none⟩) 0 0) [] :=
  World.ownsRow_made w #[] 0 hb (Nat.zero_le _) (by simp)
theorem OwnU.base {w : World} {base : Nat} {E : TypeId} {v : Value} {L : List Su} (h : OwnU w base E v L) : ∀ j, Value.ownBlock v = some j → base ≤ j := fun j hj => (World.ownsRow.lt h j hj).1
theorem OwnU.keep {w w' : World} {base : Nat} {E : TypeId} {v : Value} {L : List Su} (h : OwnU w base E v L) (hb : Below w.heap.size w w') : OwnU w' base E v L := by
  rcases h.2 with ⟨rfl, h0⟩ | ⟨g', cap, cur, rfl, hb', hg', h1, h2, h3, h4⟩
  · exact ⟨h.1, .inl ⟨rfl, h0⟩⟩
  · exact ⟨h.1, .inr ⟨g', cap, cur, rfl, hb', (hb.block g' (Array.getElem?_eq_some_iff.1 hg').1).trans hg', h1, h2, h3, h4⟩⟩
theorem OwnU.less {w : World} {b base : Nat} {E : TypeId} {v : Value} {L : List Su} (h : OwnU w base E v L) (hb : b ≤ base) : OwnU w b E v L := by
  rcases h.2 with ⟨rfl, h0⟩ | ⟨g', cap, cur, rfl, hb', r⟩
  · exact ⟨h.1, .inl ⟨rfl, h0⟩⟩
  · exact ⟨h.1, .inr ⟨g', cap, cur, rfl, by omega, r⟩⟩
theorem OwnU.us {w : World} {base : Nat} {E : TypeId} {v : Value} {L : List Su} (h : OwnU w base E v L) : Us w v L := by
  rcases h.2 with ⟨rfl, h0⟩ | ⟨g, cap, cur, rfl, hb, hg, h1, _⟩
  · have : L = [] := List.eq_nil_of_length_eq_zero h0
    subst this
    exact Us.nil w
  · exact ⟨_, cap, rfl, h1, fun e => (by cases e), fun _ => ⟨_, rfl, (Array.getElem?_eq_some_iff.1 hg).1, World.ownsRow.cells h (g := g) rfl⟩⟩
section
variable {P : Program}
theorem load_su {o : Oper} {ev : Operand → Value} {w : World} (E : TypeId) (x : Operand) (ho : o.op = .load E x) (p : Addr) (hx : ev x = .pointer (some p)) (hu : Tryd.prog.underlying E = some (.array 32 5)) (hi : (Tryd.prog.info? E).map (·.size) = some 32)
    (s : Su) (hc : ∀ j u, (encU s)[j]? = some u → w.cell? (p.add j) = some u) : (execOp ev o).run Tryd.prog w = .ok (.value (.agg (encU s).toArray)) w := by
  have hl := run_loadCells_list (P := Tryd.prog) w p (encU s) hc
  rw [encU_len] at hl
  have hrun : (loadVar E p).run Tryd.prog w = .ok (.agg (encU s).toArray) w := by
    cases hq : Tryd.prog.info? E with
    | none => simp [hq] at hi
    | some i =>
      have hs : i.size = 32 := by simpa [hq] using hi
      have hagg : (isAgg E).run Tryd.prog w = .ok true w := by
        unfold isAgg
        rw [Sem.run_bind, run_underlying hu w]
        simp
      simp only [loadVar, sizeOf, typeInfo, Sem.run_bind, hagg, Result.andThen_ok, if_true]
      simp [hq, hs, hl]
  unfold execOp
  simp only [ho, hx, Instr.loadAt, Instr.sureAddr, Sem.run_bind, Sem.run_pure, Result.andThen_ok, hrun]
end
section
variable {ops : Array Oper} {rest : List Oper} {o : Oper} {a : Act} {w : World} {Q : Exit → Act → World → Prop} {K : Act → World → Prop}
theorem wp_load_su (E : TypeId) (x : Operand) (ho : o.op = .load E x) (p : Addr) (hx : a.eval x = .pointer (some p)) (hu : Tryd.prog.underlying E = some (.array 32 5)) (hi : (Tryd.prog.info? E).map (·.size) = some 32)
    (s : Su) (hc : ∀ j u, (encU s)[j]? = some u → w.cell? (p.add j) = some u) (h : K (a.put o.dst (.agg (encU s).toArray)) w) : o.wp Tryd.prog a w K Q := by
  unfold Oper.wp
  rw [load_su E x ho p hx hu hi s hc]
  exact h
theorem wpList_load_su (hgd : o.guard = none) (E : TypeId) (x : Operand) (ho : o.op = .load E x) (p : Addr) (hx : a.eval x = .pointer (some p)) (hu : Tryd.prog.underlying E = some (.array 32 5)) (hi : (Tryd.prog.info? E).map (·.size) = some 32)
    (s : Su) (hc : ∀ j u, (encU s)[j]? = some u → w.cell? (p.add j) = some u) (h : wpList Tryd.prog ops Q rest (a.put o.dst (.agg (encU s).toArray)) w) : wpList Tryd.prog ops Q (o :: rest) a w :=
  wpList_plain hgd fun _ hK => wp_load_su E x ho p hx hu hi s hc (hK _ _ h)
theorem wpList_load_suOn (hw : Region.wanted o (yielded ops a.tmps) = true) (E : TypeId) (x : Operand) (ho : o.op = .load E x) (p : Addr) (hx : a.eval x = .pointer (some p)) (hu : Tryd.prog.underlying E = some (.array 32 5)) (hi : (Tryd.prog.info? E).map (·.size) = some 32)
    (s : Su) (hc : ∀ j u, (encU s)[j]? = some u → w.cell? (p.add j) = some u) (h : wpList Tryd.prog ops Q rest (a.put o.dst (.agg (encU s).toArray)) w) : wpList Tryd.prog ops Q (o :: rest) a w :=
  wpList_step fun K hK => by rw [if_pos hw]; exact wp_load_su E x ho p hx hu hi s hc (hK _ _ h)
def aggU (s : Su) : Value := .agg (encU s).toArray
theorem fill_many (L : List Su) (cells : Array Value) (hc : cells.size = L.length * 32) :
    Instr.fill (fun i => some (i * 32, 32)) cells (((L.map aggU).zipIdx 0).map fun x => (x.2, x.1)) = some (rowU L).toArray := by
  obtain ⟨r, h1, h2, h3⟩ := Great.fill_dense (s := 32) (by decide) (L.map aggU) 0 cells (fun v hv => by
    obtain ⟨x, _, rfl⟩ := List.mem_map.1 hv
    exact encU_size x) (by rw [List.length_map, hc, Nat.zero_add]; exact Nat.le_refl _)
  rw [h1]
  congr 1
  have hs : r.size = (rowU L).toArray.size := by rw [h2, hc]; simp [rowU_len]
  refine Array.ext hs fun k hk1 hk2 => ?_
  have h4 := h3 k
  have hk : k < L.length * 32 := by rw [h2, hc] at hk1; exact hk1
  have hi : k / 32 < L.length := by omega
  rw [if_pos ⟨by omega, by rw [List.length_map, Nat.zero_add]; exact hk⟩, Nat.sub_zero, List.getElem?_map, List.getElem?_eq_getElem hi, Option.map_some, Option.bind_some] at h4
  have h5 := rowU_get L (k / 32) hi (k % 32) (Nat.mod_lt _ (by decide))
  rw [show k / 32 * 32 + k % 32 = k by omega] at h5
  have h6 : (aggU L[k / 32]).cells[k % 32]? = (encU L[k / 32])[k % 32]? := by simp [aggU, Value.cells]
  rw [h6, ← h5, Array.getElem?_eq_getElem hk1] at h4
  have h7 : (rowU L)[k]? = some ((rowU L).toArray[k]) := by simp
  rw [h7] at h4
  exact Option.some.inj h4
theorem fill_one (cells : Array Value) (hc : cells.size = 32) (s : Su) : Instr.fill (fun i => some (i * 32, 32)) cells [(0, aggU s)] = some (encU s).toArray := by
  have := fill_many [s] cells (by simpa using hc)
  rw [rowU_one] at this
  exact this
/-- A row of some sums, a literal. -/
theorem wp_lit_su (T E : TypeId) (hT : ElT T E) (n : Nat) (parts : Array (Nat × Operand)) (ho : o.op = .buildSlice T n parts) (L : List Su) (hn : L.length = n) (h0 : 0 < n) (h9 : n ≤ 1000)
    (hx : (parts.map fun (i, x) => (i, a.eval x)).toList = ((L.map aggU).zipIdx 0).map fun x => (x.2, x.1))
    (h : K (a.put o.dst (.slice (some ⟨w.heap.size, 0, none⟩) n n)) (w.alloc (.cells (rowU L).toArray E))) : o.wp Tryd.prog a w K Q := by
  subst hn
  obtain ⟨i0, hi, hz0, hz1, hz2⟩ := info_parts hT.2.2
  refine wp_buildSlice T E L.length parts ho (rowU L).toArray i0 _ hT.1 hi hz0 (by rw [hz1]; omega) (by rw [hz1]; omega) ?_ h
  rw [hx, hz1]
  exact fill_many L _ (by simp)
theorem wpList_lit_su (hgd : o.guard = none) (T E : TypeId) (hT : ElT T E) (n : Nat) (parts : Array (Nat × Operand)) (ho : o.op = .buildSlice T n parts) (L : List Su) (hn : L.length = n) (h0 : 0 < n) (h9 : n ≤ 1000)
    (hx : (parts.map fun (i, x) => (i, a.eval x)).toList = ((L.map aggU).zipIdx 0).map fun x => (x.2, x.1))
    (h : wpList Tryd.prog ops Q rest (a.put o.dst (.slice (some ⟨w.heap.size, 0, none⟩) n n)) (w.alloc (.cells (rowU L).toArray E))) : wpList Tryd.prog ops Q (o :: rest) a w :=
  wpList_plain hgd fun _ hK => wp_lit_su T E hT n parts ho L hn h0 h9 hx (hK _ _ h)
/-- A row of one sum. -/
theorem wp_one_su (T E : TypeId) (hT : ElT T E) (x : Operand) (ho : o.op = .buildSlice T 1 #[(0, x)]) (s : Su) (hx : a.eval x = .agg (encU s).toArray)
    (h : K (a.put o.dst (.slice (some ⟨w.heap.size, 0, none⟩) 1 1)) (w.alloc (.cells (encU s).toArray E))) : o.wp Tryd.prog a w K Q := by
  obtain ⟨i0, hi, hz0, hz1, hz2⟩ := info_parts hT.2.2
  refine wp_buildSlice T E 1 _ ho (encU s).toArray i0 _ hT.1 hi hz0 (by rw [hz1]; omega) (by rw [hz1]; omega) ?_ h
  rw [hz1]
  simp only [List.map_toArray, List.map_cons, List.map_nil, hx]
  exact fill_one _ (by simp) s
theorem wpList_one_su (hgd : o.guard = none) (T E : TypeId) (hT : ElT T E) (x : Operand) (ho : o.op = .buildSlice T 1 #[(0, x)]) (s : Su) (hx : a.eval x = .agg (encU s).toArray)
    (h : wpList Tryd.prog ops Q rest (a.put o.dst (.slice (some ⟨w.heap.size, 0, none⟩) 1 1)) (w.alloc (.cells (encU s).toArray E))) : wpList Tryd.prog ops Q (o :: rest) a w :=
  wpList_plain hgd fun _ hK => wp_one_su T E hT x ho s hx (hK _ _ h)
theorem Ss.one {w : World} {g : Nat} {E : TypeId} {s : Su} {b : Nat} (h : Has w g E (encU s)) (hb : g < b) : Sees w b (some ⟨g, 0, none⟩) (rowU [s]) := by
  rw [rowU_one]; exact Sees.of_has h hb
theorem run_none_su (T E : TypeId) (hT : ElT T E) (w : World) : (Instr.buildSlice T 0 #[]).run Tryd.prog w = .ok (.slice (some ⟨w.heap.size, 0, none⟩) 0 0) (w.alloc (.cells #[] E)) := by
  obtain ⟨i0, hi, hz0, hz1, hz2⟩ := info_parts hT.2.2
  simp [Instr.buildSlice, run_underlying hT.1, sizeOf, typeInfo, hi, newRow, Instr.fill]
  rw [show Array.range 0 = #[] by kernel_rfl, Array.map_empty]
theorem wp_none_su (T E : TypeId) (hT : ElT T E) (ho : o.op = .buildSlice T 0 #[])
    (h : K (a.put o.dst (.slice (some ⟨w.heap.size, 0, none⟩) 0 0)) (w.alloc (.cells #[] E))) : o.wp Tryd.prog a w K Q := by
  unfold Oper.wp execOp
  simp only [ho, Sem.run_bind]
  rw [Array.map_empty, run_none_su T E hT]
  exact h
/-- Sums put behind a row of the call's own. -/
theorem wp_append_su (T E : TypeId) (hT : ElT T E) (s x : Operand) (ho : o.op = .call { callee := .builtin .append, args := #[s, x], argTypes := #[T, T] })
    (base : Nat) (v : Value) (L : List Su) (hs : a.eval s = v) (hown : OwnU w base E v L)
    (q : Option Addr) (M : List Su) (m cap b : Nat) (hm : M.length = m) (hx : a.eval x = .slice q m cap) (hq : q = none → cap = 0) (hl : Sees w b q (rowU M))
    (hn : L.length + m ≤ 4000000) (hbase : base ≤ w.heap.size)
    (h : ∀ v' w', OwnU w' base E v' (L ++ M) → w.grownBy w' v.ownBlock → K (a.put o.dst v') w') : o.wp Tryd.prog a w K Q := by
  subst hm
  obtain ⟨i0, hi, hz0, hz1, hz2⟩ := info_parts hT.2.2
  have fin : ∀ v' w', w'.ownsRow base E 32 v' (L.length + M.length) (rowU L ++ rowU M) → OwnU w' base E v' (L ++ M) := fun v' w' h1 => by
    unfold OwnU; rw [List.length_append, rowU_app]; exact h1
  have hbytes : (L.length + M.length) * 32 ≤ 140737488355328 := Nat.le_trans (Nat.mul_le_mul hn (Nat.le_refl 32)) (by decide)
  rcases q with _ | ad
  · have hl0 : M = [] := by
      rcases M with _ | ⟨y, M⟩
      · rfl
      · obtain ⟨a, h1, _⟩ := hl.get (by rw [rowU_len, List.length_cons]; omega)
        cases h1
    subst hl0
    obtain rfl := hq rfl
    have hrun := run_append_owned_none (P := Tryd.prog) (w := w) base T o.type E i0 32 hT.1 hi v L.length (rowU L) hown
    have hx' : a.eval x = .slice none 0 0 := hx
    unfold Oper.wp
    simp [execOp, ho, resolve, invoke, builtin, hs, hx', hrun, Result.andThen]
    exact h v w (by simpa using hown) ⟨rfl, rfl, rfl, Nat.le_refl _, fun _ _ _ => rfl⟩
  · by_cases hl0 : M = []
    · subst hl0
      refine wp_append_own w s x T ho base E i0 _ 32 32 hT.1 hi hz0 hz1 hz2 rfl (by decide) v L.length (rowU L) hs hown ad 0 cap [] hx rfl (fun j u hj => by simp at hj) (fun u hu => by cases hu) (by unfold maxLen; simp at hn; omega) hbytes hbase (fun v' w' h1 h2 _ => ?_)
      exact h v' w' (fin v' w' (by simpa [rowU] using h1)) h2
    · refine wp_append_own w s x T ho base E i0 _ 32 32 hT.1 hi hz0 hz1 hz2 rfl (by decide) v L.length (rowU L) hs hown ad M.length cap (rowU M) hx (rowU_len M) (fun j u hj => ?_) (fun u hu => rowU_one' M u hu) (by unfold maxLen; omega) hbytes hbase (fun v' w' h1 h2 _ => ?_)
      · obtain ⟨a', h1, _, h3⟩ := hl.get (by have := (List.getElem?_eq_some_iff.1 hj).1; omega)
        cases h1
        exact h3 j u hj
      · exact h v' w' (fin v' w' h1) h2
theorem wpList_append_su (hgd : o.guard = none) (T E : TypeId) (hT : ElT T E) (s x : Operand) (ho : o.op = .call { callee := .builtin .append, args := #[s, x], argTypes := #[T, T] })
    (base : Nat) (v : Value) (L : List Su) (hs : a.eval s = v) (hown : OwnU w base E v L)
    (q : Option Addr) (M : List Su) (m cap b : Nat) (hm : M.length = m) (hx : a.eval x = .slice q m cap) (hq : q = none → cap = 0) (hl : Sees w b q (rowU M))
    (hn : L.length + m ≤ 4000000) (hbase : base ≤ w.heap.size)
    (h : ∀ v' w', OwnU w' base E v' (L ++ M) → Below base w w' → wpList Tryd.prog ops Q rest (a.put o.dst v') w') : wpList Tryd.prog ops Q (o :: rest) a w :=
  wpList_plain hgd fun _ hK => wp_append_su T E hT s x ho base v L hs hown q M m cap b hm hx hq hl hn hbase fun v' w' h1 h2 => hK _ _ (h v' w' h1 ((Below.refl base w).grown h2 hbase (fun k hk => hown.base k hk)))
end
theorem cut_su (T E : TypeId) (hT : ElT T E) (q : Option Addr) (n c k : Nat) (hk : k ≤ n) (w : World) :
    (Instr.slice T (.slice q n c) (some (.int .i64 (k : Int))) none none).run Tryd.prog w = .ok (.slice (if c = k then q else q.map (·.add (k * 32))) (n - k) (c - k)) w := by
  obtain ⟨i0, hi, hz0, hz1, hz2⟩ := info_parts hT.2.2
  simp [Instr.slice, run_underlying hT.1, Instr.sliceBounds, Instr.sliceBound, asIntOf, sizeOf, typeInfo, hi, hz1]
  intro hc
  omega
theorem head_su (T E : TypeId) (hT : ElT T E) (q : Option Addr) (n c k : Nat) (hk : k ≤ c) (w : World) :
    (Instr.slice T (.slice q n c) none (some (.int .i64 (k : Int))) none).run Tryd.prog w = .ok (.slice q k c) w := by
  obtain ⟨i0, hi, hz0, hz1, hz2⟩ := info_parts hT.2.2
  have e : q.map (fun a : Addr => a.add 0) = q := by cases q <;> simp [Addr.add]
  simp [Instr.slice, run_underlying hT.1, Instr.sliceBounds, Instr.sliceBound, asIntOf, sizeOf, typeInfo, hi, e]
  intro hc
  omega
theorem Sees.cutU {w : World} {b : Nat} {q : Option Addr} {L : List Su} {c k : Nat} (h : Sees w b q (rowU L)) (hc : L.length ≤ c) : Sees w b (if c = k then q else q.map (·.add (k * 32))) (rowU (L.drop k)) := fun hl => by
  have hk : k < L.length := by rw [rowU_len, List.length_drop] at hl; omega
  obtain ⟨a, rfl, hb, hx⟩ := h.get (by rw [rowU_len]; omega)
  rw [if_neg (by omega)]
  refine ⟨a.add (k * 32), rfl, by rw [add_block]; exact hb, fun j u hu => ?_⟩
  rw [add_add]
  exact hx _ u (by rw [← hu, ← rowU_drop, List.getElem?_drop])
theorem cutU_none {q : Option Addr} {c k n : Nat} (hq : q = none → c = 0) : (if c = k then q else q.map (·.add n)) = none → c - k = 0 := by
  split
  · intro _; omega
  · intro h; have := hq (by simpa using h); omega
end Go.Proofs.YthpledfjopbchaaDoor
/- '==' and '!=' of two sums; a row of sums written in place: one stored, the rest cleared. No condition. -/
namespace Go.Proofs.YthpledfjopbchaaDoor
open Go.RowKit
section
variable {P : Program}
theorem eqIn_su (E : TypeId) (hu : Tryd.prog.underlying E = some (.array 32 5)) (s t : Su) (w : World) : (Op.equalIn 10000 E (.agg (encU s).toArray) (.agg (encU t).toArray)).run Tryd.prog w = .ok (decide (s = t)) w := by
  have h := arr_eqlU E hu s.1 t.1 s.2 t.2 w
  rw [run_eql_struct] at h
  have e : decide (s.1 = t.1) = decide (s = t) := by
    by_cases hst : s = t
    · subst hst; simp
    · rw [decide_eq_false hst, decide_eq_false (fun h => hst (Subtype.ext h))]
  rw [e] at h
  have h' : ((Op.equalIn 10000 E (.agg (encU s).toArray) (.agg (encU t).toArray)).run Tryd.prog w).andThen (fun b w' => Result.ok (Value.bool b) w') = .ok (.bool (decide (s = t))) w := h
  cases hr : (Op.equalIn 10000 E (.agg (encU s).toArray) (.agg (encU t).toArray)).run Tryd.prog w <;> rw [hr] at h' <;> simp [Result.andThen] at h' <;> simp_all
theorem eql_su {o : Oper} {ev : Operand → Value} {w : World} (E : TypeId) (x y : Operand) (E2 : TypeId) (ho : o.op = .binOp .eql E x y E2) (s t : Su) (hx : ev x = .agg (encU s).toArray) (hy : ev y = .agg (encU t).toArray)
    (hu : Tryd.prog.underlying E = some (.array 32 5)) (hg : Tryd.prog.eqGuardType Tryd.prog.depth E = false) : (execOp ev o).run Tryd.prog w = .ok (.value (.bool (decide (s = t)))) w := by
  have h1 := run_eqGuard_agg w .eql E x y (encU s).toArray (encU t).toArray hg
  have h2 := eqIn_su E hu s t w
  unfold execOp
  simp [ho, hx, hy, h1, h2, run_eql_struct]
theorem neq_su {o : Oper} {ev : Operand → Value} {w : World} (E : TypeId) (x y : Operand) (E2 : TypeId) (ho : o.op = .binOp .neq E x y E2) (s t : Su) (hx : ev x = .agg (encU s).toArray) (hy : ev y = .agg (encU t).toArray)
    (hu : Tryd.prog.underlying E = some (.array 32 5)) (hg : Tryd.prog.eqGuardType Tryd.prog.depth E = false) : (execOp ev o).run Tryd.prog w = .ok (.value (.bool (!decide (s = t)))) w := by
  have h1 := run_eqGuard_agg w .neq E x y (encU s).toArray (encU t).toArray hg
  have h2 := eqIn_su E hu s t w
  unfold execOp
  simp [ho, hx, hy, h1, h2, run_neq_struct]
end
/-- The row's head: these sums; what stands behind them. -/
def RowAt (w : World) (g : Nat) (E : TypeId) (dk : Array Su) (rest : List Value) : Prop := Has w g E (rowU dk.toList ++ rest)
theorem add_lit' (g o j : Nat) : (Addr.add ⟨g, o, none⟩ j) = ⟨g, o + j, none⟩ := by unfold Addr.add; split <;> simp_all
theorem RowAt.el {w : World} {g : Nat} {E : TypeId} {dk : Array Su} {rest : List Value} (h : RowAt w g E dk rest) (i : Nat) (hi : i < dk.size) (o : Nat) (ho : o = i * 32) : ∀ j u, (encU dk[i]!)[j]? = some u → w.cell? ((⟨g, o, none⟩ : Addr).add j) = some u := fun j u hu => by
  subst ho
  have hj : j < 32 := by have := (List.getElem?_eq_some_iff.1 hu).1; rwa [encU_len] at this
  have hil : i < dk.toList.length := by simpa using hi
  rw [add_lit']
  refine Has.cellv h ?_
  rw [List.getElem?_append_left (by rw [rowU_len]; omega), rowU_get dk.toList i hil j hj, ← hu, getElem!_pos dk i hi]
  simp
theorem rowU_set (L : List Su) (k : Nat) (s : Su) (hk : k < L.length) : rowU (L.set k s) = (rowU L).take (k * 32) ++ encU s ++ (rowU L).drop (k * 32 + 32) := by
  rw [rowU_take, show k * 32 + 32 = (k + 1) * 32 by omega, rowU_drop, List.set_eq_take_append_cons_drop, if_pos hk, rowU_app, List.append_assoc]
  rfl
theorem RowAt.put {w : World} {g : Nat} {E : TypeId} {dk : Array Su} {rest : List Value} (h : RowAt w g E dk rest) (k : Nat) (hk : k < dk.size) (s : Su) : RowAt (w.setCells g (k * 32) (encU s)) g E (dk.setIfInBounds k s) rest := by
  have hl : k < dk.toList.length := by simpa using hk
  have hrl := rowU_len dk.toList
  have hm := Has.mid (encU s) (k * 32) w _ h (by rw [List.length_append, hrl, encU_len]; omega)
  unfold RowAt
  have e : (dk.setIfInBounds k s).toList = dk.toList.set k s := by simp
  rw [e, rowU_set _ _ _ hl]
  rw [encU_len, List.take_append_of_le_length (by rw [hrl]; omega), List.drop_append_of_le_length (by rw [hrl]; omega)] at hm
  simpa [List.append_assoc] using hm
theorem RowAt.isIn {w : World} {g : Nat} {E : TypeId} {dk : Array Su} {rest : List Value} (h : RowAt w g E dk rest) (o n : Nat) (hn : o + n ≤ dk.size * 32) : ∀ j, j < n → (w.cell? ⟨g, o + j, none⟩).isSome = true ∧ w.frozen? ⟨g, o + j, none⟩ = false := fun j hj =>
  ⟨by rw [Has.cell h, List.getElem?_eq_getElem (by rw [List.length_append, rowU_len]; simp; omega)]; rfl, Has.free h _⟩
theorem store_su {w : World} (E : TypeId) (hi : (Tryd.prog.info? E).map (·.size) = some 32) (g k : Nat) (s : Su) {dk : Array Su} {rest : List Value} {F : TypeId} (h : RowAt w g F dk rest) (hk : k < dk.size) (o : Nat) (ho : o = k * 32) :
    (storeVar E ⟨g, o, none⟩ (.agg (encU s).toArray)).run Tryd.prog w = .ok () (w.setCells g (k * 32) (encU s)) := by
  subst ho
  have hin := h.isIn (k * 32) 32 (by omega)
  have hst := run_storeCells_cells (P := Tryd.prog) g (k * 32) (encU s) 0 w (fun j hj => by rw [Nat.add_zero]; rw [encU_len] at hj; exact (hin j hj).1) (fun j hj => by rw [Nat.add_zero]; rw [encU_len] at hj; exact (hin j hj).2) (encU_one s)
  rw [Nat.add_zero] at hst
  cases hq : Tryd.prog.info? E with
  | none => simp [hq] at hi
  | some i =>
    have hs : i.size = 32 := by simpa [hq] using hi
    have hz := encU_size s
    simp only [storeVar, sizeOf, typeInfo, Sem.run_bind]
    simp [hq, hs, Value.cells, encU_len, hst]
theorem wpList_store_su {ops : Array Oper} {rest : List Oper} {o : Oper} {a : Act} {w : World} {Q : Exit → Act → World → Prop} (hgd : o.guard = none) (E : TypeId) (hi : (Tryd.prog.info? E).map (·.size) = some 32) (x y : Operand) (ho : o.op = .store E x y) (g k : Nat) (p : Nat) (hp : p = k * 32) (hx : a.eval x = .pointer (some ⟨g, p, none⟩))
    (s : Su) (hy : a.eval y = .agg (encU s).toArray) {dk : Array Su} {row : List Value} {F : TypeId} (h : RowAt w g F dk row) (hk : k < dk.size) (hK : wpList Tryd.prog ops Q rest (a.put o.dst undef) (w.setCells g (k * 32) (encU s))) : wpList Tryd.prog ops Q (o :: rest) a w :=
  wpList_plain hgd fun _ hK' => by
    unfold Oper.wp execOp
    simp only [ho, hx, hy, Instr.storeAt, Instr.sureAddr, Sem.run_bind, Sem.run_pure, Result.andThen_ok, store_su E hi g k s h hk p hp]
    exact hK' _ _ hK
def zU : Su := ⟨List.replicate 32 0, by simp⟩
theorem rowU_zero : ∀ n : Nat, rowU (List.replicate n zU) = List.replicate (n * 32) (.int .u8 0)
  | 0 => rfl
  | n + 1 => by
    rw [List.replicate_succ]
    show encU zU ++ rowU (List.replicate n zU) = _
    have h0 : encU zU = List.replicate 32 (.int .u8 0) := by simp [encU, zU, u8v, B]
    rw [rowU_zero n, show (n + 1) * 32 = 32 + n * 32 by omega, h0, List.replicate_append_replicate]
theorem zeroCells_su (n : Nat) : (Builtin.zeroCells (Array.replicate 32 (Value.int .u8 0)) n).toList = List.replicate (n * 32) (.int .u8 0) := by
  unfold Builtin.zeroCells
  apply List.ext_getElem
  · simp
  · intro i h1 h2
    have hm : i % 32 < 32 := Nat.mod_lt _ (by decide)
    simp only [Array.toList_map, Array.toList_range, Array.size_replicate, List.getElem_map, List.getElem_range, List.getElem_replicate]
    rw [getElem!_pos _ _ (by simpa using hm)]
    simp
theorem run_clear_su (T E : TypeId) (hT : ElT T E) (w : World) (g k n c ty : Nat) (hn : 0 < n) {dk : Array Su} {rest : List Value} (h : RowAt w g E dk rest) (hk : k + n ≤ dk.size) (o : Nat) (ho : o = k * 32) :
    (Builtin.clear_ #[T] ty #[.slice (some ⟨g, o, none⟩) n c]).run Tryd.prog w = .ok (.tuple #[]) (w.setCells g (k * 32) (List.replicate (n * 32) (.int .u8 0))) := by
  subst ho
  obtain ⟨i0, hi, hz0, hz1, hz2⟩ := info_parts hT.2.2
  have hin := h.isIn (k * 32) (n * 32) (by omega)
  have hst := run_storeCells_cells (P := Tryd.prog) g (k * 32) (List.replicate (n * 32) (Value.int .u8 0)) 0 w (fun j hj => by rw [Nat.add_zero]; rw [List.length_replicate] at hj; exact (hin j hj).1) (fun j hj => by rw [Nat.add_zero]; rw [List.length_replicate] at hj; exact (hin j hj).2) (fun v hv => by rw [List.eq_of_mem_replicate hv]; rfl)
  rw [Nat.add_zero] at hst
  have hz : (zeroValue E).run Tryd.prog w = .ok (.agg (Array.replicate 32 (.int .u8 0))) w := by simp [zeroValue, typeInfo, hi, hz0]
  have hc : (Value.agg (Array.replicate 32 (Value.int .u8 0))).cells = Array.replicate 32 (Value.int .u8 0) := rfl
  obtain ⟨m, rfl⟩ : ∃ m, n = m + 1 := ⟨n - 1, by omega⟩
  simp [Builtin.clear_, run_underlying hT.1, hz, hc, zeroCells_su, hst]
theorem RowAt.cleared {w : World} {g : Nat} {E : TypeId} {dk : Array Su} {rest : List Value} (h : RowAt w g E dk rest) (k n : Nat) (hk : k + n = dk.size) : ∃ back, RowAt (w.setCells g (k * 32) (List.replicate (n * 32) (.int .u8 0))) g E (dk.toList.take k).toArray back ∧ back.length = n * 32 + rest.length := by
  have hrl := rowU_len dk.toList
  have hl : dk.toList.length = dk.size := by simp
  have hm := Has.mid (List.replicate (n * 32) (Value.int .u8 0)) (k * 32) w _ h (by rw [List.length_append, hrl, List.length_replicate]; omega)
  refine ⟨List.replicate (n * 32) (.int .u8 0) ++ rest, ?_, by simp⟩
  rw [List.length_replicate, List.take_append_of_le_length (by rw [hrl]; omega), rowU_take, List.drop_append, List.drop_of_length_le (by rw [hrl]; omega), List.nil_append, show k * 32 + n * 32 - (rowU dk.toList).length = 0 by rw [hrl]; omega, List.drop_zero] at hm
  unfold RowAt
  rw [← List.append_assoc]
  exact hm
theorem setCells_block {w : World} {g : Nat} : ∀ (vs : List Value) (o : Nat) (b : Nat) (a : World), Below b a w → b ≤ g → Below b a (w.setCells g o vs) := fun vs o _ _ h hg => below_setCells hg vs o w h
end Go.Proofs.YthpledfjopbchaaDoor
/- Contracts: a law's arguments as a set (the law's 'row'), package set's rises, Good. Conditions: at most 10^5 sums (Good, rises: fewer than 2^62). -/
namespace Go.Proofs.YthpledfjopbchaaDoor
open Go.RowKit
theorem elSet : ElT 36 24 := ⟨Tryd.underlying36, Tryd.underlying24, by kernel_rfl⟩
theorem elSum : ElT 32 24 := ⟨Tryd.underlying32, Tryd.underlying24, by kernel_rfl⟩
theorem szSum : (Tryd.prog.info? 24).map (·.size) = some 32 := by kernel_rfl
theorem szArr : (Tryd.prog.info? 23).map (·.size) = some 32 := by kernel_rfl
theorem cmpS_any (x y : Su) (w : World) : Calls Tryd.prog 42 #[.agg (encU x).toArray, .agg (encU y).toArray] w fun e w' => e = .returned (.int .i64 (cmpU x y)) ∧ Below w.heap.size w w' := cmp_any x.1 y.1 x.2 y.2 w
set_option maxHeartbeats 4000000 in
set_option maxRecDepth 100000 in
theorem rises_any (L : List Su) (q : Option Addr) (c : Nat) (hm : L.length < 4611686018427387904) (w : World) (hs : Sees w w.heap.size q (rowU L)) :
    Calls Tryd.prog 33 #[.slice q L.length c] w fun e w' => e = .returned (.bool (decide (AscU L))) ∧ Below w.heap.size w w' := by
  have HS := Lib.hid hs
  clear hs
  go_enter Tryd.func33, Tryd.ntmps33
  go_wp2_with fail
  go_loopw [3] (fun vi wr => ∃ i : Nat, 1 ≤ i ∧ (i ≤ L.length ∨ i = 1) ∧ vi = .int .i64 i ∧ (∀ j (hj : j + 1 < L.length), j + 1 < i → cmpU L[j] L[j + 1] = -1) ∧ Below w.heap.size w wr) (fun vi _ => L.length - (intOf vi).toNat)
  case atStart => exact ⟨1, by omega, .inr rfl, rfl, fun j _ h => by omega, Below.refl _ _⟩
  case round =>
    rename_i wr
    obtain ⟨i, hi1, hi2, rfl, hall, hB⟩ := hrel
    have HALL := Lib.hid hall
    have HB := Lib.hid hB
    clear hall hB
    by_cases hlt : i < L.length
    · obtain ⟨k, rfl⟩ : ∃ k, i = k + 1 := ⟨i - 1, by omega⟩
      obtain ⟨a, rfl, ha, hc⟩ := Ss.el HS.out (show k < L.length by omega)
      obtain ⟨a', e', _, hc'⟩ := Ss.el HS.out hlt
      cases e'
      obtain ⟨m, hme⟩ : ∃ m, m = k + 1 := ⟨_, rfl⟩
      have HNEW : Hid (cmpU L[k] L[k + 1] = -1 → ∀ j (hj : j + 1 < L.length), j + 1 < m + 1 → cmpU L[j] L[j + 1] = -1) := Lib.hid (fun h j hj hjm => by
        by_cases e : j = k
        · subst e; exact h
        · exact HALL.out j hj (by omega))
      have HBAD : Hid (cmpU L[k] L[k + 1] ≠ -1 → ¬ AscU L) := Lib.hid (fun h ha => h (asc_at ha k hlt))
      obtain ⟨x, hxe⟩ : ∃ x, L[k]'(Nat.lt_of_succ_lt hlt) = x := ⟨_, rfl⟩
      obtain ⟨y, hye⟩ : ∃ y, L[k + 1] = y := ⟨_, rfl⟩
      rw [hxe, hye] at HNEW HBAD
      have HC : Hid (∀ w', Below w.heap.size w w' → ∀ j u, (encU x)[j]? = some u → w'.cell? ((a.add (k * 32)).add j) = some u) := Lib.hid (hxe ▸ hc)
      have HC' : Hid (∀ w', Below w.heap.size w w' → ∀ j u, (encU y)[j]? = some u → w'.cell? ((a.add (m * 32)).add j) = some u) := Lib.hid (by subst hye; subst hme; exact hc')
      have kk : (m : Int) < (L.length : Int) := by omega
      have km : (m : Int) - 1 = (k : Int) := by omega
      have km2 : m ≤ 4611686018427387904 := by omega
      have HM := Lib.hid hme
      have HV := Lib.hid (cmpU_vals x y)
      clear hc hc' ha hxe hye
      rw [← hme]
      have hk1 : k < 4611686018427387904 := by omega
      have hkl : (k : Int) < (L.length : Int) := by omega
      have kwr : IntKind.i64.wrap (k : Int) = (k : Int) := IntWalk.i64_in _ (by omega)
      clear hme
      go_wp2_with fail
      refine wp_region_org [(0, true), (1, true), (2, true), (3, true), (4, true), (5, true), (6, true), (7, true), (8, true), (9, false), (10, true)] (by kernel_rfl) (by kernel_rfl) (by kernel_rfl) ?_
      replace HB := Lib.hid HB.out.drew
      generalize wr.drew = wd at *
      simp only [pickOrs, List.getElem?_cons_zero, List.getElem?_cons_succ]
      refine org_pure (v := ?_) (by kernel_rfl) ?_ ?_
      rotate_left
      · intro w' hv; clear hv; go_simp; try with_reducible rfl
      try simp only [Act.put, List.setIfInBounds_toArray, List.set_cons_zero, List.set_cons_succ]
      refine org_pure (v := ?_) (by kernel_rfl) ?_ ?_
      rotate_left
      · intro w' hv; clear hv; go_simp; try with_reducible rfl
      try simp only [Act.put, List.setIfInBounds_toArray, List.set_cons_zero, List.set_cons_succ]
      refine org_pure (v := ?_) (by kernel_rfl) ?_ ?_
      rotate_left
      · intro w' hv; clear hv; go_simp; try with_reducible rfl
      try simp only [Act.put, List.setIfInBounds_toArray, List.set_cons_zero, List.set_cons_succ]
      refine org_pure (v := ?_) (by kernel_rfl) ?_ ?_
      rotate_left
      · intro w' hv; clear hv; go_simp; try with_reducible rfl
      try simp only [Act.put, List.setIfInBounds_toArray, List.set_cons_zero, List.set_cons_succ]
      refine org_pure (by kernel_rfl) (fun w' hv => load_su 24 (.tmp 13) rfl _ rfl elSum.2.1 szSum x ((fun w' hv => HC.out w' (HB.out.trans (Below.mono hv HB.out.size))) w' hv)) ?_
      try simp only [Act.put, List.setIfInBounds_toArray, List.set_cons_zero, List.set_cons_succ]
      refine org_pure (v := ?_) (by kernel_rfl) ?_ ?_
      rotate_left
      · intro w' hv; clear hv; go_simp; try with_reducible rfl
      try simp only [Act.put, List.setIfInBounds_toArray, List.set_cons_zero, List.set_cons_succ]
      refine org_pure (v := ?_) (by kernel_rfl) ?_ ?_
      rotate_left
      · intro w' hv; clear hv; go_simp; try with_reducible rfl
      try simp only [Act.put, List.setIfInBounds_toArray, List.set_cons_zero, List.set_cons_succ]
      refine org_pure (v := ?_) (by kernel_rfl) ?_ ?_
      rotate_left
      · intro w' hv; clear hv; go_simp; try with_reducible rfl
      try simp only [Act.put, List.setIfInBounds_toArray, List.set_cons_zero, List.set_cons_succ]
      refine org_pure (by kernel_rfl) (fun w' hv => load_su 24 (.tmp 17) rfl _ rfl elSum.2.1 szSum y ((fun w' hv => HC'.out w' (HB.out.trans (Below.mono hv HB.out.size))) w' hv)) ?_
      try simp only [Act.put, List.setIfInBounds_toArray, List.set_cons_zero, List.set_cons_succ]
      refine org_step (by kernel_rfl) (fun K hK => ?_)
      go_wp2_with fail
      refine (cmpS_any x y _).mono ?_
      rintro e wx ⟨rfl, hb⟩
      have HE := Lib.hid hb
      clear hb
      refine hK _ _ ⟨HE.out, ?_⟩
      clear hK
      try simp only [Act.put, List.setIfInBounds_toArray, List.set_cons_zero, List.set_cons_succ]
      replace HB := Lib.hid (HB.out.trans (HE.out.mono HB.out.size))
      clear HE
      rcases HV.out with hv | hv | hv
      · rw [hv]
        refine org_pure (v := ?_) (by kernel_rfl) ?_ ?_
        rotate_left
        · intro w' hv; clear hv; go_simp; try with_reducible rfl
        try simp only [Act.put, List.setIfInBounds_toArray, List.set_cons_zero, List.set_cons_succ]
        refine org_nil ?_
        have HN := Lib.hid (HNEW.out hv)
        clear hv
        go_wp2_with fail
        go_roundw
        case rel => exact ⟨m + 1, by omega, .inl (by have := HM.out; omega), by go_num, HN.out, HB.out⟩
        case measure => simp [intOf]; omega
      · rw [hv]
        refine org_pure (v := ?_) (by kernel_rfl) ?_ ?_
        rotate_left
        · intro w' hv; clear hv; go_simp; try with_reducible rfl
        try simp only [Act.put, List.setIfInBounds_toArray, List.set_cons_zero, List.set_cons_succ]
        refine org_nil ?_
        have HR := Lib.hid (decide_eq_false (HBAD.out (by rw [hv]; decide)))
        clear hv
        go_wp2_with fail
        go_ret
        exact ⟨congrArg (fun b => Ending.returned (.bool b)) HR.out.symm, HB.out⟩
      · rw [hv]
        refine org_pure (v := ?_) (by kernel_rfl) ?_ ?_
        rotate_left
        · intro w' hv; clear hv; go_simp; try with_reducible rfl
        try simp only [Act.put, List.setIfInBounds_toArray, List.set_cons_zero, List.set_cons_succ]
        refine org_nil ?_
        have HR := Lib.hid (decide_eq_false (HBAD.out (by rw [hv]; decide)))
        clear hv
        go_wp2_with fail
        go_ret
        exact ⟨congrArg (fun b => Ending.returned (.bool b)) HR.out.symm, HB.out⟩
    · have HR : Hid (decide (AscU L) = true) := Lib.hid (decide_eq_true (asc_next fun j hj => HALL.out j hj (by omega)))
      have kk : ¬ (i : Int) < (L.length : Int) := by omega
      go_wp2_with fail
      go_ret
      exact ⟨congrArg (fun b => Ending.returned (.bool b)) HR.out.symm, HB.out⟩
def goodU (L : List Su) : Bool := decide (L.length ≤ 512) && decide (AscU L)
set_option maxHeartbeats 1000000 in
theorem good_any (L : List Su) (q : Option Addr) (c : Nat) (hm : L.length < 4611686018427387904) (w : World) (hs : Sees w w.heap.size q (rowU L)) :
    Calls Tryd.prog 14 #[.slice q L.length c] w fun e w' => e = .returned (.bool (goodU L)) ∧ Below w.heap.size w w' := by
  have HR := Lib.hid (rises_any L q c hm w hs)
  clear hs
  by_cases hl : L.length ≤ 512
  · have HG : Hid (goodU L = decide (AscU L)) := Lib.hid (by unfold goodU; rw [decide_eq_true hl, Bool.true_and])
    have k1 : (L.length : Int) ≤ 512 := by omega
    go_enter Tryd.func14, Tryd.ntmps14
    go_wp2_with (refine HR.out.mono ?_; rintro e w1 ⟨rfl, hb⟩; have HB := Lib.hid hb; clear hb)
    go_ret
    exact ⟨congrArg (fun b => Ending.returned (.bool b)) HG.out.symm, HB.out⟩
  · have HG : Hid (goodU L = false) := Lib.hid (by unfold goodU; rw [decide_eq_false hl, Bool.false_and])
    have k1 : ¬ (L.length : Int) ≤ 512 := by omega
    go_enter Tryd.func14, Tryd.ntmps14
    go_wp2_with fail
    go_ret
    exact ⟨congrArg (fun b => Ending.returned (.bool b)) HG.out.symm, Below.refl _ _⟩
end Go.Proofs.YthpledfjopbchaaDoor
/- Contract: slices.Compact over sums, in a row of the caller's own. Condition: at most 10^6 sums. -/
namespace Go.Proofs.YthpledfjopbchaaDoor
open Go.RowKit
theorem gdSum : Tryd.prog.eqGuardType Tryd.prog.depth 24 = false := by kernel_rfl
theorem RowAt.keep {w w' : World} {g : Nat} {E : TypeId} {dk : Array Su} {rest : List Value} (h : RowAt w g E dk rest) (hb : Below w.heap.size w w') : RowAt w' g E dk rest := Has.keep h hb (Has.lt h)
theorem RowAt.drew {w : World} {g : Nat} {E : TypeId} {dk : Array Su} {rest : List Value} (h : RowAt w g E dk rest) : RowAt w.drew g E dk rest := h
theorem OwnU.row {w : World} {base g cap : Nat} {E : TypeId} {M : List Su} (h : OwnU w base E (.slice (some ⟨g, 0, none⟩) M.length cap) M) : ∃ rest, RowAt w g E M.toArray rest ∧ base ≤ g ∧ M.length ≤ cap ∧ cap ≤ maxLen ∧ rest.length = (cap - M.length) * 32 := by
  rcases h.2 with ⟨h0, _⟩ | ⟨g', cap', cur, e0, hb, hg, h1, h2, h3, h4⟩
  · cases h0
  · injection e0 with e1 _ e3
    injection e1 with e1
    injection e1 with e1
    subst e1
    subst e3
    refine ⟨cur.toList.drop (M.length * 32), ?_, hb, h1, h2, ?_⟩
    · unfold RowAt Has
      rw [hg]
      have e : rowU M ++ cur.toList.drop (M.length * 32) = cur.toList := by rw [← h4, List.take_append_drop]
      simp only [e]
    · rw [List.length_drop]
      have : cur.toList.length = cap * 32 := by simpa using h3
      rw [this, ← Nat.sub_mul]
theorem RowAt.own {w : World} {base g cap : Nat} {E : TypeId} {L : List Su} {back : List Value} (h : RowAt w g E L.toArray back) (hb : base ≤ g) (h1 : L.length ≤ cap) (h2 : cap ≤ maxLen) (h3 : back.length = (cap - L.length) * 32) : OwnU w base E (.slice (some ⟨g, 0, none⟩) L.length cap) L := by
  refine ⟨rowU_len L, .inr ⟨g, cap, (rowU L ++ back).toArray, rfl, hb, h, h1, h2, ?_, ?_⟩⟩
  · simp only [List.size_toArray, List.length_append, rowU_len, h3, ← Nat.add_mul]
    congr 1; omega
  · show (rowU L ++ back).take (L.length * 32) = rowU L
    rw [List.take_append_of_le_length (by rw [rowU_len]; exact Nat.le_refl _), List.take_of_length_le (by rw [rowU_len]; exact Nat.le_refl _)]
theorem cut_lit (T E : TypeId) (hT : ElT T E) (g n c k : Nat) (hk : k ≤ n) (hkc : k < c) (w : World) : (Instr.slice T (.slice (some ⟨g, 0, none⟩) n c) (some (.int .i64 (k : Int))) none none).run Tryd.prog w = .ok (.slice (some ⟨g, k * 32, none⟩) (n - k) (c - k)) w := by
  rw [cut_su T E hT (some ⟨g, 0, none⟩) n c k hk w, if_neg (by omega), Option.map_some, add_lit', Nat.zero_add]
theorem compact_short {M : List Su} (h : M.length < 2) : Lib.compact M = M := Lib.compact_all M fun j hj => Lib.keeps_lt_one _ j (by omega)
set_option maxHeartbeats 4000000 in
theorem compactS_short (M : List Su) (q : Option Addr) (cap : Nat) (h2 : M.length < 2) (w : World) : Calls Tryd.prog 43 #[.slice q M.length cap] w fun e w' => e = .returned (.slice q M.length cap) ∧ w' = w := by
  have kk : (M.length : Int) < 2 := by omega
  go_enter Tryd.func43, Tryd.ntmps43
  go_wp2_with fail
  go_ret
  exact ⟨rfl, rfl⟩
set_option maxHeartbeats 8000000 in
set_option maxRecDepth 100000 in
theorem compactS_any (M : List Su) (g cap base : Nat) (hm : M.length ≤ 1000000) (w : World) (hO : OwnU w base 24 (.slice (some ⟨g, 0, none⟩) M.length cap) M) :
    Calls Tryd.prog 43 #[.slice (some ⟨g, 0, none⟩) M.length cap] w fun e w' => e = .returned (.slice (some ⟨g, 0, none⟩) (Lib.compact M).length cap) ∧ OwnU w' base 24 (.slice (some ⟨g, 0, none⟩) (Lib.compact M).length cap) (Lib.compact M) ∧ Below base w w' := by
  by_cases h2 : M.length < 2
  · refine (compactS_short M (some ⟨g, 0, none⟩) cap h2 w).mono ?_
    rintro e w' ⟨rfl, rfl⟩
    rw [compact_short h2]
    exact ⟨rfl, hO, Below.refl _ _⟩
  obtain ⟨rest, hR, hbg, hcap, hmax, hrest⟩ := hO.row
  have HR := Lib.hid hR
  have HX := Lib.hid hrest
  have HMX := Lib.hid hmax
  obtain ⟨d, hd⟩ : ∃ d, d = M.toArray := ⟨_, rfl⟩
  have hds : d.size = M.length := by rw [hd]; simp
  have HDS := Lib.hid hds
  have HCM : Hid (Lib.compact M = Lib.compactUpTo d d.size) := Lib.hid (by subst hd; simp [Lib.compact])
  have HDL : Hid (d.toList = M) := Lib.hid (by subst hd; simp)
  rw [← hd] at HR
  clear hR hrest hO hd hmax
  generalize hn : M.length = n at *
  have HN := Lib.hid hn
  clear hn
  have k2n : ¬ (n : Int) < 2 := by omega
  have HCUT : Hid (∀ k, k < n → ∀ w, (Instr.slice 32 (.slice (some ⟨g, 0, none⟩) n cap) (some (.int .i64 (k : Int))) none none).run Tryd.prog w = .ok (.slice (some ⟨g, k * 32, none⟩) (n - k) (cap - k)) w) := Lib.hid (fun k hk w => cut_lit _ _ elSum g n cap k (by omega) (by omega) w)
  go_enter Tryd.func43, Tryd.ntmps43
  go_wp2_with fail
  go_loopw [3] (fun v wr => ∃ k : Nat, 1 ≤ k ∧ k ≤ n ∧ v = .int .i64 k ∧ RowAt wr g 24 d rest ∧ Below base w wr ∧ ∀ j, j < k → Lib.keeps d j = true) (fun v _ => n - (intOf v).toNat)
  case atStart => exact ⟨1, by omega, by omega, rfl, HR.out, Below.refl _ _, Lib.keeps_lt_one d⟩
  case round =>
    clear HR
    rename_i wr
    obtain ⟨k, hk1, hk, rfl, hR, hB, hall⟩ := hrel
    have HR := Lib.hid hR
    have HB := Lib.hid hB
    have HALL := Lib.hid hall
    clear hR hB hall
    by_cases hlt : k < n
    · have c1 := fun w' (hb : Below wr.heap.size wr w') => (HR.out.keep hb).el k (by have := HDS.out; omega) (k * 32) rfl
      have c2 := fun w' (hb : Below wr.heap.size wr w') => (HR.out.keep hb).el (k - 1) (by have := HDS.out; omega) ((k - 1) * 32) rfl
      have HKP : Hid (d[k]! ≠ d[k - 1]! → Lib.keeps d k = true) := Lib.hid (fun h => Lib.keeps_pos h)
      have HKN : Hid (d[k]! = d[k - 1]! → Lib.keeps d k = false) := Lib.hid (fun h => Lib.keeps_neg (by omega) h)
      generalize d[k]! = u at *
      generalize d[k - 1]! = v at *
      have C1 := Lib.hid c1
      have C2 := Lib.hid c2
      clear c1 c2
      obtain ⟨p, hp⟩ : ∃ p, k = p + 1 := ⟨k - 1, by omega⟩
      have hp1 : k - 1 = p := by omega
      rw [hp1] at C2
      have kp : (k : Int) - 1 = (p : Int) := by omega
      have kwr : IntKind.i64.wrap (p : Int) = (p : Int) := IntWalk.i64_in _ (by omega)
      have hpn : (p : Int) < (n : Int) := by omega
      have hkn : (k : Int) < (n : Int) := by omega
      have HP := Lib.hid hp
      clear hp hp1
      go_wp2_with fail
      refine wp_region_org [(0, true), (1, true), (2, true), (3, true), (4, true), (5, true), (6, true), (7, true), (8, true), (9, true)] (by kernel_rfl) (by kernel_rfl) (by kernel_rfl) ?_
      replace HB := Lib.hid HB.out.drew
      replace HR := Lib.hid HR.out.drew
      replace C1 := Lib.hid (fun w' (hv : Ext wr.drew w') => C1.out w' (Below.drew (Below.refl _ wr) |>.trans hv))
      replace C2 := Lib.hid (fun w' (hv : Ext wr.drew w') => C2.out w' (Below.drew (Below.refl _ wr) |>.trans hv))
      generalize wr.drew = wd at *
      simp only [pickOrs, List.getElem?_cons_zero, List.getElem?_cons_succ]
      refine org_pure (v := ?_) (by kernel_rfl) ?_ ?_
      rotate_left
      · intro w' hv; clear hv; go_simp; try with_reducible rfl
      try simp only [Act.put, List.setIfInBounds_toArray, List.set_cons_zero, List.set_cons_succ]
      refine org_pure (v := ?_) (by kernel_rfl) ?_ ?_
      rotate_left
      · intro w' hv; clear hv; go_simp; try with_reducible rfl
      try simp only [Act.put, List.setIfInBounds_toArray, List.set_cons_zero, List.set_cons_succ]
      refine org_pure (v := ?_) (by kernel_rfl) ?_ ?_
      rotate_left
      · intro w' hv; clear hv; go_simp; try with_reducible rfl
      try simp only [Act.put, List.setIfInBounds_toArray, List.set_cons_zero, List.set_cons_succ]
      refine org_pure (by kernel_rfl) (fun w' hv => load_su 24 (.tmp 18) rfl _ rfl elSum.2.1 szSum u ((fun w' hv => C1.out w' hv) w' hv)) ?_
      try simp only [Act.put, List.setIfInBounds_toArray, List.set_cons_zero, List.set_cons_succ]
      refine org_pure (v := ?_) (by kernel_rfl) ?_ ?_
      rotate_left
      · intro w' hv; clear hv; go_simp; try with_reducible rfl
      try simp only [Act.put, List.setIfInBounds_toArray, List.set_cons_zero, List.set_cons_succ]
      refine org_pure (v := ?_) (by kernel_rfl) ?_ ?_
      rotate_left
      · intro w' hv; clear hv; go_simp; try with_reducible rfl
      try simp only [Act.put, List.setIfInBounds_toArray, List.set_cons_zero, List.set_cons_succ]
      refine org_pure (v := ?_) (by kernel_rfl) ?_ ?_
      rotate_left
      · intro w' hv; clear hv; go_simp; try with_reducible rfl
      try simp only [Act.put, List.setIfInBounds_toArray, List.set_cons_zero, List.set_cons_succ]
      refine org_pure (v := ?_) (by kernel_rfl) ?_ ?_
      rotate_left
      · intro w' hv; clear hv; go_simp; try with_reducible rfl
      try simp only [Act.put, List.setIfInBounds_toArray, List.set_cons_zero, List.set_cons_succ]
      refine org_pure (by kernel_rfl) (fun w' hv => load_su 24 (.tmp 23) rfl _ rfl elSum.2.1 szSum v ((fun w' hv => C2.out w' hv) w' hv)) ?_
      try simp only [Act.put, List.setIfInBounds_toArray, List.set_cons_zero, List.set_cons_succ]
      refine org_pure (by kernel_rfl) (fun w' hv => eql_su 24 (.tmp 19) (.tmp 24) _ rfl u v rfl rfl elSum.2.1 gdSum) ?_
      try simp only [Act.put, List.setIfInBounds_toArray, List.set_cons_zero, List.set_cons_succ]
      refine org_nil ?_
      clear C1 C2
      by_cases huv : u = v
      · have HKEEP := Lib.hid (HKN.out huv)
        rw [decide_eq_true huv]
        have hcut := HCUT.out k hlt
        have HI0 : Hid (Lib.CompInv d (k + 1) k d) := Lib.hid (Lib.CompInv.start HALL.out HKEEP.out)
        clear HKP HKN HKEEP HALL huv
        go_wp2_with fail
        go_loopw [3, 5] (fun v v5 wr => ∃ (kk k2 : Nat) (dk : Array Su), 1 ≤ k2 ∧ k + k2 ≤ n ∧ v = .int .i64 kk ∧ v5 = .int .i64 k2 ∧ RowAt wr g 24 dk rest ∧ Below base w wr ∧ Lib.CompInv d (k + k2) kk dk) (fun _ v5 _ => n - (intOf v5).toNat)
        case atStart => exact ⟨k, 1, d, by omega, by omega, rfl, rfl, HR.out, HB.out, HI0.out⟩
        case round =>
          clear HR HB HI0 hcut
          obtain ⟨kk, k2, dk, hk21, hk2, rfl, rfl, hR, hB, hI⟩ := hrel
          have HR := Lib.hid hR
          have HB := Lib.hid hB
          have HI := Lib.hid hI
          have hkk : kk < k + k2 := hI.lt
          have hsz := hI.size
          have hsz2 := HDS.out
          clear hR hB hI
          by_cases hlt2 : k + k2 < n
          · have c1 := fun w' (hb : Below wr.heap.size wr w') => (HR.out.keep hb).el (k + k2) (by omega) (k * 32 + k2 * 32) (by omega)
            have c2 := fun w' (hb : Below wr.heap.size wr w') => (HR.out.keep hb).el (k + k2 - 1) (by omega) (k * 32 + (k2 - 1) * 32) (by omega)
            rw [HI.out.high (k + k2) (by omega)] at c1
            rw [HI.out.high (k + k2 - 1) (by omega)] at c2
            have HKP : Hid (d[k + k2]! ≠ d[k + k2 - 1]! → Lib.CompInv d (k + k2 + 1) (kk + 1) (dk.setIfInBounds kk d[k + k2]!)) := Lib.hid (fun h => HI.out.keep (by omega) (Lib.keeps_pos h))
            have HKN : Hid (d[k + k2]! = d[k + k2 - 1]! → Lib.CompInv d (k + k2 + 1) kk dk) := Lib.hid (fun h => HI.out.skip (Lib.keeps_neg (by omega) h))
            generalize d[k + k2]! = x at *
            generalize d[k + k2 - 1]! = y at *
            have C1 := Lib.hid c1
            have C2 := Lib.hid c2
            clear c1 c2
            obtain ⟨p2, hp2⟩ : ∃ p, k2 = p + 1 := ⟨k2 - 1, by omega⟩
            have hp1 : k2 - 1 = p2 := by omega
            rw [hp1] at C2
            have kp2 : (k2 : Int) - 1 = (p2 : Int) := by omega
            have kwq : IntKind.i64.wrap (p2 : Int) = (p2 : Int) := IntWalk.i64_in _ (by omega)
            have hm2 : ((n - k : Nat) : Int) = (n : Int) - (k : Int) := by omega
            have hpn2 : (p2 : Int) < ((n - k : Nat) : Int) := by omega
            have hkn2 : (k2 : Int) < ((n - k : Nat) : Int) := by omega
            have hkkn : (kk : Int) < (n : Int) := by omega
            have hk2b : k2 ≤ 1000000 := by omega
            have hkkb : kk ≤ 1000000 := by omega
            have HP2 := Lib.hid hp2
            generalize n - k = m at *
            clear hp2 hp1 HI hm2 kp hpn hkn kwr
            go_wp2_with fail
            refine wp_region_org [(0, true), (1, true), (2, true), (3, true), (4, true), (5, true), (6, true), (7, true), (8, true), (9, true)] (by kernel_rfl) (by kernel_rfl) (by kernel_rfl) ?_
            replace HB := Lib.hid HB.out.drew
            replace HR := Lib.hid HR.out.drew
            replace C1 := Lib.hid (fun w' (hv : Ext wr.drew w') => C1.out w' (Below.drew (Below.refl _ wr) |>.trans hv))
            replace C2 := Lib.hid (fun w' (hv : Ext wr.drew w') => C2.out w' (Below.drew (Below.refl _ wr) |>.trans hv))
            generalize wr.drew = wd2 at *
            simp only [pickOrs, List.getElem?_cons_zero, List.getElem?_cons_succ]
            refine org_pure (v := ?_) (by kernel_rfl) ?_ ?_
            rotate_left
            · intro w' hv; clear hv; go_simp; try with_reducible rfl
            try simp only [Act.put, List.setIfInBounds_toArray, List.set_cons_zero, List.set_cons_succ]
            refine org_pure (v := ?_) (by kernel_rfl) ?_ ?_
            rotate_left
            · intro w' hv; clear hv; go_simp; try with_reducible rfl
            try simp only [Act.put, List.setIfInBounds_toArray, List.set_cons_zero, List.set_cons_succ]
            refine org_pure (v := ?_) (by kernel_rfl) ?_ ?_
            rotate_left
            · intro w' hv; clear hv; go_simp; try with_reducible rfl
            try simp only [Act.put, List.setIfInBounds_toArray, List.set_cons_zero, List.set_cons_succ]
            refine org_pure (by kernel_rfl) (fun w' hv => load_su 24 (.tmp 37) rfl _ rfl elSum.2.1 szSum x ((fun w' hv => C1.out w' hv) w' hv)) ?_
            try simp only [Act.put, List.setIfInBounds_toArray, List.set_cons_zero, List.set_cons_succ]
            refine org_pure (v := ?_) (by kernel_rfl) ?_ ?_
            rotate_left
            · intro w' hv; clear hv; go_simp; try with_reducible rfl
            try simp only [Act.put, List.setIfInBounds_toArray, List.set_cons_zero, List.set_cons_succ]
            refine org_pure (v := ?_) (by kernel_rfl) ?_ ?_
            rotate_left
            · intro w' hv; clear hv; go_simp; try with_reducible rfl
            try simp only [Act.put, List.setIfInBounds_toArray, List.set_cons_zero, List.set_cons_succ]
            refine org_pure (v := ?_) (by kernel_rfl) ?_ ?_
            rotate_left
            · intro w' hv; clear hv; go_simp; try with_reducible rfl
            try simp only [Act.put, List.setIfInBounds_toArray, List.set_cons_zero, List.set_cons_succ]
            refine org_pure (v := ?_) (by kernel_rfl) ?_ ?_
            rotate_left
            · intro w' hv; clear hv; go_simp; try with_reducible rfl
            try simp only [Act.put, List.setIfInBounds_toArray, List.set_cons_zero, List.set_cons_succ]
            refine org_pure (by kernel_rfl) (fun w' hv => load_su 24 (.tmp 42) rfl _ rfl elSum.2.1 szSum y ((fun w' hv => C2.out w' hv) w' hv)) ?_
            try simp only [Act.put, List.setIfInBounds_toArray, List.set_cons_zero, List.set_cons_succ]
            refine org_pure (by kernel_rfl) (fun w' hv => neq_su 24 (.tmp 38) (.tmp 43) _ rfl x y rfl rfl elSum.2.1 gdSum) ?_
            try simp only [Act.put, List.setIfInBounds_toArray, List.set_cons_zero, List.set_cons_succ]
            refine org_nil ?_
            have C3 := Lib.hid (C1.out wd2 (Ext.refl _))
            clear C1 C2
            by_cases hxy : x = y
            · have HNEW := Lib.hid (HKN.out hxy)
              rw [decide_eq_true hxy]
              clear HKP HKN hxy C3
              go_wp2_with fail
              go_roundw
              case rel => exact ⟨kk, k2 + 1, dk, by omega, by omega, rfl, by go_num, HR.out, HB.out, HNEW.out⟩
              case measure => simp [intOf]; omega
            · have HNEW := Lib.hid (HKP.out hxy)
              rw [decide_eq_false hxy]
              clear HKP HKN hxy
              have HPUT := Lib.hid (HR.out.put kk (by omega) x)
              have HBP := Lib.hid (below_setCells hbg (encU x) (kk * 32) _ HB.out)
              go_wp2_with (first
                | (refine wpList_load_su rfl 24 (.tmp 49) rfl _ rfl elSum.2.1 szSum x C3.out ?_)
                | (refine wpList_store_su rfl 24 szSum (.tmp 51) (.tmp 50) rfl g kk _ (by omega) rfl x rfl HR.out (by omega) ?_))
              go_roundw
              case rel => exact ⟨kk + 1, k2 + 1, dk.setIfInBounds kk x, by omega, by omega, by go_num, by go_num, HPUT.out, HBP.out, HNEW.out⟩
              case measure => simp [intOf]; omega
          · have hend : k + k2 = n := by omega
            have hcut2 := HCUT.out kk (by omega)
            have hclr := fun ty => run_clear_su 32 24 elSum wr g kk (n - kk) (cap - kk) ty (by omega) HR.out (by omega) (kk * 32) rfl
            have hhd := fun w' => head_su 32 24 elSum (some ⟨g, 0, none⟩) n cap kk (by omega) w'
            obtain ⟨back, hrow, hbl⟩ := HR.out.cleared kk (n - kk) (by omega)
            have HROW := Lib.hid hrow
            have HBL := Lib.hid hbl
            have HBP := Lib.hid (below_setCells hbg (List.replicate ((n - kk) * 32) (Value.int .u8 0)) (kk * 32) _ HB.out)
            have hm2 : ((n - k : Nat) : Int) = (n : Int) - (k : Int) := by omega
            have hkn2 : ¬ (k2 : Int) < ((n - k : Nat) : Int) := by omega
            have HFIN : Hid (Lib.compact M = dk.toList.take kk) := Lib.hid (by
              rw [HCM.out]
              have hI := HI.out
              have hlow := hI.low
              have hlen := hI.len
              rw [hend] at hlow hlen
              rw [HDS.out]
              refine List.ext_getElem? fun j => ?_
              by_cases hj : j < kk
              · rw [hlow j hj, List.getElem?_take_of_lt hj, getElem!_pos dk j (by omega)]
                simp
              · rw [List.getElem?_eq_none (by omega), List.getElem?_eq_none (by rw [List.length_take]; omega)])
            have HLEN : Hid ((dk.toList.take kk).length = kk) := Lib.hid (by rw [List.length_take]; simp; omega)
            clear hrow hbl
            generalize hmm : n - k = m at *
            have hkk9 : kk ≤ n := by omega
            have hn9 := HDS.out
            go_wp2_with fail
            go_ret
            have hown := RowAt.own (base := base) HROW.out hbg (cap := cap) (by rw [HLEN.out]; omega) HMX.out (by rw [HLEN.out, HBL.out, HX.out, ← Nat.add_mul]; congr 1; omega)
            rw [HFIN.out]
            rw [HLEN.out] at hown ⊢
            exact ⟨rfl, hown, HBP.out⟩
      · have HKEEP := Lib.hid (HKP.out huv)
        rw [decide_eq_false huv]
        clear HKP HKN huv
        go_wp2_with fail
        go_roundw
        case rel => exact ⟨k + 1, by omega, by omega, by go_num, HR.out, HB.out, fun j hj => by
          by_cases e : j = k
          · subst e; exact HKEEP.out
          · exact HALL.out j (by omega)⟩
        case measure => simp [intOf]; omega
    · have hkn : k = n := by omega
      subst hkn
      have HFIN : Hid (Lib.compact M = M) := Lib.hid (Lib.compact_all M fun j hj => by
        have := HALL.out j (by have := HN.out; omega)
        rw [show M.toArray = d by rw [← HDL.out]]
        exact this)
      have kk : ¬ (k : Int) < (k : Int) := by omega
      go_wp2_with fail
      go_ret
      rw [HFIN.out]
      have hL : M.length = k := HN.out
      have hR2 : RowAt wr g 24 M.toArray rest := by rw [show M.toArray = d by rw [← HDL.out]]; exact HR.out
      rw [hL]
      have hown := RowAt.own (base := base) hR2 hbg (cap := cap) (by omega) HMX.out (by rw [hL]; exact HX.out)
      rw [hL] at hown
      exact ⟨rfl, hown, HB.out⟩
end Go.Proofs.YthpledfjopbchaaDoor
/- slices.SortFunc, Clone, Equal over sums, by this dump’s numbers: applications of the library’s own contracts. Conditions: those of the library. -/
namespace Go.Proofs.YthpledfjopbchaaDoor
open Go.Shelf Go.RowKit
def laysSortU_ren : Go.Shelf.Ren := ⟨fun | 6 => 41 | 15 => 54 | 14 => 53 | 28 => 72 | 29 => 73 | 20 => 64 | 21 => 65 | 22 => 66 | 23 => 67 | 24 => 68 | 25 => 69 | 26 => 70 | 27 => 71 | 46 => 81 | 47 => 82 | 48 => 83 | 49 => 84 | 50 => 85 | 57 => 89 | n => n, fun | 22 => 32 | 24 => 24 | 25 => 88 | 3 => 3 | 39 => 96 | 0 => 0 | 53 => 63 | 55 => 66 | 4 => 4 | 46 => 115 | 45 => 114 | 50 => 74 | 5 => 5 | 9 => 9 | 66 => 129 | 70 => 133 | 76 => 137 | 77 => 138 | n => n, fun | n => n⟩
theorem laysSortU : Go.Proofs.SlLaysF0.n6 Tryd.prog laysSortU_ren := {
  mixed := by kernel_rfl
  f6 := ⟨Tryd.f41.name, by decide, Tryd.func41.trans (congrArg some (by kernel_rfl))⟩
  f14 := ⟨Tryd.f53.name, by decide, Tryd.func53.trans (congrArg some (by kernel_rfl))⟩
  f15 := Tryd.func54.trans (congrArg some (by kernel_rfl))
  f20 := ⟨Tryd.f64.name, by decide, Tryd.func64.trans (congrArg some (by kernel_rfl))⟩
  f21 := ⟨Tryd.f65.name, by decide, Tryd.func65.trans (congrArg some (by kernel_rfl))⟩
  f22 := ⟨Tryd.f66.name, by decide, Tryd.func66.trans (congrArg some (by kernel_rfl))⟩
  f23 := ⟨Tryd.f67.name, by decide, Tryd.func67.trans (congrArg some (by kernel_rfl))⟩
  f24 := ⟨Tryd.f68.name, by decide, Tryd.func68.trans (congrArg some (by kernel_rfl))⟩
  f25 := ⟨Tryd.f69.name, by decide, Tryd.func69.trans (congrArg some (by kernel_rfl))⟩
  f26 := ⟨Tryd.f70.name, by decide, Tryd.func70.trans (congrArg some (by kernel_rfl))⟩
  f27 := ⟨Tryd.f71.name, by decide, Tryd.func71.trans (congrArg some (by kernel_rfl))⟩
  f28 := Tryd.func72.trans (congrArg some (by kernel_rfl))
  f29 := Tryd.func73.trans (congrArg some (by kernel_rfl))
  f46 := ⟨Tryd.f81.name, by decide, Tryd.func81.trans (congrArg some (by kernel_rfl))⟩
  f47 := Tryd.func82.trans (congrArg some (by kernel_rfl))
  f48 := Tryd.func83.trans (congrArg some (by kernel_rfl))
  f49 := ⟨Tryd.f84.name, by decide, Tryd.func84.trans (congrArg some (by kernel_rfl))⟩
  f50 := ⟨Tryd.f85.name, by decide, Tryd.func85.trans (congrArg some (by kernel_rfl))⟩
  f57 := ⟨Tryd.f89.name, by decide, Tryd.func89.trans (congrArg some (by kernel_rfl))⟩
  t0 := Tryd.underlying0
  a0 := Tryd.isAgg0
  z0 := Tryd.sizeOf0
  v0 := Tryd.zeroValue0
  t3 := Tryd.underlying3
  a3 := Tryd.isAgg3
  z3 := Tryd.sizeOf3
  v3 := Tryd.zeroValue3
  t4 := Tryd.underlying4
  a4 := Tryd.isAgg4
  z4 := Tryd.sizeOf4
  v4 := Tryd.zeroValue4
  t5 := Tryd.underlying5
  a5 := Tryd.isAgg5
  z5 := Tryd.sizeOf5
  v5 := Tryd.zeroValue5
  t9 := Tryd.underlying9
  a9 := Tryd.isAgg9
  z9 := Tryd.sizeOf9
  v9 := Tryd.zeroValue9
  t22 := Tryd.underlying32
  a22 := Tryd.isAgg32
  z22 := Tryd.sizeOf32
  v22 := Tryd.zeroValue32
  t25 := Tryd.underlying88
  a25 := Tryd.isAgg88
  z25 := Tryd.sizeOf88
  v25 := Tryd.zeroValue88
  t39 := Tryd.underlying96
  a39 := Tryd.isAgg96
  z39 := Tryd.sizeOf96
  v39 := Tryd.zeroValue96
  t45 := Tryd.underlying114
  a45 := Tryd.isAgg114
  z45 := Tryd.sizeOf114
  v45 := Tryd.zeroValue114
  t46 := Tryd.underlying115
  a46 := Tryd.isAgg115
  z46 := Tryd.sizeOf115
  v46 := Tryd.zeroValue115
  t50 := Tryd.underlying74
  a50 := Tryd.isAgg74
  z50 := Tryd.sizeOf74
  v50 := Tryd.zeroValue74
  t53 := Tryd.underlying63
  a53 := Tryd.isAgg63
  z53 := Tryd.sizeOf63
  v53 := Tryd.zeroValue63
  t55 := Tryd.underlying66
  a55 := Tryd.isAgg66
  z55 := Tryd.sizeOf66
  v55 := Tryd.zeroValue66
  t66 := Tryd.underlying129
  a66 := Tryd.isAgg129
  z66 := Tryd.sizeOf129
  v66 := Tryd.zeroValue129
  t70 := Tryd.underlying133
  a70 := Tryd.isAgg133
  z70 := Tryd.sizeOf133
  v70 := Tryd.zeroValue133
  t76 := Tryd.underlying137
  a76 := Tryd.isAgg137
  z76 := Tryd.sizeOf137
  v76 := Tryd.zeroValue137
  t77 := Tryd.underlying138
  a77 := Tryd.isAgg138
  z77 := Tryd.sizeOf138
  v77 := Tryd.zeroValue138 }
def laysCloneU_ren : Go.Shelf.Ren := ⟨fun | 41 => 40 | n => n, fun | 22 => 32 | 23 => 24 | 4 => 4 | n => n, fun | n => n⟩
theorem laysCloneU : Go.Proofs.SlLaysE0.n41 Tryd.prog laysCloneU_ren := {
  mixed := by kernel_rfl
  f41 := ⟨Tryd.f40.name, by decide, Tryd.func40.trans (congrArg some (by kernel_rfl))⟩
  t4 := Tryd.underlying4
  a4 := Tryd.isAgg4
  z4 := Tryd.sizeOf4
  v4 := Tryd.zeroValue4
  t22 := Tryd.underlying32
  a22 := Tryd.isAgg32
  z22 := Tryd.sizeOf32
  v22 := Tryd.zeroValue32 }
def laysEqualU_ren : Go.Shelf.Ren := ⟨fun | 8 => 44 | n => n, fun | 22 => 36 | 24 => 24 | 4 => 4 | 3 => 3 | 0 => 0 | n => n, fun | n => n⟩
theorem laysEqualU : Go.Proofs.SlLaysQ.n8 Tryd.prog laysEqualU_ren := {
  mixed := by kernel_rfl
  f8 := ⟨Tryd.f44.name, by decide, Tryd.func44.trans (congrArg some (by kernel_rfl))⟩
  t0 := Tryd.underlying0
  a0 := Tryd.isAgg0
  z0 := Tryd.sizeOf0
  v0 := Tryd.zeroValue0
  t3 := Tryd.underlying3
  a3 := Tryd.isAgg3
  z3 := Tryd.sizeOf3
  v3 := Tryd.zeroValue3
  t4 := Tryd.underlying4
  a4 := Tryd.isAgg4
  z4 := Tryd.sizeOf4
  v4 := Tryd.zeroValue4
  t22 := Tryd.underlying36
  a22 := Tryd.isAgg36
  z22 := Tryd.sizeOf36
  v22 := Tryd.zeroValue36 }
end Go.Proofs.YthpledfjopbchaaDoor
/- Contracts: slices.SortFunc, slices.Clone over sums; package set's Of, inOrder. Condition: at most 10^6 sums. -/
namespace Go.Proofs.YthpledfjopbchaaDoor
open Go.RowKit Go.Sort
theorem flatU (d : Array Su) : flatK encU 32 d = (rowU d.toList).toArray := by
  refine Array.ext (by simp [rowU_len]) fun t h1 h2 => ?_
  have ht : t < d.size * 32 := by simpa using h1
  have hi : t / 32 < d.toList.length := by simp; omega
  have h3 := get_flatK encU 32 d t ht
  rw [getElem!_pos (flatK encU 32 d) t h1] at h3
  rw [h3]
  have h4 := rowU_get d.toList (t / 32) hi (t % 32) (Nat.mod_lt _ (by decide))
  rw [show t / 32 * 32 + t % 32 = t by omega] at h4
  have h5 : t % 32 < (encU d.toList[t / 32]).length := by rw [encU_len]; exact Nat.mod_lt _ (by decide)
  rw [List.getElem?_eq_getElem h5, List.getElem?_eq_getElem (by simpa using h2)] at h4
  have h6 := Option.some.inj h4
  rw [getElem!_pos d (t / 32) (by simpa using hi), getElem!_pos (encU d[t / 32]) (t % 32) (by simpa using h5)]
  simpa using h6.symm
theorem RowAt.holds {w : World} {g : Nat} {E : TypeId} {dk : Array Su} {rest : List Value} (h : RowAt w g E dk rest) : HoldsK encU 32 w g 0 dk := fun j hj => by
  rw [flatU] at hj ⊢
  have hj' : j < (rowU dk.toList).length := by simpa using hj
  refine ⟨?_, Has.free h _⟩
  rw [Has.cell h, Nat.zero_add, List.getElem?_append_left hj', List.getElem?_eq_getElem hj', getElem!_pos (rowU dk.toList).toArray j hj]
  simp
theorem RowAt.sorted {w : World} {g : Nat} {E : TypeId} {dk d2 : Array Su} {rest : List Value} (h : RowAt w g E dk rest) (hs : d2.size = dk.size) (n : Nat) (os : Array Obj) : RowAt (sortWorldK encU 32 w g 0 n d2 os) g E d2 rest := by
  have hg : g < w.heap.size := Has.lt h
  unfold RowAt Has at h ⊢
  unfold sortWorldK putRowK
  rw [heap_grow_old _ _ (by simpa [putRow, mapBlock, Sort.ahead] using hg)]
  simp only [putRow, mapBlock, Sort.ahead, Array.getElem?_modify, h, onCells, if_true, Option.map_some]
  congr 2
  rw [flatU]
  unfold putCells
  have hl1 := rowU_len d2.toList
  have hl2 := rowU_len dk.toList
  have hz : d2.toList.length = dk.toList.length := by simpa using hs
  refine Array.ext (by simp [hl1, hl2, hz]) fun k h1 h2 => ?_
  simp only [Array.getElem_mapIdx, List.size_toArray, Nat.zero_add, Nat.zero_le, true_and, Nat.sub_zero, id]
  by_cases hk : k < (rowU d2.toList).length
  · rw [if_pos hk, getElem!_pos (rowU d2.toList).toArray k (by simpa using hk)]
    simp [List.getElem_append_left hk]
  · rw [if_neg hk]
    simp only [List.getElem_toArray]
    rw [List.getElem_append_right (by rw [hl2, ← hz, ← hl1]; omega), List.getElem_append_right (by omega)]
    congr 1
    rw [hl1, hl2, hz]
theorem below_sorted {w : World} {base g n : Nat} (hb : base ≤ g) (hs : base ≤ w.heap.size) (d : Array Su) (os : Array Obj) : Below base w (sortWorldK encU 32 w g 0 n d os) := by
  refine ⟨rfl, rfl, rfl, ?_, fun k hk => ?_⟩
  · unfold sortWorldK putRowK; show w.heap.size ≤ _; simp [grow, putRow, mapBlock, Sort.ahead]
  · unfold sortWorldK putRowK
    rw [heap_grow_old _ _ (by simp [putRow, mapBlock, Sort.ahead]; omega)]
    have : g ≠ k := by omega
    simp [putRow, mapBlock, Sort.ahead, Array.getElem?_modify, this]
theorem sortS_any (M : List Su) (g cap base : Nat) (hm : M.length ≤ 1000000) (w : World) (hO : OwnU w base 24 (.slice (some ⟨g, 0, none⟩) M.length cap) M) (hb : base ≤ w.heap.size) :
    Calls Tryd.prog 41 #[.slice (some ⟨g, 0, none⟩) M.length cap, .func (.func 42) #[] #[]] w fun e w' => e = .returned (.tuple #[]) ∧ OwnU w' base 24 (.slice (some ⟨g, 0, none⟩) M.length cap) (M.mergeSort fun x y => !(ltOf cmpU) y x) ∧ Below base w w' := by
  obtain ⟨rest, hR, hbg, hcap, hmax, hrest⟩ := hO.row
  have eg : ∀ args w, (callFunc 42 args).run Tryd.prog w = .ok (.enter 42 args) w := enters_of Tryd.func42 (by kernel_rfl) rfl
  have hcmp : CmpLays Tryd.prog 42 #[] encU 32 cmpU g 0 M.toArray.size w := fun m os dk _ x y => cmpg_any x.1 y.1 x.2 y.2 _
  have h := AnyQ.slices_SortFunc_total laysSortU 32 Tryd.isAgg24 Tryd.sizeOf24 encU encU_len encU_one cmpU swoU 42 #[] g 0 cap M.toArray w eg hcmp hR.holds (Has.lt hR) (by simp; omega) partedU
  have hz : M.toArray.size = M.length := by simp
  rw [hz] at h
  refine Calls.mono h fun e w' ⟨he, n, os, hw⟩ => ⟨he, ?_, ?_⟩
  · have hp := (sortU_facts M).1.length_eq
    have h2 := RowAt.sorted hR (d2 := (M.mergeSort fun x y => !(ltOf cmpU) y x).toArray) (by simp [hp]) n os
    rw [show M.toArray.toList = M from rfl] at hw
    rw [← hw] at h2
    have h3 := RowAt.own (base := base) h2 hbg (cap := cap) (by omega) hmax (by rw [hp]; exact hrest)
    rw [hp] at h3
    exact h3
  · rw [hw]; exact below_sorted hbg hb _ _
theorem sortNoneS (q : Option Addr) (c : Nat) (fv : Value) (w : World) : Calls Tryd.prog 41 #[.slice q 0 c, fv] w fun e w' => e = .returned (.tuple #[]) ∧ w' = w := AnyF.slices_SortFunc_none { laysSortU with } q c fv w
set_option maxHeartbeats 4000000 in
set_option maxRecDepth 100000 in
theorem cloneS_any (L : List Su) (q : Option Addr) (c : Nat) (hm : L.length ≤ 1000000) (w : World) (hs : Sees w w.heap.size q (rowU L)) :
    Calls Tryd.prog 40 #[.slice q L.length c] w fun e w' => (∃ v, e = .returned v ∧ OwnU w' w.heap.size 24 v L) ∧ Below w.heap.size w w' := by
  have HS := Lib.hid hs
  clear hs
  have hq := fun w a n c n' c' => Lib.run_eql_slice_nil (P := Tryd.prog) w 32 24 a n c n' c' Tryd.underlying32
  rcases q with _ | a
  · have h0 : L = [] := by
      rcases L with _ | ⟨y, L⟩
      · rfl
      · obtain ⟨a, h1, _⟩ := HS.out.get (by rw [rowU_len, List.length_cons]; omega)
        cases h1
    subst h0
    go_enter Tryd.func40, Tryd.ntmps40
    go_wp2_with fail
    go_ret
    exact ⟨⟨_, rfl, OwnU.nil _ _ _⟩, Below.refl _ _⟩
  · have HN := Lib.hid (run_none_su 32 24 elSum w)
    have HO := Lib.hid (OwnU.empty w w.heap.size 24 (Nat.le_refl _))
    have HB := Lib.hid ((Below.refl w.heap.size w).alloc (Nat.le_refl _) (.cells #[] 24))
    have HL : Hid (0 + L.length ≤ 4000000) := Lib.hid (by omega)
    have hrn := HN.out
    go_enter Tryd.func40, Tryd.ntmps40
    go_wp2_with (refine wpList_append_su rfl 32 24 elSum (.tmp 5) (.tmp 6) rfl w.heap.size _ [] rfl HO.out (some a) L L.length c w.heap.size rfl rfl (fun h => by cases h) (HS.out.keep HB.out) HL.out (by simp) ?_; intro v3 w3 h1 h2; have HO3 := Lib.hid h1; have HB3 := Lib.hid (HB.out.trans h2); clear h1 h2)
    go_ret
    exact ⟨⟨_, rfl, HO3.out⟩, HB3.out⟩
set_option maxHeartbeats 4000000 in
theorem setOf_any (L : List Su) (q : Option Addr) (c : Nat) (hm : L.length ≤ 1000000) (w : World) (hs : Sees w w.heap.size q (rowU L)) :
    Calls Tryd.prog 25 #[.slice q L.length c] w fun e w' => (∃ v, e = .returned v ∧ OwnU w' w.heap.size 24 v (srt L)) ∧ Below w.heap.size w w' := by
  have HC := Lib.hid (cloneS_any L q c hm w hs)
  clear hs
  go_enter Tryd.func25, Tryd.ntmps25
  go_upto_region 2 with ((with_reducible refine HC.out.mono ?_); rintro e w1 ⟨⟨v1, rfl, h1⟩, h2⟩; have HO1 := Lib.hid h1; have HB1 := Lib.hid h2; clear h1 h2)
  rcases HO1.out.2 with ⟨rfl, h0⟩ | ⟨g, cap, cur, rfl, hg⟩
  · have hL : L = [] := List.eq_nil_of_length_eq_zero h0
    subst hL
    clear HO1 HC
    have HCS : Hid (∀ w1, Calls Tryd.prog 43 #[.slice none 0 0] w1 fun e w' => e = .returned (.slice none 0 0) ∧ w' = w1) := Lib.hid (fun w1 => compactS_short [] none 0 (by decide) w1)
    go_wp2_with (first | ((with_reducible refine (sortNoneS _ _ _ _).mono ?_); rintro e w2 ⟨rfl, rfl⟩) | ((with_reducible refine (HCS.out _).mono ?_); rintro e w2 ⟨rfl, rfl⟩))
    go_ret
    exact ⟨⟨_, rfl, OwnU.nil _ _ _⟩, HB1.out⟩
  · have HS := Lib.hid (sortS_any L g cap w.heap.size hm w1 HO1.out HB1.out.size)
    have HLM : Hid ((L.mergeSort fun x y => !(ltOf cmpU) y x).length = L.length) := Lib.hid (sortU_facts L).1.length_eq
    have HFIN : Hid (Lib.compact (L.mergeSort fun x y => !(ltOf cmpU) y x) = srt L) := Lib.hid (of_srt L)
    generalize (L.mergeSort fun x y => !(ltOf cmpU) y x) = M at *
    clear hg HO1 HC
    have HCO : Hid (∀ w2, OwnU w2 w.heap.size 24 (.slice (some ⟨g, 0, none⟩) L.length cap) M → Calls Tryd.prog 43 #[.slice (some ⟨g, 0, none⟩) L.length cap] w2 fun e w' => e = .returned (.slice (some ⟨g, 0, none⟩) (srt L).length cap) ∧ OwnU w' w.heap.size 24 (.slice (some ⟨g, 0, none⟩) (srt L).length cap) (srt L) ∧ Below w.heap.size w2 w') := Lib.hid (fun w2 h => by
      have h2 := compactS_any M g cap w.heap.size (by rw [HLM.out]; exact hm) w2 (by rw [HLM.out]; exact h)
      rw [HLM.out, HFIN.out] at h2
      exact h2)
    clear HLM HFIN
    go_wp2_with (first | ((with_reducible refine HS.out.mono ?_); rintro e w2 ⟨rfl, h1, h2⟩; have HO2 := Lib.hid h1; have HB2 := Lib.hid (HB1.out.trans h2); clear h1 h2) | ((with_reducible refine (HCO.out _ HO2.out).mono ?_); rintro e w3 ⟨rfl, h1, h2⟩; have HO3 := Lib.hid h1; have HB3 := Lib.hid (HB2.out.trans h2); clear h1 h2))
    go_ret
    exact ⟨⟨_, rfl, HO3.out⟩, HB3.out⟩
set_option maxHeartbeats 4000000 in
theorem inOrder_any (L : List Su) (q : Option Addr) (c : Nat) (hm : L.length ≤ 1000000) (hc : L.length ≤ c) (hq : q = none → c = 0) (w : World) (hs : Sees w w.heap.size q (rowU L)) :
    Calls Tryd.prog 51 #[.slice q L.length c] w fun e w' => (∃ v, e = .returned v ∧ Us w' v (srt L)) ∧ Below w.heap.size w w' := by
  have HR := Lib.hid (rises_any L q c (by omega) w hs)
  have HF : Hid (∀ w1, Below w.heap.size w w1 → Calls Tryd.prog 25 #[.slice q L.length c] w1 fun e w' => (∃ v, e = .returned v ∧ OwnU w' w1.heap.size 24 v (srt L)) ∧ Below w1.heap.size w1 w') := Lib.hid (fun w1 hb => setOf_any L q c hm w1 ((hs.keep hb).more hb.size))
  have HS := Lib.hid hs
  clear hs
  by_cases ha : AscU L
  · rw [decide_eq_true ha] at HR
    have HE := Lib.hid (srt_asc ha)
    clear ha HF
    go_enter Tryd.func51, Tryd.ntmps51
    go_wp2_with ((with_reducible refine HR.out.mono ?_); rintro e w1 ⟨rfl, h1⟩; have HB1 := Lib.hid h1; clear h1)
    go_ret
    refine ⟨⟨_, rfl, ?_⟩, HB1.out⟩
    rw [HE.out]
    exact ⟨q, c, rfl, hc, hq, (HS.out.keep HB1.out).more HB1.out.size⟩
  · rw [decide_eq_false ha] at HR
    clear ha HS
    go_enter Tryd.func51, Tryd.ntmps51
    go_wp2_with (first | ((with_reducible refine HR.out.mono ?_); rintro e w1 ⟨rfl, h1⟩; have HB1 := Lib.hid h1; clear h1) | ((with_reducible refine (HF.out _ HB1.out).mono ?_); rintro e w2 ⟨⟨v2, rfl, h1⟩, h2⟩; have HO2 := Lib.hid h1; have HB2 := Lib.hid (HB1.out.trans (h2.mono HB1.out.size)); clear h1 h2))
    go_ret
    exact ⟨⟨_, rfl, HO2.out.us⟩, HB2.out⟩
end Go.Proofs.YthpledfjopbchaaDoor
/- Contracts: package set's least, merge with each of its three keeps, Minus, Both, Either. Condition: at most 10^6 sums each. -/
namespace Go.Proofs.YthpledfjopbchaaDoor
open Go.RowKit
theorem results_three {fn : Func} {p u v : Tmp} {ty : TypeId} (h : fn.results = #[.cell p ty, .tmp u, .tmp v]) (tmps : Array Value) (w : World) (g : Nat) (t : TypeId) (cs : Array Value) (fr : Nat × Nat)
    (hp : tmps.getD p undef = .pointer (some ⟨g, 0, none⟩)) (hg : w.heap[g]? = some (.cells cs t fr)) (x y : Value) (hx : tmps.getD u undef = x) (hy : tmps.getD v undef = y)
    (hu : Tryd.prog.underlying ty = some (.array 32 5)) (hi : (Tryd.prog.info? ty).map (·.size) = some cs.size) :
    (results fn tmps).run Tryd.prog w = .ok (.tuple #[.agg cs, x, y]) w := by
  have hp' : tmps[p]?.getD undef = .pointer (some ⟨g, 0, none⟩) := by simpa using hp
  have hx' : tmps[u]?.getD undef = x := by simpa using hx
  have hy' : tmps[v]?.getD undef = y := by simpa using hy
  simp [results, h, hp', hx', hy', asAddr, run_loadVar_row w g t ty cs fr _ hg hu rfl hi]
def zrU : List Value := List.replicate 32 (.int .u8 0)
theorem zrU_len : zrU.length = 32 := rfl
theorem Us.parts {w : World} {q : Option Addr} {n c : Nat} {L : List Su} (hn : n = L.length) (hc : L.length ≤ c) (hq : q = none → c = 0) (hs : Sees w w.heap.size q (rowU L)) : Us w (.slice q n c) L := by
  subst hn; exact ⟨q, c, rfl, hc, hq, hs⟩
def tlQ (q : Option Addr) (c : Nat) : Option Addr := if c = 1 then q else q.map (·.add 32)
theorem cut1_su (T E : TypeId) (hT : ElT T E) (q : Option Addr) (n c : Nat) (hk : 1 ≤ n) (w : World) :
    (Instr.slice T (.slice q n c) (some (.int .i64 1)) none none).run Tryd.prog w = .ok (.slice (tlQ q c) (n - 1) (c - 1)) w := by
  have := cut_su T E hT q n c 1 hk w
  rw [Nat.one_mul] at this
  exact this
theorem tl_us {w : World} {q : Option Addr} {c : Nat} {L : List Su} (h0 : 0 < L.length) (hc : L.length ≤ c) (hq : q = none → c = 0) (hs : Sees w w.heap.size q (rowU L)) : Us w (.slice (tlQ q c) (L.length - 1) (c - 1)) L.tail := by
  have h1 := Sees.cutU (c := c) (k := 1) hs hc
  rw [Nat.one_mul, List.drop_one] at h1
  refine Us.parts (by rw [List.length_tail]) (by rw [List.length_tail]; omega) (fun h => ?_) h1
  have := cutU_none (k := 1) (n := 32) hq h
  omega
set_option maxHeartbeats 4000000 in
set_option maxRecDepth 100000 in
theorem least_left (w : World) (A B : List Su) (qa qb : Option Addr) (ca cb : Nat) (hA : A.length = 0) (y : Su) (a : Addr) (hqb : qb = some a) (hB : 0 < B.length) (hy : ∀ w', Below w.heap.size w w' → ∀ j u, (encU y)[j]? = some u → w'.cell? (a.add j) = some u) :
    Calls Tryd.prog 52 #[.slice qa A.length ca, .slice qb B.length cb] w fun e w' => e = .returned (.tuple #[aggU y, .bool false, .bool true]) ∧ Below w.heap.size w w' := by
  subst hqb
  have hA0 : (A.length : Int) = 0 := by omega
  have hB0 : (0 : Int) < (B.length : Int) := by omega
  have HY0 := Lib.hid hy
  clear hy
  have hR := Lib.hid ((Below.refl w.heap.size w).alloc (Nat.le_refl _) (.cells zrU.toArray 24))
  have HZ : Hid (Has (w.alloc (.cells zrU.toArray 24)) w.heap.size 24 zrU) := Lib.hid (Has.made' w _ _ _ rfl)
  go_enter Tryd.func52, Tryd.ntmps52
  have HY := Lib.hid (HY0.out _ hR.out)
  have hz : a.add (0 * 32) = a := by simp [Addr.add]
  go_wp2_with (first | (refine wpList_load_su rfl 24 (.tmp 13) rfl _ rfl elSum.2.1 szSum y HY.out ?_) | (refine wpList_store_row rfl 24 (.tmp 4) (.tmp 14) rfl w.heap.size (encU y).toArray rfl rfl 24 _ HZ.out (by rw [encU_size]; exact szSum) (by rw [encU_size]; rfl) (encU_all y) ?_))
  refine bodyPost_ret (v := .tuple #[aggU y, .bool false, .bool true]) ?_ rfl ⟨rfl, below_row hR.out (Nat.le_refl _) _⟩
  exact results_three rfl _ _ w.heap.size 24 _ (0, 0) rfl (Has.rowl HZ.out _) _ _ rfl rfl Tryd.underlying24 (by rw [encU_size]; exact szSum)
set_option maxHeartbeats 4000000 in
set_option maxRecDepth 100000 in
theorem least_right (w : World) (A B : List Su) (qa qb : Option Addr) (ca cb : Nat) (hA : 0 < A.length) (x : Su) (a : Addr) (hqa : qa = some a) (hB : B.length = 0) (hx : ∀ w', Below w.heap.size w w' → ∀ j u, (encU x)[j]? = some u → w'.cell? (a.add j) = some u) :
    Calls Tryd.prog 52 #[.slice qa A.length ca, .slice qb B.length cb] w fun e w' => e = .returned (.tuple #[aggU x, .bool true, .bool false]) ∧ Below w.heap.size w w' := by
  subst hqa
  have hA0 : ¬ (A.length : Int) = 0 := by omega
  have hA1 : (0 : Int) < (A.length : Int) := by omega
  have hB0 : (B.length : Int) = 0 := by omega
  have HX0 := Lib.hid hx
  clear hx
  have hR := Lib.hid ((Below.refl w.heap.size w).alloc (Nat.le_refl _) (.cells zrU.toArray 24))
  have HZ : Hid (Has (w.alloc (.cells zrU.toArray 24)) w.heap.size 24 zrU) := Lib.hid (Has.made' w _ _ _ rfl)
  go_enter Tryd.func52, Tryd.ntmps52
  have HX := Lib.hid (HX0.out _ hR.out)
  go_wp2_with (first | (refine wpList_load_su rfl 24 (.tmp 20) rfl _ rfl elSum.2.1 szSum x HX.out ?_) | (refine wpList_store_row rfl 24 (.tmp 4) (.tmp 21) rfl w.heap.size (encU x).toArray rfl rfl 24 _ HZ.out (by rw [encU_size]; exact szSum) (by rw [encU_size]; rfl) (encU_all x) ?_))
  refine bodyPost_ret (v := .tuple #[aggU x, .bool true, .bool false]) ?_ rfl ⟨rfl, below_row hR.out (Nat.le_refl _) _⟩
  exact results_three rfl _ _ w.heap.size 24 _ (0, 0) rfl (Has.rowl HZ.out _) _ _ rfl rfl Tryd.underlying24 (by rw [encU_size]; exact szSum)
set_option maxHeartbeats 4000000 in
set_option maxRecDepth 100000 in
theorem least_lt (w : World) (A B : List Su) (qa qb : Option Addr) (ca cb : Nat) (hA : 0 < A.length) (hB : 0 < B.length) (x y : Su) (a b : Addr) (hqa : qa = some a) (hqb : qb = some b) (hc : cmpU x y = -1) (hx : ∀ w', Below w.heap.size w w' → ∀ j u, (encU x)[j]? = some u → w'.cell? (a.add j) = some u) (hy : ∀ w', Below w.heap.size w w' → ∀ j u, (encU y)[j]? = some u → w'.cell? (b.add j) = some u) :
    Calls Tryd.prog 52 #[.slice qa A.length ca, .slice qb B.length cb] w fun e w' => e = .returned (.tuple #[aggU x, .bool true, .bool false]) ∧ Below w.heap.size w w' := by
  subst hqa hqb
  have hA0 : ¬ (A.length : Int) = 0 := by omega
  have hA1 : (0 : Int) < (A.length : Int) := by omega
  have hB0 : ¬ (B.length : Int) = 0 := by omega
  have hB1 : (0 : Int) < (B.length : Int) := by omega
  have HX0 := Lib.hid hx
  have HY0 := Lib.hid hy
  have HC := Lib.hid (fun w1 => cmpS_any x y w1)
  rw [hc] at HC
  clear hx hy hc
  have hR := Lib.hid ((Below.refl w.heap.size w).alloc (Nat.le_refl _) (.cells zrU.toArray 24))
  have HZ : Hid (Has (w.alloc (.cells zrU.toArray 24)) w.heap.size 24 zrU) := Lib.hid (Has.made' w _ _ _ rfl)
  go_enter Tryd.func52, Tryd.ntmps52
  clear hR HZ
  go_wp2_with fail
  generalize hw0 : w.alloc _ = w0
  have hR : Hid (Below w.heap.size w w0) := Lib.hid (by subst hw0; exact (Below.refl _ _).alloc (Nat.le_refl _) _)
  have HZ : Hid (Has w0 w.heap.size 24 zrU) := Lib.hid (by subst hw0; exact Has.made' _ _ _ _ rfl)
  clear hw0
  refine wp_region_org [(0, true), (1, true), (2, true), (3, true), (4, true), (5, true), (6, false), (7, true)] (by kernel_rfl) (by kernel_rfl) (by kernel_rfl) ?_
  replace hR := Lib.hid hR.out.drew
  replace HZ := Lib.hid HZ.out.drew
  generalize w0.drew = wd at *
  simp only [pickOrs, List.getElem?_cons_zero, List.getElem?_cons_succ]
  refine org_pure (v := ?_) (by kernel_rfl) ?_ ?_
  rotate_left
  · intro w' hv; clear hv; go_simp; try with_reducible rfl
  try simp only [Act.put, List.setIfInBounds_toArray, List.set_cons_zero, List.set_cons_succ]
  refine org_pure (v := ?_) (by kernel_rfl) ?_ ?_
  rotate_left
  · intro w' hv; clear hv; go_simp; try with_reducible rfl
  try simp only [Act.put, List.setIfInBounds_toArray, List.set_cons_zero, List.set_cons_succ]
  refine org_pure (by kernel_rfl) (fun w' hv => load_su 24 (.tmp 23) rfl _ rfl elSum.2.1 szSum x ((fun w' hv => HX0.out w' (hR.out.trans (Below.mono hv hR.out.size))) w' hv)) ?_
  try simp only [Act.put, List.setIfInBounds_toArray, List.set_cons_zero, List.set_cons_succ]
  refine org_pure (v := ?_) (by kernel_rfl) ?_ ?_
  rotate_left
  · intro w' hv; clear hv; go_simp; try with_reducible rfl
  try simp only [Act.put, List.setIfInBounds_toArray, List.set_cons_zero, List.set_cons_succ]
  refine org_pure (v := ?_) (by kernel_rfl) ?_ ?_
  rotate_left
  · intro w' hv; clear hv; go_simp; try with_reducible rfl
  try simp only [Act.put, List.setIfInBounds_toArray, List.set_cons_zero, List.set_cons_succ]
  refine org_pure (by kernel_rfl) (fun w' hv => load_su 24 (.tmp 26) rfl _ rfl elSum.2.1 szSum y ((fun w' hv => HY0.out w' (hR.out.trans (Below.mono hv hR.out.size))) w' hv)) ?_
  try simp only [Act.put, List.setIfInBounds_toArray, List.set_cons_zero, List.set_cons_succ]
  refine org_step (by kernel_rfl) (fun K hK => ?_)
  go_wp2_with fail
  refine (HC.out _).mono ?_
  rintro e wx ⟨rfl, hb⟩
  have HE := Lib.hid hb
  clear hb
  refine hK _ _ ⟨HE.out, ?_⟩
  clear hK
  try simp only [Act.put, List.setIfInBounds_toArray, List.set_cons_zero, List.set_cons_succ]
  refine org_pure (v := ?_) (by kernel_rfl) ?_ ?_
  rotate_left
  · intro w' hv; clear hv; go_simp; try with_reducible rfl
  try simp only [Act.put, List.setIfInBounds_toArray, List.set_cons_zero, List.set_cons_succ]
  refine org_nil ?_
  replace HZ := Lib.hid (HZ.out.keep HE.out HZ.out.lt)
  replace hR := Lib.hid (hR.out.trans (HE.out.mono hR.out.size))
  have HS := Lib.hid (HX0.out _ hR.out)
  go_wp2_with (first | (refine wpList_load_su rfl 24 (.tmp 32) rfl _ rfl elSum.2.1 szSum x HS.out ?_) | (refine wpList_store_row rfl 24 (.tmp 4) (.tmp 33) rfl w.heap.size (encU x).toArray rfl rfl 24 _ HZ.out (by rw [encU_size]; exact szSum) (by rw [encU_size]; rfl) (encU_all x) ?_))
  refine bodyPost_ret (v := .tuple #[aggU x, .bool true, .bool false]) ?_ rfl ⟨rfl, below_row hR.out (Nat.le_refl _) _⟩
  exact results_three rfl _ _ w.heap.size 24 _ (0, 0) rfl (Has.rowl HZ.out _) _ _ rfl rfl Tryd.underlying24 (by rw [encU_size]; exact szSum)
set_option maxHeartbeats 4000000 in
set_option maxRecDepth 100000 in
theorem least_eq (w : World) (A B : List Su) (qa qb : Option Addr) (ca cb : Nat) (hA : 0 < A.length) (hB : 0 < B.length) (x y : Su) (a b : Addr) (hqa : qa = some a) (hqb : qb = some b) (hc : cmpU x y = 0) (hx : ∀ w', Below w.heap.size w w' → ∀ j u, (encU x)[j]? = some u → w'.cell? (a.add j) = some u) (hy : ∀ w', Below w.heap.size w w' → ∀ j u, (encU y)[j]? = some u → w'.cell? (b.add j) = some u) :
    Calls Tryd.prog 52 #[.slice qa A.length ca, .slice qb B.length cb] w fun e w' => e = .returned (.tuple #[aggU x, .bool true, .bool true]) ∧ Below w.heap.size w w' := by
  subst hqa hqb
  have hA0 : ¬ (A.length : Int) = 0 := by omega
  have hA1 : (0 : Int) < (A.length : Int) := by omega
  have hB0 : ¬ (B.length : Int) = 0 := by omega
  have hB1 : (0 : Int) < (B.length : Int) := by omega
  have HX0 := Lib.hid hx
  have HY0 := Lib.hid hy
  have HC := Lib.hid (fun w1 => cmpS_any x y w1)
  rw [hc] at HC
  clear hx hy hc
  have hR := Lib.hid ((Below.refl w.heap.size w).alloc (Nat.le_refl _) (.cells zrU.toArray 24))
  have HZ : Hid (Has (w.alloc (.cells zrU.toArray 24)) w.heap.size 24 zrU) := Lib.hid (Has.made' w _ _ _ rfl)
  go_enter Tryd.func52, Tryd.ntmps52
  clear hR HZ
  go_wp2_with fail
  generalize hw0 : w.alloc _ = w0
  have hR : Hid (Below w.heap.size w w0) := Lib.hid (by subst hw0; exact (Below.refl _ _).alloc (Nat.le_refl _) _)
  have HZ : Hid (Has w0 w.heap.size 24 zrU) := Lib.hid (by subst hw0; exact Has.made' _ _ _ _ rfl)
  clear hw0
  refine wp_region_org [(0, true), (1, true), (2, true), (3, true), (4, true), (5, true), (6, false), (7, true)] (by kernel_rfl) (by kernel_rfl) (by kernel_rfl) ?_
  replace hR := Lib.hid hR.out.drew
  replace HZ := Lib.hid HZ.out.drew
  generalize w0.drew = wd at *
  simp only [pickOrs, List.getElem?_cons_zero, List.getElem?_cons_succ]
  refine org_pure (v := ?_) (by kernel_rfl) ?_ ?_
  rotate_left
  · intro w' hv; clear hv; go_simp; try with_reducible rfl
  try simp only [Act.put, List.setIfInBounds_toArray, List.set_cons_zero, List.set_cons_succ]
  refine org_pure (v := ?_) (by kernel_rfl) ?_ ?_
  rotate_left
  · intro w' hv; clear hv; go_simp; try with_reducible rfl
  try simp only [Act.put, List.setIfInBounds_toArray, List.set_cons_zero, List.set_cons_succ]
  refine org_pure (by kernel_rfl) (fun w' hv => load_su 24 (.tmp 23) rfl _ rfl elSum.2.1 szSum x ((fun w' hv => HX0.out w' (hR.out.trans (Below.mono hv hR.out.size))) w' hv)) ?_
  try simp only [Act.put, List.setIfInBounds_toArray, List.set_cons_zero, List.set_cons_succ]
  refine org_pure (v := ?_) (by kernel_rfl) ?_ ?_
  rotate_left
  · intro w' hv; clear hv; go_simp; try with_reducible rfl
  try simp only [Act.put, List.setIfInBounds_toArray, List.set_cons_zero, List.set_cons_succ]
  refine org_pure (v := ?_) (by kernel_rfl) ?_ ?_
  rotate_left
  · intro w' hv; clear hv; go_simp; try with_reducible rfl
  try simp only [Act.put, List.setIfInBounds_toArray, List.set_cons_zero, List.set_cons_succ]
  refine org_pure (by kernel_rfl) (fun w' hv => load_su 24 (.tmp 26) rfl _ rfl elSum.2.1 szSum y ((fun w' hv => HY0.out w' (hR.out.trans (Below.mono hv hR.out.size))) w' hv)) ?_
  try simp only [Act.put, List.setIfInBounds_toArray, List.set_cons_zero, List.set_cons_succ]
  refine org_step (by kernel_rfl) (fun K hK => ?_)
  go_wp2_with fail
  refine (HC.out _).mono ?_
  rintro e wx ⟨rfl, hb⟩
  have HE := Lib.hid hb
  clear hb
  refine hK _ _ ⟨HE.out, ?_⟩
  clear hK
  try simp only [Act.put, List.setIfInBounds_toArray, List.set_cons_zero, List.set_cons_succ]
  refine org_pure (v := ?_) (by kernel_rfl) ?_ ?_
  rotate_left
  · intro w' hv; clear hv; go_simp; try with_reducible rfl
  try simp only [Act.put, List.setIfInBounds_toArray, List.set_cons_zero, List.set_cons_succ]
  refine org_nil ?_
  replace HZ := Lib.hid (HZ.out.keep HE.out HZ.out.lt)
  replace hR := Lib.hid (hR.out.trans (HE.out.mono hR.out.size))
  have HS := Lib.hid (HX0.out _ hR.out)
  go_wp2_with (first | (refine wpList_load_su rfl 24 (.tmp 32) rfl _ rfl elSum.2.1 szSum x HS.out ?_) | (refine wpList_store_row rfl 24 (.tmp 4) (.tmp 33) rfl w.heap.size (encU x).toArray rfl rfl 24 _ HZ.out (by rw [encU_size]; exact szSum) (by rw [encU_size]; rfl) (encU_all x) ?_))
  refine bodyPost_ret (v := .tuple #[aggU x, .bool true, .bool true]) ?_ rfl ⟨rfl, below_row hR.out (Nat.le_refl _) _⟩
  exact results_three rfl _ _ w.heap.size 24 _ (0, 0) rfl (Has.rowl HZ.out _) _ _ rfl rfl Tryd.underlying24 (by rw [encU_size]; exact szSum)
set_option maxHeartbeats 4000000 in
set_option maxRecDepth 100000 in
theorem least_gt (w : World) (A B : List Su) (qa qb : Option Addr) (ca cb : Nat) (hA : 0 < A.length) (hB : 0 < B.length) (x y : Su) (a b : Addr) (hqa : qa = some a) (hqb : qb = some b) (hc : cmpU x y = 1) (hx : ∀ w', Below w.heap.size w w' → ∀ j u, (encU x)[j]? = some u → w'.cell? (a.add j) = some u) (hy : ∀ w', Below w.heap.size w w' → ∀ j u, (encU y)[j]? = some u → w'.cell? (b.add j) = some u) :
    Calls Tryd.prog 52 #[.slice qa A.length ca, .slice qb B.length cb] w fun e w' => e = .returned (.tuple #[aggU y, .bool false, .bool true]) ∧ Below w.heap.size w w' := by
  subst hqa hqb
  have hA0 : ¬ (A.length : Int) = 0 := by omega
  have hA1 : (0 : Int) < (A.length : Int) := by omega
  have hB0 : ¬ (B.length : Int) = 0 := by omega
  have hB1 : (0 : Int) < (B.length : Int) := by omega
  have HX0 := Lib.hid hx
  have HY0 := Lib.hid hy
  have HC := Lib.hid (fun w1 => cmpS_any x y w1)
  rw [hc] at HC
  clear hx hy hc
  have hR := Lib.hid ((Below.refl w.heap.size w).alloc (Nat.le_refl _) (.cells zrU.toArray 24))
  have HZ : Hid (Has (w.alloc (.cells zrU.toArray 24)) w.heap.size 24 zrU) := Lib.hid (Has.made' w _ _ _ rfl)
  go_enter Tryd.func52, Tryd.ntmps52
  clear hR HZ
  go_wp2_with fail
  generalize hw0 : w.alloc _ = w0
  have hR : Hid (Below w.heap.size w w0) := Lib.hid (by subst hw0; exact (Below.refl _ _).alloc (Nat.le_refl _) _)
  have HZ : Hid (Has w0 w.heap.size 24 zrU) := Lib.hid (by subst hw0; exact Has.made' _ _ _ _ rfl)
  clear hw0
  refine wp_region_org [(0, true), (1, true), (2, true), (3, true), (4, true), (5, true), (6, false), (7, true)] (by kernel_rfl) (by kernel_rfl) (by kernel_rfl) ?_
  replace hR := Lib.hid hR.out.drew
  replace HZ := Lib.hid HZ.out.drew
  generalize w0.drew = wd at *
  simp only [pickOrs, List.getElem?_cons_zero, List.getElem?_cons_succ]
  refine org_pure (v := ?_) (by kernel_rfl) ?_ ?_
  rotate_left
  · intro w' hv; clear hv; go_simp; try with_reducible rfl
  try simp only [Act.put, List.setIfInBounds_toArray, List.set_cons_zero, List.set_cons_succ]
  refine org_pure (v := ?_) (by kernel_rfl) ?_ ?_
  rotate_left
  · intro w' hv; clear hv; go_simp; try with_reducible rfl
  try simp only [Act.put, List.setIfInBounds_toArray, List.set_cons_zero, List.set_cons_succ]
  refine org_pure (by kernel_rfl) (fun w' hv => load_su 24 (.tmp 23) rfl _ rfl elSum.2.1 szSum x ((fun w' hv => HX0.out w' (hR.out.trans (Below.mono hv hR.out.size))) w' hv)) ?_
  try simp only [Act.put, List.setIfInBounds_toArray, List.set_cons_zero, List.set_cons_succ]
  refine org_pure (v := ?_) (by kernel_rfl) ?_ ?_
  rotate_left
  · intro w' hv; clear hv; go_simp; try with_reducible rfl
  try simp only [Act.put, List.setIfInBounds_toArray, List.set_cons_zero, List.set_cons_succ]
  refine org_pure (v := ?_) (by kernel_rfl) ?_ ?_
  rotate_left
  · intro w' hv; clear hv; go_simp; try with_reducible rfl
  try simp only [Act.put, List.setIfInBounds_toArray, List.set_cons_zero, List.set_cons_succ]
  refine org_pure (by kernel_rfl) (fun w' hv => load_su 24 (.tmp 26) rfl _ rfl elSum.2.1 szSum y ((fun w' hv => HY0.out w' (hR.out.trans (Below.mono hv hR.out.size))) w' hv)) ?_
  try simp only [Act.put, List.setIfInBounds_toArray, List.set_cons_zero, List.set_cons_succ]
  refine org_step (by kernel_rfl) (fun K hK => ?_)
  go_wp2_with fail
  refine (HC.out _).mono ?_
  rintro e wx ⟨rfl, hb⟩
  have HE := Lib.hid hb
  clear hb
  refine hK _ _ ⟨HE.out, ?_⟩
  clear hK
  try simp only [Act.put, List.setIfInBounds_toArray, List.set_cons_zero, List.set_cons_succ]
  refine org_pure (v := ?_) (by kernel_rfl) ?_ ?_
  rotate_left
  · intro w' hv; clear hv; go_simp; try with_reducible rfl
  try simp only [Act.put, List.setIfInBounds_toArray, List.set_cons_zero, List.set_cons_succ]
  refine org_nil ?_
  replace HZ := Lib.hid (HZ.out.keep HE.out HZ.out.lt)
  replace hR := Lib.hid (hR.out.trans (HE.out.mono hR.out.size))
  have HS := Lib.hid (HY0.out _ hR.out)
  go_wp2_with (first | (refine wpList_load_su rfl 24 (.tmp 37) rfl _ rfl elSum.2.1 szSum y HS.out ?_) | (refine wpList_store_row rfl 24 (.tmp 4) (.tmp 38) rfl w.heap.size (encU y).toArray rfl rfl 24 _ HZ.out (by rw [encU_size]; exact szSum) (by rw [encU_size]; rfl) (encU_all y) ?_))
  refine bodyPost_ret (v := .tuple #[aggU y, .bool false, .bool true]) ?_ rfl ⟨rfl, below_row hR.out (Nat.le_refl _) _⟩
  exact results_three rfl _ _ w.heap.size 24 _ (0, 0) rfl (Has.rowl HZ.out _) _ _ rfl rfl Tryd.underlying24 (by rw [encU_size]; exact szSum)
theorem least_any (A B : List Su) (qa qb : Option Addr) (ca cb : Nat) (h : ¬ (A = [] ∧ B = [])) (w : World) (ha : Sees w w.heap.size qa (rowU A)) (hb : Sees w w.heap.size qb (rowU B)) :
    Calls Tryd.prog 52 #[.slice qa A.length ca, .slice qb B.length cb] w fun e w' => e = .returned (.tuple #[aggU (leastU A B).1, .bool (leastU A B).2.1, .bool (leastU A B).2.2]) ∧ Below w.heap.size w w' := by
  have z : ∀ a : Addr, a.add (0 * 32) = a := fun a => by simp [Addr.add]
  match A, B, h, ha, hb with
  | [], [], h, _, _ => exact absurd ⟨rfl, rfl⟩ h
  | [], y :: B, _, _, hb =>
    obtain ⟨a, e, _, hc⟩ := Ss.el hb (i := 0) (by simp)
    exact least_left w [] (y :: B) qa qb ca cb rfl y a e (by simp) (fun w' hw => by have := hc w' hw; rw [z] at this; exact this)
  | x :: A, [], _, ha, _ =>
    obtain ⟨a, e, _, hc⟩ := Ss.el ha (i := 0) (by simp)
    exact least_right w (x :: A) [] qa qb ca cb (by simp) x a e rfl (fun w' hw => by have := hc w' hw; rw [z] at this; exact this)
  | x :: A, y :: B, _, ha, hb =>
    obtain ⟨a, e, _, hc⟩ := Ss.el ha (i := 0) (by simp)
    obtain ⟨b, e2, _, hc2⟩ := Ss.el hb (i := 0) (by simp)
    have h1 := fun w' (hw : Below w.heap.size w w') => by have := hc w' hw; rw [z] at this; exact this
    have h2 := fun w' (hw : Below w.heap.size w w') => by have := hc2 w' hw; rw [z] at this; exact this
    rcases cmpU_vals x y with hv | hv | hv
    · have hl : leastU (x :: A) (y :: B) = (x, true, false) := by show (if cmpU x y ≤ 0 then _ else _) = _; rw [if_pos (by omega), hv]; rfl
      rw [hl]
      exact least_lt w (x :: A) (y :: B) qa qb ca cb (by simp) (by simp) x y a b e e2 hv h1 h2
    · have hl : leastU (x :: A) (y :: B) = (x, true, true) := by show (if cmpU x y ≤ 0 then _ else _) = _; rw [if_pos (by omega), hv]; rfl
      rw [hl]
      exact least_eq w (x :: A) (y :: B) qa qb ca cb (by simp) (by simp) x y a b e e2 hv h1 h2
    · have hl : leastU (x :: A) (y :: B) = (y, false, true) := by show (if cmpU x y ≤ 0 then _ else _) = _; rw [if_neg (by omega)]
      rw [hl]
      exact least_gt w (x :: A) (y :: B) qa qb ca cb (by simp) (by simp) x y a b e e2 hv h1 h2
end Go.Proofs.YthpledfjopbchaaDoor
/- Contracts: package set's merge with each of its three keeps, Minus, Both, Either, Add. Condition: at most 10^6 sums each. -/
namespace Go.Proofs.YthpledfjopbchaaDoor
open Go.RowKit
/-- The value reads as these sums, in blocks below b. -/
def UsB (b : Nat) (w : World) (v : Value) (L : List Su) : Prop := ∃ q c, v = .slice q L.length c ∧ L.length ≤ c ∧ (q = none → c = 0) ∧ Sees w b q (rowU L)
theorem UsB.keep {b : Nat} {w w' : World} {v : Value} {L : List Su} (h : UsB b w v L) (hb : Below b w w') : UsB b w' v L := by
  obtain ⟨q, c, h1, h2, h3, h4⟩ := h
  exact ⟨q, c, h1, h2, h3, h4.keep hb⟩
theorem Us.b {w : World} {v : Value} {L : List Su} (h : Us w v L) : UsB w.heap.size w v L := h
theorem tl_usB {b : Nat} {w : World} {q : Option Addr} {c : Nat} {L : List Su} (h0 : 0 < L.length) (hc : L.length ≤ c) (hq : q = none → c = 0) (hs : Sees w b q (rowU L)) : UsB b w (.slice (tlQ q c) (L.length - 1) (c - 1)) L.tail := by
  have h1 := Sees.cutU (c := c) (k := 1) hs hc
  rw [Nat.one_mul, List.drop_one] at h1
  refine ⟨tlQ q c, c - 1, by rw [List.length_tail], by rw [List.length_tail]; omega, fun h => ?_, h1⟩
  have := cutU_none (k := 1) (n := 32) hq h
  omega
def lenV (v : Value) : Nat := match v with | .slice _ n _ => n | _ => 0
theorem keepEither_any (a b : Bool) (w : World) : Calls Tryd.prog 39 #[.bool a, .bool b] w fun e w' => e = .returned (.bool (kEit a b)) ∧ w' = w := by
  cases a <;> cases b <;> (go_enter Tryd.func39, Tryd.ntmps39; go_wp2_with fail; go_ret; exact ⟨rfl, rfl⟩)
set_option maxHeartbeats 16000000 in
set_option maxRecDepth 100000 in
theorem mergeEither_any (A B : List Su) (qa qb : Option Addr) (ca cb : Nat) (hA : A.length ≤ 1000000) (hB : B.length ≤ 1000000) (hca : A.length ≤ ca) (hcb : B.length ≤ cb) (hqa : qa = none → ca = 0) (hqb : qb = none → cb = 0) (w : World) (ha : Sees w w.heap.size qa (rowU A)) (hb : Sees w w.heap.size qb (rowU B)) :
    Calls Tryd.prog 38 #[.slice qa A.length ca, .slice qb B.length cb, .func (.func 39) #[] #[]] w fun e w' => (∃ v, e = .returned v ∧ OwnU w' w.heap.size 24 v (eitU A B)) ∧ Below w.heap.size w w' := by
  have H1 := Lib.hid (inOrder_any A qa ca hA hca hqa w ha)
  have H2 : Hid (∀ w1, Below w.heap.size w w1 → Calls Tryd.prog 51 #[.slice qb B.length cb] w1 fun e w' => (∃ v, e = .returned v ∧ Us w' v (srt B)) ∧ Below w1.heap.size w1 w') := Lib.hid (fun w1 h => inOrder_any B qb cb hB hcb hqb w1 ((hb.keep h).more h.size))
  have hla := len_srt_le A
  have hlb := len_srt_le B
  have HR := Lib.hid (mrg_eit A B)
  have HAA := Lib.hid (asc_srt A)
  have HAB := Lib.hid (asc_srt B)
  generalize srt A = A1 at *
  generalize srt B = B1 at *
  generalize eitU A B = R at *
  clear ha hb hca hcb hqa hqb
  go_enter Tryd.func38, Tryd.ntmps38
  go_wp2_with (first
    | ((with_reducible refine H1.out.mono ?_); rintro e w1 ⟨⟨v1, rfl, h1⟩, h2⟩; have HU1 := Lib.hid h1; have HB1 := Lib.hid h2; clear h1 h2 H1)
    | ((with_reducible refine (H2.out _ HB1.out).mono ?_); rintro e w2 ⟨⟨v2, rfl, h1⟩, h2⟩; have HU2 := Lib.hid h1.b; have HU3 := Lib.hid (HU1.out.keep h2).b; have HB2 := Lib.hid (HB1.out.trans (h2.mono HB1.out.size)); clear h1 h2 H2))
  have HNIL := Lib.hid (OwnU.nil w2 w2.heap.size 24)
  have HSZ := Lib.hid HB2.out.size
  obtain ⟨b, hb⟩ : ∃ b, b = w2.heap.size := ⟨_, rfl⟩
  rw [← hb] at HU3 HU2 HNIL HSZ
  have HBE : Hid (b ≤ w2.heap.size) := Lib.hid (Nat.le_of_eq hb)
  have HW2 : Hid (Below b w2 w2) := Lib.hid (Below.refl _ _)
  clear hb HU1 HB1
  go_loopw [0, 1, 7] (fun v0 v1 v7 wr => ∃ (A2 B2 L : List Su) (n : Nat), UsB b wr v0 A2 ∧ UsB b wr v1 B2 ∧ AscU A2 ∧ AscU B2 ∧ OwnU wr b 24 v7 L ∧ L ++ mrgN kEit n A2 B2 = R ∧ A2.length + B2.length ≤ n ∧ L.length + n ≤ 2000000 ∧ Below b w2 wr ∧ b ≤ wr.heap.size) (fun v0 v1 _ _ => lenV v0 + lenV v1)
  case atStart => exact ⟨A1, B1, [], A1.length + B1.length, HU3.out, HU2.out, HAA.out, HAB.out, HNIL.out, HR.out, Nat.le_refl _, by simp; omega, HW2.out, HBE.out⟩
  case round =>
    clear HU2 HU3 HNIL HR HAA HAB HW2
    rename_i wr
    obtain ⟨A2, B2, L, n, ⟨qa2, ca2, rfl, hca2, hqa2, hsa⟩, ⟨qb2, cb2, rfl, hcb2, hqb2, hsb⟩, haA, haB, hown, heq, hn, hln, hB, hbz⟩ := hrel
    have HSA := Lib.hid hsa
    have HSB := Lib.hid hsb
    have HOWN := Lib.hid hown
    have HEQ := Lib.hid heq
    have HB := Lib.hid hB
    have HBZ := Lib.hid hbz
    clear hsa hsb hown heq hB hbz
    by_cases h0 : A2 = [] ∧ B2 = []
    · obtain ⟨rfl, rfl⟩ := h0
      have HE : Hid (R = L) := Lib.hid (by rw [← HEQ.out, mrgN_nil, List.append_nil])
      clear HSA HSB haA haB
      go_wp2_with fail
      go_ret
      refine ⟨⟨_, rfl, ?_⟩, HB2.out.trans (HB.out.mono HSZ.out)⟩
      rw [HE.out]
      exact HOWN.out.less HSZ.out
    · have HF := Lib.hid (least_fact haA haB h0)
      have HL := Lib.hid (least_any A2 B2 qa2 qb2 ca2 cb2 h0 wr (HSA.out.more HBZ.out) (HSB.out.more HBZ.out))
      obtain ⟨m, rfl⟩ : ∃ m, n = m + 1 := by
        have : 0 < n := by
          rcases A2 with _ | ⟨x, A2⟩
          · rcases B2 with _ | ⟨y, B2⟩
            · exact absurd ⟨rfl, rfl⟩ h0
            · simp at hn; omega
          · simp at hn; omega
        exact ⟨n - 1, by omega⟩
      have HST : Hid (mrgN kEit (m + 1) A2 B2 = (if kEit (leastU A2 B2).2.1 (leastU A2 B2).2.2 then [(leastU A2 B2).1] else []) ++ mrgN kEit m (if (leastU A2 B2).2.1 then A2.tail else A2) (if (leastU A2 B2).2.2 then B2.tail else B2)) := Lib.hid (by rw [mrgN, if_neg h0])
      have hg0 : 0 < A2.length ∨ (¬ 0 < A2.length ∧ 0 < B2.length) := by
        rcases A2 with _ | ⟨x, A2⟩
        · rcases B2 with _ | ⟨y, B2⟩
          · exact absurd ⟨rfl, rfl⟩ h0
          · exact .inr ⟨by simp, by simp⟩
        · exact .inl (by simp)
      generalize (leastU A2 B2).1 = x at *
      generalize (leastU A2 B2).2.1 = p at *
      generalize (leastU A2 B2).2.2 = q at *
      have HPA : Hid (p = true → 1 ≤ A2.length) := Lib.hid (fun hp => by
        have := HF.out.1
        rw [hp] at this
        exact List.length_pos_of_mem (of_decide_eq_true this.symm))
      have HPB : Hid (q = true → 1 ≤ B2.length) := Lib.hid (fun hp => by
        have := HF.out.2.1
        rw [hp] at this
        exact List.length_pos_of_mem (of_decide_eq_true this.symm))
      have HPQ : Hid (p = true ∨ q = true) := Lib.hid (by
        obtain ⟨f1, f2, f3, _⟩ := HF.out
        rcases f3 with h | h
        · left; rw [f1]; exact decide_eq_true h
        · right; rw [f2]; exact decide_eq_true h)
      have HCA := Lib.hid (fun h w' => cut1_su 36 24 elSet qa2 A2.length ca2 h w')
      have HCB := Lib.hid (fun h w' => cut1_su 36 24 elSet qb2 B2.length cb2 h w')
      have HAA := Lib.hid haA
      have HAB := Lib.hid haB
      have HTA : Hid (1 ≤ A2.length → ∀ w5, Below b wr w5 → UsB b w5 (.slice (tlQ qa2 ca2) (A2.length - 1) (ca2 - 1)) A2.tail) := Lib.hid (fun h w5 hb => tl_usB h hca2 hqa2 (HSA.out.keep hb))
      have HTB : Hid (1 ≤ B2.length → ∀ w5, Below b wr w5 → UsB b w5 (.slice (tlQ qb2 cb2) (B2.length - 1) (cb2 - 1)) B2.tail) := Lib.hid (fun h w5 hb => tl_usB h hcb2 hqb2 (HSB.out.keep hb))
      have HUA : Hid (∀ w5, Below b wr w5 → UsB b w5 (.slice qa2 A2.length ca2) A2) := Lib.hid (fun w5 hb => ⟨qa2, ca2, rfl, hca2, hqa2, HSA.out.keep hb⟩)
      have HUB : Hid (∀ w5, Below b wr w5 → UsB b w5 (.slice qb2 B2.length cb2) B2) := Lib.hid (fun w5 hb => ⟨qb2, cb2, rfl, hcb2, hqb2, HSB.out.keep hb⟩)
      have HTLA : Hid (A2.tail.length = A2.length - 1) := Lib.hid List.length_tail
      have HTLB : Hid (B2.tail.length = B2.length - 1) := Lib.hid List.length_tail
      clear HF h0 haA haB HSA HSB hca2 hcb2 hqa2 hqb2
      generalize hna : A2.length = na at *
      generalize hnb : B2.length = nb at *
      have HNA := Lib.hid hna
      have HNB := Lib.hid hnb
      clear hna hnb
      rcases hg0 with hu1 | ⟨hu1, hu2⟩
      · go_upto_region 5 with (first | ((with_reducible refine HL.out.mono ?_); rintro e w3 ⟨rfl, h1⟩; have HB3 := Lib.hid h1; clear h1 HL) | (refine wpList_store_row rfl 24 (.tmp 8) (.tmp 27) rfl w3.heap.size (encU x).toArray rfl rfl 24 zrU.toArray (heap_alloc_new _ _) (by rw [encU_size]; exact szSum) (by rw [encU_size]; rfl) (encU_all x) ?_))
        generalize hw4 : (w3.alloc _).setRow _ _ = w4
        have HX4 : Hid (Has w4 w3.heap.size 24 (encU x)) := Lib.hid (by subst hw4; exact Has.rowl (Has.made' w3 24 _ zrU rfl) _)
        have HB4 : Hid (Below wr.heap.size wr w4) := Lib.hid (by subst hw4; exact below_row (HB3.out.alloc HB3.out.size _) HB3.out.size _)
        clear hw4
        replace HOWN := Lib.hid (HOWN.out.keep HB4.out)
        have HZ4 := Lib.hid (Nat.le_trans HBZ.out HB4.out.size)
        replace HB4 := Lib.hid (HB4.out.mono HBZ.out)
        clear HB3
        generalize w3.heap.size = g8 at *
        have HLEN : Hid (L.length + 1 ≤ 4000000) := Lib.hid (by omega)
        have HXX : Hid (∀ j u, (encU x)[j]? = some u → w4.cell? ((⟨g8, 0, none⟩ : Addr).add j) = some u) := Lib.hid (fun j u hu => by rw [add_lit', Nat.zero_add]; exact HX4.out.cellv hu)
        cases p with
        | true =>
          cases q with
          | true =>
            have hcA := HCA.out (HPA.out rfl)
            have HNA1 := Lib.hid (HPA.out rfl)
            have hcB := HCB.out (HPB.out rfl)
            have HNB1 := Lib.hid (HPB.out rfl)
            go_wp2_with (first
              | ((with_reducible refine (keepEither_any _ _ _).mono ?_); rintro e w5 ⟨rfl, hw5⟩; subst w5)
              | (refine wpList_load_su rfl 24 (.tmp 8) rfl _ rfl elSum.2.1 szSum x HXX.out ?_)
              | (refine wpList_one_su rfl 36 24 elSet (.tmp 35) rfl x rfl ?_)
              | (refine wpList_append_su rfl 36 24 elSet (.tmp 34) (.tmp 36) rfl b _ L rfl (World.ownsRow.alloc HOWN.out _) (some ⟨w4.heap.size, 0, none⟩) [x] 1 1 (w4.heap.size + 1) rfl rfl (fun h => by cases h) (Ss.one (Has.made' w4 _ _ _ rfl) (Nat.lt_succ_self _)) HLEN.out (by have := HZ4.out; simp; omega) ?_; intro v6 w6 h1 h2; have HO := Lib.hid h1; have HB6 := Lib.hid h2; clear h1 h2))
            go_roundw
            case rel =>
              have HBX : Hid (Below b wr w6) := Lib.hid (HB4.out.trans (((Below.refl b w4).alloc HZ4.out _).trans HB6.out))
              refine ⟨A2.tail, B2.tail, L ++ [x], m, HTA.out HNA1.out _ HBX.out, HTB.out HNB1.out _ HBX.out, asc_tail HAA.out, asc_tail HAB.out, HO.out, ?_, ?_, ?_, HB.out.trans HBX.out, Nat.le_trans HBZ.out HBX.out.size⟩
              · have h := HEQ.out
                rw [HST.out] at h
                simpa [kEit] using h
              · have ha := HNA1.out; have hb := HNB1.out; have h1 := HTLA.out; have h2 := HTLB.out; have h3 := HNA.out; have h4 := HNB.out; omega
              · simp only [List.length_append, List.length_singleton]; omega
            case measure => have ha := HNA1.out; have hb := HNB1.out; simp only [lenV]; omega
          | false =>
            have hcA := HCA.out (HPA.out rfl)
            have HNA1 := Lib.hid (HPA.out rfl)
            go_wp2_with (first
              | ((with_reducible refine (keepEither_any _ _ _).mono ?_); rintro e w5 ⟨rfl, hw5⟩; subst w5)
              | (refine wpList_load_su rfl 24 (.tmp 8) rfl _ rfl elSum.2.1 szSum x HXX.out ?_)
              | (refine wpList_one_su rfl 36 24 elSet (.tmp 35) rfl x rfl ?_)
              | (refine wpList_append_su rfl 36 24 elSet (.tmp 34) (.tmp 36) rfl b _ L rfl (World.ownsRow.alloc HOWN.out _) (some ⟨w4.heap.size, 0, none⟩) [x] 1 1 (w4.heap.size + 1) rfl rfl (fun h => by cases h) (Ss.one (Has.made' w4 _ _ _ rfl) (Nat.lt_succ_self _)) HLEN.out (by have := HZ4.out; simp; omega) ?_; intro v6 w6 h1 h2; have HO := Lib.hid h1; have HB6 := Lib.hid h2; clear h1 h2))
            go_roundw
            case rel =>
              have HBX : Hid (Below b wr w6) := Lib.hid (HB4.out.trans (((Below.refl b w4).alloc HZ4.out _).trans HB6.out))
              refine ⟨A2.tail, B2, L ++ [x], m, HTA.out HNA1.out _ HBX.out, HUB.out _ HBX.out, asc_tail HAA.out, HAB.out, HO.out, ?_, ?_, ?_, HB.out.trans HBX.out, Nat.le_trans HBZ.out HBX.out.size⟩
              · have h := HEQ.out
                rw [HST.out] at h
                simpa [kEit] using h
              · have ha := HNA1.out; have h1 := HTLA.out; have h2 := HTLB.out; have h3 := HNA.out; have h4 := HNB.out; omega
              · simp only [List.length_append, List.length_singleton]; omega
            case measure => have ha := HNA1.out; simp only [lenV]; omega
        | false =>
          cases q with
          | true =>
            have hcB := HCB.out (HPB.out rfl)
            have HNB1 := Lib.hid (HPB.out rfl)
            go_wp2_with (first
              | ((with_reducible refine (keepEither_any _ _ _).mono ?_); rintro e w5 ⟨rfl, hw5⟩; subst w5)
              | (refine wpList_load_su rfl 24 (.tmp 8) rfl _ rfl elSum.2.1 szSum x HXX.out ?_)
              | (refine wpList_one_su rfl 36 24 elSet (.tmp 35) rfl x rfl ?_)
              | (refine wpList_append_su rfl 36 24 elSet (.tmp 34) (.tmp 36) rfl b _ L rfl (World.ownsRow.alloc HOWN.out _) (some ⟨w4.heap.size, 0, none⟩) [x] 1 1 (w4.heap.size + 1) rfl rfl (fun h => by cases h) (Ss.one (Has.made' w4 _ _ _ rfl) (Nat.lt_succ_self _)) HLEN.out (by have := HZ4.out; simp; omega) ?_; intro v6 w6 h1 h2; have HO := Lib.hid h1; have HB6 := Lib.hid h2; clear h1 h2))
            go_roundw
            case rel =>
              have HBX : Hid (Below b wr w6) := Lib.hid (HB4.out.trans (((Below.refl b w4).alloc HZ4.out _).trans HB6.out))
              refine ⟨A2, B2.tail, L ++ [x], m, HUA.out _ HBX.out, HTB.out HNB1.out _ HBX.out, HAA.out, asc_tail HAB.out, HO.out, ?_, ?_, ?_, HB.out.trans HBX.out, Nat.le_trans HBZ.out HBX.out.size⟩
              · have h := HEQ.out
                rw [HST.out] at h
                simpa [kEit] using h
              · have hb := HNB1.out; have h1 := HTLA.out; have h2 := HTLB.out; have h3 := HNA.out; have h4 := HNB.out; omega
              · simp only [List.length_append, List.length_singleton]; omega
            case measure => have hb := HNB1.out; simp only [lenV]; omega
          | false =>
            have h := HPQ.out
            simp at h
      · go_upto_region 5 with (first | ((with_reducible refine HL.out.mono ?_); rintro e w3 ⟨rfl, h1⟩; have HB3 := Lib.hid h1; clear h1 HL) | (refine wpList_store_row rfl 24 (.tmp 8) (.tmp 27) rfl w3.heap.size (encU x).toArray rfl rfl 24 zrU.toArray (heap_alloc_new _ _) (by rw [encU_size]; exact szSum) (by rw [encU_size]; rfl) (encU_all x) ?_))
        generalize hw4 : (w3.alloc _).setRow _ _ = w4
        have HX4 : Hid (Has w4 w3.heap.size 24 (encU x)) := Lib.hid (by subst hw4; exact Has.rowl (Has.made' w3 24 _ zrU rfl) _)
        have HB4 : Hid (Below wr.heap.size wr w4) := Lib.hid (by subst hw4; exact below_row (HB3.out.alloc HB3.out.size _) HB3.out.size _)
        clear hw4
        replace HOWN := Lib.hid (HOWN.out.keep HB4.out)
        have HZ4 := Lib.hid (Nat.le_trans HBZ.out HB4.out.size)
        replace HB4 := Lib.hid (HB4.out.mono HBZ.out)
        clear HB3
        generalize w3.heap.size = g8 at *
        have HLEN : Hid (L.length + 1 ≤ 4000000) := Lib.hid (by omega)
        have HXX : Hid (∀ j u, (encU x)[j]? = some u → w4.cell? ((⟨g8, 0, none⟩ : Addr).add j) = some u) := Lib.hid (fun j u hu => by rw [add_lit', Nat.zero_add]; exact HX4.out.cellv hu)
        cases p with
        | true =>
          cases q with
          | true =>
            exact absurd (HPA.out rfl) (by omega)
          | false =>
            exact absurd (HPA.out rfl) (by omega)
        | false =>
          cases q with
          | true =>
            have hcB := HCB.out (HPB.out rfl)
            have HNB1 := Lib.hid (HPB.out rfl)
            go_wp2_with (first
              | ((with_reducible refine (keepEither_any _ _ _).mono ?_); rintro e w5 ⟨rfl, hw5⟩; subst w5)
              | (refine wpList_load_su rfl 24 (.tmp 8) rfl _ rfl elSum.2.1 szSum x HXX.out ?_)
              | (refine wpList_one_su rfl 36 24 elSet (.tmp 35) rfl x rfl ?_)
              | (refine wpList_append_su rfl 36 24 elSet (.tmp 34) (.tmp 36) rfl b _ L rfl (World.ownsRow.alloc HOWN.out _) (some ⟨w4.heap.size, 0, none⟩) [x] 1 1 (w4.heap.size + 1) rfl rfl (fun h => by cases h) (Ss.one (Has.made' w4 _ _ _ rfl) (Nat.lt_succ_self _)) HLEN.out (by have := HZ4.out; simp; omega) ?_; intro v6 w6 h1 h2; have HO := Lib.hid h1; have HB6 := Lib.hid h2; clear h1 h2))
            go_roundw
            case rel =>
              have HBX : Hid (Below b wr w6) := Lib.hid (HB4.out.trans (((Below.refl b w4).alloc HZ4.out _).trans HB6.out))
              refine ⟨A2, B2.tail, L ++ [x], m, HUA.out _ HBX.out, HTB.out HNB1.out _ HBX.out, HAA.out, asc_tail HAB.out, HO.out, ?_, ?_, ?_, HB.out.trans HBX.out, Nat.le_trans HBZ.out HBX.out.size⟩
              · have h := HEQ.out
                rw [HST.out] at h
                simpa [kEit] using h
              · have hb := HNB1.out; have h1 := HTLA.out; have h2 := HTLB.out; have h3 := HNA.out; have h4 := HNB.out; omega
              · simp only [List.length_append, List.length_singleton]; omega
            case measure => have hb := HNB1.out; simp only [lenV]; omega
          | false =>
            have h := HPQ.out
            simp at h
set_option maxHeartbeats 1000000 in
theorem setEither_any (A B : List Su) (qa qb : Option Addr) (ca cb : Nat) (hA : A.length ≤ 1000000) (hB : B.length ≤ 1000000) (hca : A.length ≤ ca) (hcb : B.length ≤ cb) (hqa : qa = none → ca = 0) (hqb : qb = none → cb = 0) (w : World) (ha : Sees w w.heap.size qa (rowU A)) (hb : Sees w w.heap.size qb (rowU B)) :
    Calls Tryd.prog 24 #[.slice qa A.length ca, .slice qb B.length cb] w fun e w' => (∃ v, e = .returned v ∧ OwnU w' w.heap.size 24 v (eitU A B)) ∧ Below w.heap.size w w' := by
  have HM := Lib.hid (mergeEither_any A B qa qb ca cb hA hB hca hcb hqa hqb w ha hb)
  clear ha hb
  go_enter Tryd.func24, Tryd.ntmps24
  go_wp2_with ((with_reducible refine HM.out.mono ?_); rintro e w1 ⟨⟨v1, rfl, h1⟩, h2⟩; have HO1 := Lib.hid h1; have HB1 := Lib.hid h2; clear h1 h2)
  go_ret
  exact ⟨⟨_, rfl, HO1.out⟩, HB1.out⟩
end Go.Proofs.YthpledfjopbchaaDoor
/- Contracts: slices.BinarySearchFunc, slices.Equal over sums; package set's Has, Same. Condition: at most 10^6 sums. -/
namespace Go.Proofs.YthpledfjopbchaaDoor
open Go.RowKit
theorem asc_le {L : List Su} (h : AscU L) {i j : Nat} (hij : i ≤ j) (hj : j < L.length) : cmpU (L[i]'(by omega)) L[j] ≤ 0 := by
  by_cases e : i = j
  · subst e; rw [cmpU_self]; exact Int.le_refl _
  · have := List.pairwise_iff_getElem.1 h i j (by omega) hj (by omega)
    omega
/-- What the search has found so far. -/
def Parted (L : List Su) (x : Su) (lo hi : Nat) : Prop := (∀ k (hk : k < L.length), k < lo → cmpU (L[k]'hk) x = -1) ∧ (∀ k (hk : k < L.length), hi ≤ k → 0 ≤ cmpU (L[k]'hk) x)
theorem parted_up {L : List Su} {x : Su} {lo hi m : Nat} (h : Parted L x lo hi) (hL : AscU L) (hm : m < L.length) (hx : cmpU L[m] x = -1) : Parted L x (m + 1) hi :=
  ⟨fun _ _ hkm => cmpU_lelt (asc_le hL (Nat.le_of_lt_succ hkm) hm) hx, h.2⟩
theorem parted_down {L : List Su} {x : Su} {lo hi m : Nat} (h : Parted L x lo hi) (hL : AscU L) (hm : m < L.length) (hx : 0 ≤ cmpU L[m] x) : Parted L x lo m :=
  ⟨h.1, fun k hk hmk => by
    have h1 := asc_le hL hmk hk
    have h2 := cmpU_neg L[m] x
    have h3 := cmpU_trans (show cmpU x L[m] ≤ 0 by omega) h1
    have h4 := cmpU_neg x L[k]
    omega⟩
theorem parted_found {L : List Su} {x : Su} {i : Nat} (h : Parted L x i i) (hL : AscU L) (hi : i < L.length) : decide (cmpU L[i] x = 0) = decide (x ∈ L) := by
  by_cases e : cmpU L[i] x = 0
  · rw [decide_eq_true e, decide_eq_true (by rw [← cmpU_zero.1 e]; exact List.getElem_mem hi)]
  · rw [decide_eq_false e, decide_eq_false fun hm => ?_]
    obtain ⟨k, hk, rfl⟩ := List.mem_iff_getElem.1 hm
    by_cases hki : k < i
    · have := h.1 k hk hki
      rw [cmpU_self] at this; cases this
    · have h1 := asc_le hL (show i ≤ k by omega) hk
      have h2 := h.2 i hi (Nat.le_refl _)
      exact e (by omega)
theorem parted_none {L : List Su} {x : Su} {i : Nat} (h : Parted L x i i) (hi : ¬ i < L.length) : decide (x ∈ L) = false := decide_eq_false fun hm => by
  obtain ⟨k, hk, rfl⟩ := List.mem_iff_getElem.1 hm
  have := h.1 k hk (by omega)
  rw [cmpU_self] at this; cases this
theorem eq_at {A B : List Su} (h : A.length = B.length) (ha : ∀ k (h1 : k < A.length) (h2 : k < B.length), A[k] = B[k]) : A = B := List.ext_getElem h ha
set_option maxHeartbeats 8000000 in
set_option maxRecDepth 100000 in
theorem equal_any (A B : List Su) (qa qb : Option Addr) (ca cb : Nat) (hA : A.length ≤ 1000000) (w : World) (ha : Sees w w.heap.size qa (rowU A)) (hb : Sees w w.heap.size qb (rowU B)) :
    Calls Tryd.prog 44 #[.slice qa A.length ca, .slice qb B.length cb] w fun e w' => e = .returned (.bool (decide (A = B))) ∧ Below w.heap.size w w' := by
  by_cases hl : A.length = B.length
  · have HSA := Lib.hid ha
    have HSB := Lib.hid hb
    have HLL := Lib.hid hl
    clear ha hb
    rw [← hl]
    generalize hn : A.length = n at *
    have HN := Lib.hid hn
    clear hn hl
    go_enter Tryd.func44, Tryd.ntmps44
    go_wp2_with fail
    go_loopw [13] (fun v wr => ∃ i : Nat, i ≤ n ∧ v = .int .i64 i ∧ (∀ k (h1 : k < A.length) (h2 : k < B.length), k < i → A[k] = B[k]) ∧ Below w.heap.size w wr) (fun v _ => n - (intOf v).toNat)
    case atStart => exact ⟨0, by omega, rfl, fun k _ _ h => by omega, Below.refl _ _⟩
    case round =>
      rename_i wr
      obtain ⟨i, hi, rfl, hall, hB⟩ := hrel
      have HALL := Lib.hid hall
      have HB := Lib.hid hB
      clear hall hB
      by_cases hlt : i < n
      · have hiA : i < A.length := by rw [HN.out]; exact hlt
        have hiB : i < B.length := by rw [← HLL.out]; exact hlt
        obtain ⟨a, rfl, _, hc⟩ := Ss.el HSA.out hiA
        obtain ⟨b, rfl, _, hc2⟩ := Ss.el HSB.out hiB
        have HNEW : Hid (A[i] = B[i] → ∀ k (h1 : k < A.length) (h2 : k < B.length), k < i + 1 → A[k] = B[k]) := Lib.hid (fun h k h1 h2 hk => by
          by_cases e : k = i
          · subst e; exact h
          · exact HALL.out k h1 h2 (by omega))
        have HBAD : Hid (A[i] ≠ B[i] → decide (A = B) = false) := Lib.hid (fun h => decide_eq_false fun e => h (by subst e; rfl))
        generalize A[i] = x at *
        generalize B[i] = y at *
        have HC := Lib.hid hc
        have HC2 := Lib.hid hc2
        have k1 : (i : Int) < (n : Int) := by omega
        clear hc hc2
        go_wp2_with fail
        refine wp_region_org [(0, true), (1, true), (2, true), (3, true), (4, true), (5, true), (6, true), (7, true), (8, true)] (by kernel_rfl) (by kernel_rfl) (by kernel_rfl) ?_
        replace HB := Lib.hid HB.out.drew
        generalize wr.drew = wd at *
        simp only [pickOrs, List.getElem?_cons_zero, List.getElem?_cons_succ]
        refine org_pure (v := ?_) (by kernel_rfl) ?_ ?_
        rotate_left
        · intro w' hv; clear hv; go_simp; try with_reducible rfl
        try simp only [Act.put, List.setIfInBounds_toArray, List.set_cons_zero, List.set_cons_succ]
        refine org_pure (v := ?_) (by kernel_rfl) ?_ ?_
        rotate_left
        · intro w' hv; clear hv; go_simp; try with_reducible rfl
        try simp only [Act.put, List.setIfInBounds_toArray, List.set_cons_zero, List.set_cons_succ]
        refine org_pure (v := ?_) (by kernel_rfl) ?_ ?_
        rotate_left
        · intro w' hv; clear hv; go_simp; try with_reducible rfl
        try simp only [Act.put, List.setIfInBounds_toArray, List.set_cons_zero, List.set_cons_succ]
        refine org_pure (by kernel_rfl) (fun w' hv => load_su 24 (.tmp 18) rfl _ rfl elSum.2.1 szSum x ((fun w' hv => HC.out w' (HB.out.trans (Below.mono hv HB.out.size))) w' hv)) ?_
        try simp only [Act.put, List.setIfInBounds_toArray, List.set_cons_zero, List.set_cons_succ]
        refine org_pure (v := ?_) (by kernel_rfl) ?_ ?_
        rotate_left
        · intro w' hv; clear hv; go_simp; try with_reducible rfl
        try simp only [Act.put, List.setIfInBounds_toArray, List.set_cons_zero, List.set_cons_succ]
        refine org_pure (v := ?_) (by kernel_rfl) ?_ ?_
        rotate_left
        · intro w' hv; clear hv; go_simp; try with_reducible rfl
        try simp only [Act.put, List.setIfInBounds_toArray, List.set_cons_zero, List.set_cons_succ]
        refine org_pure (v := ?_) (by kernel_rfl) ?_ ?_
        rotate_left
        · intro w' hv; clear hv; go_simp; try with_reducible rfl
        try simp only [Act.put, List.setIfInBounds_toArray, List.set_cons_zero, List.set_cons_succ]
        refine org_pure (by kernel_rfl) (fun w' hv => load_su 24 (.tmp 22) rfl _ rfl elSum.2.1 szSum y ((fun w' hv => HC2.out w' (HB.out.trans (Below.mono hv HB.out.size))) w' hv)) ?_
        try simp only [Act.put, List.setIfInBounds_toArray, List.set_cons_zero, List.set_cons_succ]
        refine org_pure (by kernel_rfl) (fun w' hv => neq_su 24 (.tmp 19) (.tmp 23) _ rfl x y rfl rfl elSum.2.1 gdSum) ?_
        try simp only [Act.put, List.setIfInBounds_toArray, List.set_cons_zero, List.set_cons_succ]
        refine org_nil ?_
        by_cases hxy : x = y
        · have HN2 := Lib.hid (HNEW.out hxy)
          rw [decide_eq_true hxy]
          clear HNEW HBAD hxy
          go_wp2_with fail
          go_roundw
          case rel => exact ⟨i + 1, by omega, by go_num, HN2.out, HB.out⟩
          case measure => simp [intOf]; omega
        · have HN2 := Lib.hid (HBAD.out hxy)
          rw [decide_eq_false hxy]
          clear HNEW HBAD hxy
          go_wp2_with fail
          go_ret
          exact ⟨congrArg (fun b => Ending.returned (.bool b)) HN2.out.symm, HB.out⟩
      · have hil : i = n := by omega
        subst hil
        have HR : Hid (decide (A = B) = true) := Lib.hid (decide_eq_true (eq_at (by rw [HN.out]; exact HLL.out) fun k h1 h2 => HALL.out k h1 h2 (by rw [← HN.out]; exact h1)))
        have k1 : ¬ (i : Int) < (i : Int) := by omega
        go_wp2_with fail
        go_ret
        exact ⟨congrArg (fun b => Ending.returned (.bool b)) HR.out.symm, HB.out⟩
  · have k1 : ¬ (A.length : Int) = (B.length : Int) := by omega
    have HR : Hid (decide (A = B) = false) := Lib.hid (decide_eq_false fun e => hl (by rw [e]))
    clear ha hb hl
    generalize A.length = n at *
    generalize B.length = m at *
    go_enter Tryd.func44, Tryd.ntmps44
    go_wp2_with fail
    go_ret
    exact ⟨congrArg (fun b => Ending.returned (.bool b)) HR.out.symm, Below.refl _ _⟩
set_option maxHeartbeats 4000000 in
theorem same_any (A B : List Su) (qa qb : Option Addr) (ca cb : Nat) (hA : A.length ≤ 1000000) (w : World) (ha : Sees w w.heap.size qa (rowU A)) (hb : Sees w w.heap.size qb (rowU B)) :
    Calls Tryd.prog 26 #[.slice qa A.length ca, .slice qb B.length cb] w fun e w' => e = .returned (.bool (goodU A && decide (A = B))) ∧ Below w.heap.size w w' := by
  have HG := Lib.hid (good_any A qa ca (by omega) w ha)
  have HE := Lib.hid (fun w1 (hw : Below w.heap.size w w1) => equal_any A B qa qb ca cb hA w1 ((ha.keep hw).more hw.size) ((hb.keep hw).more hw.size))
  clear ha hb
  cases hg : goodU A with
  | false =>
    rw [hg] at HG
    clear hg
    go_enter Tryd.func26, Tryd.ntmps26
    go_wp2_with ((with_reducible refine HG.out.mono ?_); rintro e w1 ⟨rfl, h1⟩; have HB1 := Lib.hid h1; clear h1)
    go_ret
    exact ⟨(by rw [Bool.false_and]; rfl), HB1.out⟩
  | true =>
    rw [hg] at HG
    clear hg
    go_enter Tryd.func26, Tryd.ntmps26
    go_wp2_with (first | ((with_reducible refine HG.out.mono ?_); rintro e w1 ⟨rfl, h1⟩; have HB1 := Lib.hid h1; clear h1) | ((with_reducible refine (HE.out _ HB1.out).mono ?_); rintro e w2 ⟨rfl, h1⟩; have HB2 := Lib.hid (HB1.out.trans (h1.mono HB1.out.size)); clear h1))
    go_ret
    exact ⟨(by rw [Bool.true_and]; rfl), HB2.out⟩
end Go.Proofs.YthpledfjopbchaaDoor
/- Package set's calls over values that are told by what they read as: a slice's place, its length, its room, its sums. Condition: at most 10^6 sums each. -/
namespace Go.Proofs.YthpledfjopbchaaDoor
open Go.RowKit
/-- The slice of n sums with room c reads as L. -/
def U (w : World) (q : Option Addr) (n c : Nat) (L : List Su) : Prop := L.length = n ∧ n ≤ c ∧ (q = none → c = 0) ∧ Sees w w.heap.size q (rowU L)
theorem U.len {w : World} {q : Option Addr} {n c : Nat} {L : List Su} (h : U w q n c L) : L.length = n := h.1
theorem U.keep {w w' : World} {q : Option Addr} {n c : Nat} {L : List Su} (h : U w q n c L) (hb : Below w.heap.size w w') : U w' q n c L := ⟨h.1, h.2.1, h.2.2.1, (h.2.2.2.keep hb).more hb.size⟩
theorem U.drew {w : World} {q : Option Addr} {n c : Nat} {L : List Su} (h : U w q n c L) : U w.drew q n c L := h
theorem U.of {w : World} {v : Value} {L : List Su} (h : Us w v L) : ∃ q n c, v = .slice q n c ∧ U w q n c L := by
  obtain ⟨q, c, h1, h2, h3, h4⟩ := h
  exact ⟨q, L.length, c, h1, rfl, h2, h3, h4⟩
theorem U.eq {w : World} {q : Option Addr} {n c : Nat} {L M : List Su} (h : U w q n c L) (e : L = M) : U w q n c M := e ▸ h
/-- A call that answers a set. -/
abbrev Ans (P : Program) (f : FuncId) (args : Array Value) (w : World) (L : List Su) : Prop := Calls P f args w fun e w' => (∃ q n c, e = .returned (.slice q n c) ∧ U w' q n c L) ∧ Below w.heap.size w w'
theorem ans_of {f : FuncId} {args : Array Value} {w : World} {L : List Su} {E : TypeId} (h : Calls Tryd.prog f args w fun e w' => (∃ v, e = .returned v ∧ OwnU w' w.heap.size E v L) ∧ Below w.heap.size w w') : Ans Tryd.prog f args w L := by
  refine Calls.mono h ?_
  rintro e w' ⟨⟨v, rfl, h1⟩, h2⟩
  obtain ⟨q, n, c, rfl, h3⟩ := U.of h1.us
  exact ⟨⟨q, n, c, rfl, h3⟩, h2⟩
theorem u_of {w : World} {q : Option Addr} {n c : Nat} {L : List Su} (h : U w q n c L) (hn : n ≤ 1000000) : Ans Tryd.prog 25 #[.slice q n c] w (srt L) := by
  obtain ⟨rfl, h2, h3, h4⟩ := h
  exact ans_of (setOf_any L q c hn w h4)
theorem u_either {w : World} {qa qb : Option Addr} {na nb ca cb : Nat} {A B : List Su} (ha : U w qa na ca A) (hb : U w qb nb cb B) (h1 : na ≤ 1000000) (h2 : nb ≤ 1000000) : Ans Tryd.prog 24 #[.slice qa na ca, .slice qb nb cb] w (eitU A B) := by
  obtain ⟨rfl, a2, a3, a4⟩ := ha
  obtain ⟨rfl, b2, b3, b4⟩ := hb
  exact ans_of (setEither_any A B qa qb ca cb h1 h2 a2 b2 a3 b3 w a4 b4)
/-- A call that answers yes or no. -/
abbrev Tells (P : Program) (f : FuncId) (args : Array Value) (w : World) (b : Bool) : Prop := Calls P f args w fun e w' => e = .returned (.bool b) ∧ Below w.heap.size w w'
theorem u_same {w : World} {qa qb : Option Addr} {na nb ca cb : Nat} {A B : List Su} (ha : U w qa na ca A) (hb : U w qb nb cb B) (h1 : na ≤ 1000000) (r : Bool) (hr : (goodU A && decide (A = B)) = r) : Tells Tryd.prog 26 #[.slice qa na ca, .slice qb nb cb] w r := by
  obtain ⟨rfl, _, _, a4⟩ := ha
  obtain ⟨rfl, _, _, b4⟩ := hb
  subst hr
  exact same_any A B qa qb ca cb h1 w a4 b4
theorem u_good {w : World} {q : Option Addr} {n c : Nat} {L : List Su} (h : U w q n c L) (hn : n ≤ 1000000) (r : Bool) (hr : goodU L = r) : Tells Tryd.prog 14 #[.slice q n c] w r := by
  obtain ⟨rfl, _, _, h4⟩ := h
  subst hr
  exact good_any L q c (by omega) w h4
theorem goodU_of {L : List Su} (h : AscU L) (hl : L.length ≤ 512) : goodU L = true := by unfold goodU; rw [decide_eq_true h, decide_eq_true hl]; rfl
theorem same_true {A B : List Su} (h : AscU A) (hl : A.length ≤ 512) (e : A = B) : (goodU A && decide (A = B)) = true := by rw [goodU_of h hl, decide_eq_true e]; rfl
end Go.Proofs.YthpledfjopbchaaDoor
/- Rows of sums in a guarded operation; a literal of a sum; sums told by their first byte. No condition. -/
namespace Go.Proofs.YthpledfjopbchaaDoor
open Go.RowKit
section
variable {ops : Array Oper} {rest : List Oper} {o : Oper} {a : Act} {w : World} {Q : Exit → Act → World → Prop}
theorem wpList_one_suOn (hw : Region.wanted o (yielded ops a.tmps) = true) (T E : TypeId) (hT : ElT T E) (x : Operand) (ho : o.op = .buildSlice T 1 #[(0, x)]) (s : Su) (hx : a.eval x = .agg (encU s).toArray)
    (h : wpList Tryd.prog ops Q rest (a.put o.dst (.slice (some ⟨w.heap.size, 0, none⟩) 1 1)) (w.alloc (.cells (encU s).toArray E))) : wpList Tryd.prog ops Q (o :: rest) a w :=
  wpList_step fun K hK => by rw [if_pos hw]; exact wp_one_su T E hT x ho s hx (hK _ _ h)
theorem wpList_lit_suOn (hw : Region.wanted o (yielded ops a.tmps) = true) (T E : TypeId) (hT : ElT T E) (n : Nat) (parts : Array (Nat × Operand)) (ho : o.op = .buildSlice T n parts) (L : List Su) (hn : L.length = n) (h0 : 0 < n) (h9 : n ≤ 1000)
    (hx : (parts.map fun (i, x) => (i, a.eval x)).toList = ((L.map aggU).zipIdx 0).map fun x => (x.2, x.1))
    (h : wpList Tryd.prog ops Q rest (a.put o.dst (.slice (some ⟨w.heap.size, 0, none⟩) n n)) (w.alloc (.cells (rowU L).toArray E))) : wpList Tryd.prog ops Q (o :: rest) a w :=
  wpList_step fun K hK => by rw [if_pos hw]; exact wp_lit_su T E hT n parts ho L hn h0 h9 hx (hK _ _ h)
theorem wpList_none_suOn (hw : Region.wanted o (yielded ops a.tmps) = true) (T E : TypeId) (hT : ElT T E) (ho : o.op = .buildSlice T 0 #[])
    (h : wpList Tryd.prog ops Q rest (a.put o.dst (.slice (some ⟨w.heap.size, 0, none⟩) 0 0)) (w.alloc (.cells #[] E))) : wpList Tryd.prog ops Q (o :: rest) a w :=
  wpList_step fun K hK => by rw [if_pos hw]; exact wp_none_su T E hT ho (hK _ _ h)
theorem wpList_append_suOn (hw : Region.wanted o (yielded ops a.tmps) = true) (T E : TypeId) (hT : ElT T E) (s x : Operand) (ho : o.op = .call { callee := .builtin .append, args := #[s, x], argTypes := #[T, T] })
    (base : Nat) (v : Value) (L : List Su) (hs : a.eval s = v) (hown : OwnU w base E v L)
    (q : Option Addr) (M : List Su) (m cap b : Nat) (hm : M.length = m) (hx : a.eval x = .slice q m cap) (hq : q = none → cap = 0) (hl : Sees w b q (rowU M))
    (hn : L.length + m ≤ 4000000) (hbase : base ≤ w.heap.size)
    (h : ∀ v' w', OwnU w' base E v' (L ++ M) → Below base w w' → wpList Tryd.prog ops Q rest (a.put o.dst v') w') : wpList Tryd.prog ops Q (o :: rest) a w :=
  wpList_step fun K hK => by
    rw [if_pos hw]
    exact wp_append_su T E hT s x ho base v L hs hown q M m cap b hm hx hq hl hn hbase fun v' w' h1 h2 => hK _ _ (h v' w' h1 ((Below.refl base w).grown h2 hbase (fun k hk => hown.base k hk)))
/-- A sum written out. -/
theorem wpList_build_su (hw : Region.wanted o (yielded ops a.tmps) = true) (E : TypeId) (parts : Array (Nat × Operand)) (ho : o.op = .build E parts) (s : Su) (l : List (Nat × Value)) (hl : (parts.map fun (i, x) => (i, a.eval x)).toList = l) (hb : Tryd.prog.built E l = some (encU s).toArray)
    (h : wpList Tryd.prog ops Q rest (a.put o.dst (.agg (encU s).toArray)) w) : wpList Tryd.prog ops Q (o :: rest) a w :=
  wpList_step fun K hK => by
    rw [if_pos hw]
    unfold Oper.wp execOp
    simp only [ho, Sem.run_bind, run_build w E _ (encU s).toArray (by rw [hl]; exact hb), Result.andThen_ok]
    exact hK _ _ h
end
/-- A sum of these two bytes, then noughts. -/
def su2 (a b : BitVec 8) : Su := ⟨a :: b :: List.replicate 30 0, by simp⟩
def su1 (a : BitVec 8) : Su := su2 a 0
theorem built_one (x : Int) (b : BitVec 8) (h : x = B b) : Tryd.prog.built 24 [(0, .int .u8 x)] = some (encU (su1 b)).toArray := by
  subst h; kernel_rfl
theorem encU_su2 (a b : BitVec 8) : encU (su2 a b) = u8v a :: u8v b :: List.replicate 30 (.int .u8 0) := by
  simp [encU, su2, u8v, B]
end Go.Proofs.YthpledfjopbchaaDoor
/- A region in its order, one operation at a time. No condition. -/
namespace Go.Proofs.YthpledfjopbchaaDoor
open Go.RowKit
section
variable {P : Program} {ops : Array Oper} {rest : List Oper} {o : Oper} {a : Act} {w : World} {Q : Exit → Act → World → Prop}
theorem lp_pure {v : Value} (hw : Region.wanted o (yielded ops a.tmps) = true) (hy : (execOp a.eval o).run P w = .ok (.value v) w) (h : wpList P ops Q rest (a.put o.dst v) w) : wpList P ops Q (o :: rest) a w :=
  wpList_step fun K hK => by
    rw [if_pos hw]
    unfold Oper.wp
    rw [hy]
    exact hK _ _ h
theorem lp_skip (hw : Region.wanted o (yielded ops a.tmps) = false) (h : wpList P ops Q rest (a.put o.dst undef) w) : wpList P ops Q (o :: rest) a w :=
  wpList_step fun K hK => by rw [if_neg (by rw [hw]; simp)]; exact hK _ _ h
theorem lp_step (hw : Region.wanted o (yielded ops a.tmps) = true) (h : ∀ K : Act → World → Prop, (∀ a w, wpList P ops Q rest a w → K a w) → o.wp P a w K Q) : wpList P ops Q (o :: rest) a w :=
  wpList_step fun K hK => by rw [if_pos hw]; exact h K hK
end
theorem build_su {o : Oper} {ev : Operand → Value} {w : World} (E : TypeId) (parts : Array (Nat × Operand)) (ho : o.op = .build E parts) (s : Su) (l : List (Nat × Value)) (hl : (parts.map fun (i, x) => (i, ev x)).toList = l) (hb : Tryd.prog.built E l = some (encU s).toArray) :
    (execOp ev o).run Tryd.prog w = .ok (.value (.agg (encU s).toArray)) w := by
  unfold execOp
  simp only [ho, Sem.run_bind, run_build w E _ (encU s).toArray (by rw [hl]; exact hb), Result.andThen_ok]
  rfl
theorem built_two (x y : Int) (a b : BitVec 8) (h : x = B a) (h' : y = B b) : Tryd.prog.built 24 [(0, .int .u8 x), (1, .int .u8 y)] = some (encU (su2 a b)).toArray := by
  subst h; subst h'; kernel_rfl
end Go.Proofs.YthpledfjopbchaaDoor
