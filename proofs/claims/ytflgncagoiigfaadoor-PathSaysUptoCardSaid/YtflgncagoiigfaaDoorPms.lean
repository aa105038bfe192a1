/- Plain laws of sorted texts: each once, in order; and package path's slices.SortFunc, slices.Compact, as its Sort calls them. Conditions: texts shorter than 2^63 bytes, fewer than 2^62 of them. -/
import Derived.Test.YtflgncagoiigfaaDoorLayS
import Derived.Test.YtflgncagoiigfaaDoorAwake7
import Derived.Sort.OwnSorted
import Derived.Sort.Grow
import Derived.Lib.OwnBridge
namespace Go.Proofs.YtflgncagoiigfaaDoor
open Go.RowKit Go.Shelf Go.Sort
/-- Each ahead of the next ones. -/
abbrev Asc (R : List Tx) : Prop := R.Pairwise fun x y => cmpL x y = -1
/-- What Sort answers of L: the Good ones, each once, in order. -/
def Srt (L R : List Tx) : Prop := Asc R ∧ ∀ x, x ∈ R ↔ x ∈ L ∧ okPath x = true
theorem cmpL_flip {x y : Tx} (h : cmpL x y = -1) : cmpL y x = 1 := by rw [cmpL_neg, h]; rfl
theorem asc_unique : ∀ {A B : List Tx}, Asc A → Asc B → (∀ x, x ∈ A ↔ x ∈ B) → A = B
  | [], [], _, _, _ => rfl
  | [], b :: B, _, _, h => absurd ((h b).2 (List.mem_cons_self ..)) (by simp)
  | a :: A, [], _, _, h => absurd ((h a).1 (List.mem_cons_self ..)) (by simp)
  | a :: A, b :: B, ha, hb, h => by
    obtain ⟨ha1, ha2⟩ := List.pairwise_cons.1 ha
    obtain ⟨hb1, hb2⟩ := List.pairwise_cons.1 hb
    have hab : a = b := by
      rcases List.mem_cons.1 ((h a).1 (List.mem_cons_self ..)) with e | e
      · exact e
      · rcases List.mem_cons.1 ((h b).2 (List.mem_cons_self ..)) with e2 | e2
        · exact e2.symm
        · have h1 := ha1 b e2
          have h2 := hb1 a e
          rw [cmpL_flip h2] at h1
          cases h1
    subst hab
    have hn : ∀ {C : List Tx}, (∀ x ∈ C, cmpL a x = -1) → a ∉ C := fun hc hm => by
      have h1 := hc a hm
      rw [cmpL_self] at h1
      cases h1
    rw [asc_unique ha2 hb2 (fun x => ?_)]
    constructor
    · intro hx
      rcases List.mem_cons.1 ((h x).1 (List.mem_cons_of_mem _ hx)) with e | e
      · exact absurd (e ▸ hx) (hn ha1)
      · exact e
    · intro hx
      rcases List.mem_cons.1 ((h x).2 (List.mem_cons_of_mem _ hx)) with e | e
      · exact absurd (e ▸ hx) (hn hb1)
      · exact e
theorem srt_unique {L A B : List Tx} (ha : Srt L A) (hb : Srt L B) : A = B := asc_unique ha.1 hb.1 fun x => (ha.2 x).trans (hb.2 x).symm
theorem srt_again {L R : List Tx} (h : Srt L R) : Srt R R := ⟨h.1, fun x => ⟨fun hx => ⟨hx, ((h.2 x).1 hx).2⟩, fun hx => hx.1⟩⟩
theorem compact_inv (M : List Tx) (h : M.Pairwise fun x y => cmpL x y ≤ 0) : ∀ m, m ≤ M.length → Asc (Lib.compactUpTo M.toArray m) ∧ ∀ x, x ∈ Lib.compactUpTo M.toArray m ↔ x ∈ M.take m := by
  intro m
  induction m with
  | zero => intro _; exact ⟨by simp [Lib.compactUpTo], by simp [Lib.compactUpTo]⟩
  | succ m ih =>
    intro hm
    obtain ⟨i1, i2⟩ := ih (by omega)
    have hget : M.toArray[m]! = M[m] := getElem!_pos M.toArray m (by simpa using (show m < M.length by omega))
    have htk : M.take (m + 1) = M.take m ++ [M[m]] := by rw [List.take_add_one, List.getElem?_eq_getElem (show m < M.length by omega)]; rfl
    have hle : ∀ x ∈ M.take m, cmpL x M[m] ≤ 0 := fun x hx => by
      have h2 : (M.take (m + 1)).Pairwise fun x y => cmpL x y ≤ 0 := h.sublist (List.take_sublist _ _)
      rw [htk, List.pairwise_append] at h2
      exact h2.2.2 x hx M[m] (by simp)
    rw [Lib.compactUpTo_succ, htk]
    cases hk : Lib.keeps M.toArray m with
    | false =>
      unfold Lib.keeps at hk
      have hk2 := of_decide_eq_false hk
      have hm0 : m ≠ 0 := fun e => hk2 (.inl e)
      have he : M.toArray[m]! = M.toArray[m - 1]! := Classical.byContradiction fun e => hk2 (.inr e)
      rw [hget, getElem!_pos M.toArray (m - 1) (by simpa using (show m - 1 < M.length by omega))] at he
      have hin : M[m] ∈ M.take m := by
        rw [he, List.getElem_toArray]
        exact List.mem_take_iff_getElem.2 ⟨m - 1, by omega, rfl⟩
      simp only [Bool.false_eq_true, if_false, List.append_nil]
      refine ⟨i1, fun x => (i2 x).trans ⟨fun hx => List.mem_append_left _ hx, fun hx => ?_⟩⟩
      rcases List.mem_append.1 hx with e | e
      · exact e
      · rw [List.mem_singleton.1 e]; exact hin
    | true =>
      unfold Lib.keeps at hk
      have hk2 := of_decide_eq_true hk
      rw [if_pos rfl, hget]
      refine ⟨?_, fun x => by rw [List.mem_append, List.mem_append, i2 x]⟩
      refine List.pairwise_append.2 ⟨i1, by simp, fun x hx y hy => ?_⟩
      rw [List.mem_singleton.1 hy]
      have hx2 := (i2 x).1 hx
      have hl := hle x hx2
      rcases cmpL_vals x M[m] with e | e | e
      · exact e
      · exfalso
        have hxe := cmpL_zero.1 e
        obtain ⟨j, hj, hxj⟩ := List.mem_take_iff_getElem.1 hx2
        have hm0 : m ≠ 0 := by omega
        have hne : M.toArray[m]! ≠ M.toArray[m - 1]! := hk2.resolve_left hm0
        rw [hget, getElem!_pos M.toArray (m - 1) (by simpa using (show m - 1 < M.length by omega)), List.getElem_toArray] at hne
        have h1 : cmpL M[m - 1] M[m] ≤ 0 := hle _ (List.mem_take_iff_getElem.2 ⟨m - 1, by omega, rfl⟩)
        have h2 : cmpL x M[m - 1] ≤ 0 := by
          by_cases hjm : j = m - 1
          · subst hjm; rw [← hxj, cmpL_self]; exact Int.le_refl _
          · have := List.pairwise_iff_getElem.1 h j (m - 1) (by omega) (by omega) (by omega)
            rw [← hxj]; exact this
        rw [hxe] at h2
        have h3 := cmpL_neg M[m] M[m - 1]
        exact hne (cmpL_zero.1 (by omega))
      · omega
theorem compact_srt (M : List Tx) (h : M.Pairwise fun x y => cmpL x y ≤ 0) : Asc (Lib.compact M) ∧ ∀ x, x ∈ Lib.compact M ↔ x ∈ M := by
  have := compact_inv M h M.length (Nat.le_refl _)
  rw [List.take_length] at this
  exact this
/-- A text within reach. -/
abbrev Short := { t : Tx // t.length < 9223372036854775808 }
instance : Inhabited Short := ⟨⟨[], by decide⟩⟩
def encK (x : Short) : Value := encStr x.1
def cfK (x y : Short) : Int := cmpL x.1 y.1
theorem lt_iff (x y : Short) : ltOf cfK x y = true ↔ cmpL x.1 y.1 < 0 := decide_eq_true_iff
theorem nlt_iff (x y : Short) : ltOf cfK x y = false ↔ cmpL y.1 x.1 ≤ 0 := by
  unfold ltOf cfK
  rw [decide_eq_false_iff_not, cmpL_neg y.1 x.1]
  omega
theorem swoK : SWO (ltOf cfK) where
  irrefl x := by rw [nlt_iff, cmpL_self]; exact Int.le_refl _
  trans x y z h1 h2 := by
    rw [lt_iff] at *
    have h3 := cmpL_trans (Int.le_of_lt h1) (Int.le_of_lt h2)
    rcases Int.lt_or_lt_of_ne (show cmpL x.1 z.1 ≠ 0 from fun e => by
      have e2 := cmpL_zero.1 e
      rw [e2] at h1
      have := cmpL_neg z.1 y.1
      omega) with h | h <;> omega
  ntrans x y z h1 h2 := by
    rw [nlt_iff] at *
    exact cmpL_trans h2 h1
theorem parted (x y : Short) (h1 : ltOf cfK x y = false) (h2 : ltOf cfK y x = false) : x = y := by
  rw [nlt_iff] at h1 h2
  have := cmpL_neg x.1 y.1
  exact Subtype.ext (cmpL_zero.1 (by omega))
theorem shorts : ∀ {G : List Tx}, (∀ t ∈ G, t.length < 9223372036854775808) → ∃ D : List Short, D.map (·.1) = G
  | [], _ => ⟨[], rfl⟩
  | a :: G, h => by
    obtain ⟨D, hD⟩ := shorts (G := G) fun t ht => h t (List.mem_cons_of_mem _ ht)
    exact ⟨⟨a, h a (List.mem_cons_self ..)⟩ :: D, by simp [hD]⟩
theorem get_short (D : List Short) (j : Nat) (h : j < D.length) : encK (D.toArray)[j]! = encStr ((D.map (·.1)).toArray)[j]! := by
  rw [getElem!_pos D.toArray j (by simpa using h), getElem!_pos (D.map (·.1)).toArray j (by simpa using h)]
  simp [encK]
theorem put_short (w : World) (g o n : Nat) (D : List Short) (os : Array Obj) : sortWorld encK w g o n D.toArray os = sortWorld encStr w g o n (D.map (·.1)).toArray os := by
  unfold sortWorld putRow
  have e : putCells encK o D.toArray = putCells encStr o (D.map (·.1)).toArray := by
    funext c
    unfold putCells
    apply Array.ext
    · simp
    · intro k h1 h2
      simp only [Array.getElem_mapIdx, List.size_toArray, List.length_map]
      split
      · rename_i hk; exact get_short D (k - o) (by omega)
      · rfl
  rw [e]
theorem holds_short {w : World} {g o : Nat} {D : List Short} (h : Holds encStr w g o (D.map (·.1)).toArray) : Holds encK w g o D.toArray := fun j hj => by
  have hj' : j < D.length := by simpa using hj
  rw [get_short D j hj']
  exact h j (by simpa using hj')
theorem sortFunc_any (g cap : Nat) (G : List Tx) (hG : ∀ t ∈ G, t.length < 9223372036854775808) (w : World) (hH : Holds encStr w g 0 G.toArray) (hg : g < w.heap.size) (hl : G.length < 4611686018427387904) :
    Calls Tryd.prog 35 #[.slice (some ⟨g, 0, none⟩) G.length cap, .func (.func 18) #[] #[]] w fun e w' =>
      e = .returned (.tuple #[]) ∧ ∃ (M : List Tx) (n : Nat) (os : Array Obj), M.Perm G ∧ (M.Pairwise fun x y => cmpL x y ≤ 0) ∧ w' = sortWorld encStr w g 0 n M.toArray os := by
  obtain ⟨D, rfl⟩ := shorts hG
  have eg : ∀ args w, (callFunc 18 args).run Tryd.prog w = .ok (.enter 18 args) w := enters_of Tryd.func18 (by kernel_rfl) rfl
  have hcmp : CmpReads Tryd.prog 18 #[] encK cfK g 0 D.toArray.size w := fun m os dk _ x y =>
    cmp_any ⟨x.1.toArray⟩ ⟨y.1.toArray⟩ (by show x.1.toArray.size < _; simpa using x.2) (by show y.1.toArray.size < _; simpa using y.2) _
  have h := Any.slices_SortFunc_total laysSortF encK (fun _ => rfl) cfK swoK 18 #[] g 0 cap D.toArray w eg hcmp.lays (holds_short hH) hg (by simpa using hl) parted
  rw [List.length_map]
  refine Calls.mono h fun e w' ⟨he, n, os, hw⟩ => ⟨he, (D.mergeSort fun x y => !(ltOf cfK) y x).map (·.1), n, os, ?_, ?_, ?_⟩
  · exact (List.mergeSort_perm D _).map _
  · rw [List.pairwise_map]
    refine (List.pairwise_mergeSort (le := fun x y => !(ltOf cfK) y x) (fun a b c h1 h2 => ?_) (fun a b => ?_) D).imp fun h => ?_
    · simp only [Bool.not_eq_true', nlt_iff] at *
      exact cmpL_trans h1 h2
    · simp only [Bool.or_eq_true, Bool.not_eq_true', nlt_iff]
      have := cmpL_neg a.1 b.1
      omega
    · simpa [nlt_iff] using h
  · rw [hw, put_short]
theorem sortNone_any (p : Option Addr) (cap : Nat) (fv : Value) (w : World) :
    Calls Tryd.prog 35 #[.slice p 0 cap, fv] w fun e w' => e = .returned (.tuple #[]) ∧ w' = w := AnyF.slices_SortFunc_none { laysSortF with } p cap fv w
theorem compact_any (g cap : Nat) (M : List Tx) (w : World) (hH : Holds encStr w g 0 M.toArray) (hsz : M.length ≤ 9223372036854775807) (hcap : M.length ≤ cap) :
    Calls Tryd.prog 36 #[.slice (some ⟨g, 0, none⟩) M.length cap] w fun e w' => e = .returned (.slice (some ⟨g, 0, none⟩) (Lib.compact M).length cap) ∧
      ∃ q, w' = putRow encStr (Sort.ahead w q) g 0 (Lib.compact M ++ List.replicate (M.length - (Lib.compact M).length) []).toArray := Any.slices_Compact_string lays194 g 0 cap M w hH hsz hcap
theorem compactNone_any (a : Option Addr) (cap : Nat) (w : World) :
    Calls Tryd.prog 36 #[.slice a 0 cap] w fun e w' => e = .returned (.slice a 0 cap) ∧ w' = w := Any.slices_Compact_string_empty lays194 a cap w
end Go.Proofs.YtflgncagoiigfaaDoor
