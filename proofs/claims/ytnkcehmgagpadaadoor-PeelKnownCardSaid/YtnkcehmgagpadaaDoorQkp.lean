/- Closed and plain facts of what may not be peeled. No condition. -/
import Derived.Test.YtnkcehmgagpadaaDoorGp16
namespace Go.Proofs.YtnkcehmgagpadaaDoor
open Go.RowKit
theorem few_14 : decide (fewS 1 = fewS 4) = false := by kernel_rfl
theorem few_24 : decide (fewS 2 = fewS 4) = false := by kernel_rfl
theorem places_3 (s : Nat) (x : Su) : places s ((3 : Nat) : Int) x = [((0 : Nat) : Int), ((1 : Nat) : Int), ((2 : Nat) : Int)] := by
  obtain ⟨a, b, c, e, h1, h2, h3, h4, h5⟩ := places3 (s := s) (n := 3) (p := 1) (x := x) (by decide) rfl
  rw [e]
  obtain rfl : a = 0 := by omega
  obtain rfl : b = 1 := by omega
  obtain rfl : c = 2 := by omega
  rfl
theorem in_3 (s : Nat) (x : Su) (i : Nat) (hi : i < 3) : (places s ((3 : Nat) : Int) x).contains (i : Int) = true := by
  rw [places_3]
  match i, hi with
  | 0, _ => rfl
  | 1, _ => rfl
  | 2, _ => rfl
/-- In three cells each sum lies in all. -/
theorem cnt_3 {f : Ce → Su → Ce} {d : Int} (hf : ∀ c x, (f c x).1 = IntKind.i64.wrap (c.1 + d)) (s : Nat) : ∀ (A : List Su) (L : List Ce) (hl : L.length = 3), okT L → (∀ c x, okC (f c x)) → ∀ i (hi : i < 3), ((layA f s A L)[i]'(by rw [layA_len, hl]; exact hi)).1 = IntKind.i64.wrap ((L[i]'(by rw [hl]; exact hi)).1 + d * A.length)
  | [], L, hl, hL, _, i, hi => by
    have h : okC (L[i]'(by rw [hl]; exact hi)) := hL _ (List.getElem_mem _)
    show (L[i]'(by rw [hl]; exact hi)).1 = _
    simp only [List.length_nil, Int.natCast_zero, Int.mul_zero, Int.add_zero]
    exact h.symm
  | x :: A, L, hl, hL, hk, i, hi => by
    have hl2 : (layT f s x L).length = 3 := by rw [layT_len, hl]
    have hL2 : okT (layT f s x L) := by rw [layT_mods]; exact okT_mods (fun c => hk c x) _ _ hL
    have ih := cnt_3 hf s A (layT f s x L) hl2 hL2 hk i hi
    have h3 := lay_at (f := f) (s := s) (x := x) hl (by decide : goodN ((3 : Nat) : Int) = true) (p := 1) rfl i hi
    rw [in_3 s x i hi, if_pos rfl] at h3
    refine ih.trans ?_
    rw [h3, hf]
    have e : (((x :: A).length : Nat) : Int) = (A.length : Int) + 1 := by rw [List.length_cons]; rfl
    rw [e, Int.mul_add, Int.mul_one]
    simp only [IntKind.wrap_i64]
    omega
theorem stuck_of {s : Nat} {L : List Ce} (h : ∀ i (hi : i < L.length), L[i].1 ≠ 1 ∧ L[i].1 ≠ -1) : peelP s L = (L, [], []) := okP_stuck fun b hb => by
  obtain ⟨i, hi, rfl⟩ := List.getElem_of_mem hb
  have hl : i < L.length := by rw [aloneL_len] at hi; exact hi
  rw [aloneL_get s L i hl]
  unfold alone
  rw [pure_cnt0 (h i hl).1 (h i hl).2]; rfl
theorem nz_of {L : List Ce} {i : Nat} (hi : i < L.length) (h : L[i].1 ≠ 0) (P M : List Su) : okP (L, P, M) = false := by
  have : zeroT L = false := by
    cases hz : zeroT L with
    | false => rfl
    | true =>
      unfold zeroT at hz
      rw [Bool.and_eq_true, List.all_eq_true] at hz
      have h1 := of_decide_eq_true (hz.2 _ (List.getElem_mem hi))
      exact absurd (by rw [h1]; rfl) h
  unfold okP
  rw [show zeroT (L, P, M).1 = false from this]; rfl
def Q12 : List Su := srt (([1, 2] : List Int).map fewS)
def Q14 : List Su := srt (([1, 2, 3, 4] : List Int).map fewS)
theorem Q12_len : Q12.length = 2 := (len_srt (L := [fewS 1, fewS 2]) (by simp [of_decide_eq_false few_12]))
theorem mem_q {x : Su} {l : List Int} : x ∈ srt (l.map fewS) ↔ ∃ n ∈ l, fewS n = x := by rw [mem_srt, List.mem_map]
theorem Q_in : minU Q12 Q14 = [] := ascU_unique (asc_minU _ _) List.Pairwise.nil fun z => by
  rw [mem_minU]; unfold Q12 Q14; rw [mem_q, mem_q]
  simp only [List.mem_cons, List.not_mem_nil, or_false, exists_eq_or_imp, exists_eq_left, iff_false]
  rintro ⟨h1 | h1, h2⟩
  · exact h2 (.inl h1)
  · exact h2 (.inr (.inl h1))
theorem Q_out : minU Q14 Q12 = srt [fewS 3, fewS 4] := ascU_unique (asc_minU _ _) (asc_srt _) fun z => by
  have n13 := of_decide_eq_false few_13
  have n23 := of_decide_eq_false few_23
  have n14 := of_decide_eq_false few_14
  have n24 := of_decide_eq_false few_24
  rw [mem_minU, mem_srt]; unfold Q12 Q14; rw [mem_q, mem_q]
  simp only [List.mem_cons, List.not_mem_nil, or_false, exists_eq_or_imp, exists_eq_left]
  constructor
  · rintro ⟨h1 | h1 | h1 | h1, h2⟩
    · exact absurd (.inl h1) h2
    · exact absurd (.inr h1) h2
    · exact .inl h1.symm
    · exact .inr h1.symm
  · rintro (rfl | rfl)
    · refine ⟨.inr (.inr (.inl rfl)), ?_⟩
      rintro (h | h)
      · exact n13 h
      · exact n23 h
    · refine ⟨.inr (.inr (.inr rfl)), ?_⟩
      rintro (h | h)
      · exact n14 h
      · exact n24 h
theorem Q_outlen : (minU Q14 Q12).length = 2 := by rw [Q_out]; exact len_srt (L := [fewS 3, fewS 4]) (by simp [of_decide_eq_false few_34])
def T3 : List Ce := tabP 1 3 Q12
theorem T3_len : T3.length = 3 := tabP_len _ _ _
theorem T3_cnt (i : Nat) (hi : i < 3) : (T3[i]'(by rw [T3_len]; exact hi)).1 = 2 := by
  have h := cnt_3 (f := putC) (d := 1) (fun _ _ => rfl) 1 Q12 (List.replicate 3 zC) (by simp) (okT_zero 3) (fun _ _ => okC_with _ _ _ _) i hi
  rw [Q12_len, List.getElem_replicate] at h
  exact h.trans (by decide)
theorem T3_peel : peelP 1 T3 = (T3, [], []) := stuck_of fun i hi => by
  rw [T3_cnt i (by rw [T3_len] at hi; exact hi)]; exact ⟨by decide, by decide⟩
theorem T3_no : okP (T3, [], []) = false := nz_of (i := 0) (by rw [T3_len]; decide) (by rw [T3_cnt 0 (by decide)]; decide) _ _
theorem T3_more : ownB Q14 (ownQ 1 T3 Q14) = false := by
  have hg : goodN ((3 : Nat) : Int) = true := by decide
  have e : ownQ 1 T3 Q14 = peelP 1 (layA takeC 1 (minU Q14 Q12) (List.replicate 3 zC)) := by
    have e1 := own_diff (s := 1) (m := 3) (A := Q12) (B := Q14) (asc_srt _) (asc_srt _)
    have e2 := zip_tab (s := 1) (okT_tabP 1 3 []) (minU Q14 Q12)
    rw [tabP_len] at e2
    show ownQ 1 (tabP 1 3 Q12) Q14 = _
    rw [e1, Q_in]
    unfold tabP at e2 ⊢
    rw [e2]; rfl
  have hl : (layA takeC 1 (minU Q14 Q12) (List.replicate 3 zC)).length = 3 := by rw [layA_len, List.length_replicate]
  have hc : ∀ i (hi : i < 3), ((layA takeC 1 (minU Q14 Q12) (List.replicate 3 zC))[i]'(by rw [hl]; exact hi)).1 = -2 := fun i hi => by
    have h := cnt_3 (f := takeC) (d := -1) (fun _ _ => rfl) 1 (minU Q14 Q12) (List.replicate 3 zC) (by simp) (okT_zero 3) (fun _ _ => okC_with _ _ _ _) i hi
    rw [Q_outlen, List.getElem_replicate] at h
    exact h.trans (by decide)
  have hp := stuck_of (s := 1) (L := layA takeC 1 (minU Q14 Q12) (List.replicate 3 zC)) fun i hi => by
    rw [hc i (by rw [hl] at hi; exact hi)]; exact ⟨by decide, by decide⟩
  rw [e, hp]
  exact ownB_zero (nz_of (i := 0) (by rw [hl]; decide) (by rw [hc 0 (by decide)]; decide) _ _)
def Z12 : List Ce := List.replicate 12 zC
def NEG (z : Su) : List Ce := layT takeC 1 z Z12
theorem NEG_peel (z : Su) : peelP 1 (NEG z) = (Z12, [], [z]) := peel_take (m := 12) (by decide)
theorem NEG_ok (z : Su) : okP (Z12, [], [z]) = true := okP_of (m := 12) (by decide) _ _ (by simp)
theorem NEG_own (z : Su) : ownB [] (ownQ 1 (NEG z) []) = false := by
  have hl : (NEG z).length = 12 := by unfold NEG; rw [layT_len]; rfl
  have e : ownQ 1 (NEG z) [] = (Z12, [], [z]) := by
    have hk : okT (NEG z) := okT_take (okT_zero 12)
    have e2 := zip_tab (s := 1) hk []
    rw [hl] at e2
    unfold ownQ tabP
    rw [hl, e2]
    exact NEG_peel z
  rw [e]
  unfold ownB
  have h1 : minU (srt [z]) [] = [z] := ascU_unique (asc_minU _ _) (asc_srt [z]) fun y => by rw [mem_minU]; simp [srt, putU]
  rw [show (Z12, ([] : List Su), [z]).2.2 = [z] from rfl, h1]
  simp
def T5 : List Ce := Z12.set 0 ((5, zS, zS) : Ce)
theorem T5_at (i : Nat) (hi : i < 12) : (T5[i]'(by unfold T5 Z12; simpa using hi)).1 = if i = 0 then 5 else 0 := by
  unfold T5 Z12
  rw [List.getElem_set]
  by_cases h : i = 0
  · subst h; rfl
  · rw [if_neg (fun e => h e.symm), if_neg h, List.getElem_replicate]; rfl
theorem T5_len : T5.length = 12 := by unfold T5 Z12; simp
theorem T5_peel : peelP 1 T5 = (T5, [], []) := stuck_of fun i hi => by
  rw [T5_at i (by rw [T5_len] at hi; exact hi)]
  by_cases h : i = 0
  · rw [if_pos h]; exact ⟨by decide, by decide⟩
  · rw [if_neg h]; exact ⟨by decide, by decide⟩
theorem T5_no : okP (T5, [], []) = false := nz_of (i := 0) (by rw [T5_len]; decide) (by rw [T5_at 0 (by decide)]; decide) _ _
end Go.Proofs.YtnkcehmgagpadaaDoor
