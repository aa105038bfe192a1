/- Plain laws: the pieces of bytes, one by one; bytes behind whole pieces. No condition. -/
import Derived.Test.YthpledfjopbchaaDoorPcut
namespace Go.Proofs.YthpledfjopbchaaDoor
/-- The pieces. -/
def pcs (b : List (BitVec 8)) : List (List (BitVec 8)) := pieces b (endsL plR 0 b)
theorem cutP_pcs (b : List (BitVec 8)) : cutP b = (pcs b).map fun x => (shaU x, x) := rfl
theorem pcs_nil : pcs [] = [] := by
  have h : (endsL plR 0 []).length = 0 := (endsL_empty plR_ok []).2 rfl
  have h2 : (pcs []).length = 0 := by unfold pcs; rw [pieces_length, h]
  exact List.eq_nil_of_length_eq_zero h2
theorem mid_shift (b : List (BitVec 8)) (k m n : Nat) : (b.take (k + n)).drop (m + n) = ((b.drop n).take k).drop m := by
  rw [Nat.add_comm m n, ← List.drop_drop, List.drop_take, Nat.add_sub_cancel]
theorem pcs_cons (b : List (BitVec 8)) (hb : b.length ≠ 0) : pcs b = b.take (nx plR b) :: pcs (b.drop (nx plR b)) := by
  have h := endsL_cons plR_ok 0 b hb
  rw [Nat.zero_add] at h
  have hs := endsL_shift plR_ok (nx plR b) (b.drop (nx plR b)).length 0 (b.drop (nx plR b)) (Nat.le_refl _)
  rw [Nat.zero_add] at hs
  rw [hs] at h
  unfold pcs
  generalize hL : endsL plR 0 (b.drop (nx plR b)) = L at h
  rw [h]
  generalize nx plR b = n
  unfold pieces
  rw [List.length_cons, List.length_map, List.range_succ_eq_map, List.map_cons, List.map_map]
  refine congr (congrArg _ ?_) ?_
  · unfold piece
    simp [before]
  · refine List.map_congr_left fun i hi => ?_
    have hi' : i < L.length := by simpa using hi
    show piece b (n :: L.map (· + n)) (i + 1) = piece (b.drop n) L i
    have hg : (n :: L.map (· + n)).getD (i + 1) 0 = L.getD i 0 + n := by
      rw [getD_at _ _ (by rw [List.length_cons, List.length_map]; omega), getD_at _ _ hi']; simp
    have hbf : before (n :: L.map (· + n)) (i + 1) = before L i + n := by
      rw [before_succ _ _ (by rw [List.length_cons, List.length_map]; omega)]
      cases i with
      | zero => rw [before_zero]; simp
      | succ j => rw [before_succ L j (by omega)]; simp
    unfold piece
    rw [hg, hbf, mid_shift]
theorem pcs_share (b : List (BitVec 8)) : ∀ (n : Nat) (a : List (BitVec 8)), a.length ≤ n → (∀ x, (pcs a).getLast? = some x → 128 ≤ x.length) → pcs (a ++ b) = pcs a ++ pcs b
  | 0, a, h, _ => by
    have : a = [] := List.eq_nil_of_length_eq_zero (by omega)
    subst this
    rw [pcs_nil]; rfl
  | n + 1, a, h, hl => by
    by_cases h0 : a.length = 0
    · have : a = [] := List.eq_nil_of_length_eq_zero h0
      subst this
      rw [pcs_nil]; rfl
    · have hp := nx_pos plR_ok h0
      have hle := nx_le plR a
      have hab : (a ++ b).length ≠ 0 := by rw [List.length_append]; omega
      have hle2 := nx_le plR (a ++ b)
      rw [pcs_cons a h0] at hl ⊢
      have hnx : nx plR (a ++ b) = nx plR a := by
        rcases nx_local plR_ok a b with h1 | ⟨h1, h2⟩
        · exact h1.symm
        · have hd : a.drop (nx plR a) = [] := List.drop_eq_nil_of_le (by omega)
          rw [hd, pcs_nil] at hl
          have := hl (a.take (nx plR a)) rfl
          rw [List.length_take] at this
          have e : plR.mx = 128 := rfl
          omega
      rw [pcs_cons (a ++ b) hab, hnx, List.take_append_of_le_length hle.1, List.drop_append_of_le_length hle.1]
      rw [pcs_share b n (a.drop (nx plR a)) (by rw [List.length_drop]; omega) (fun x hx => hl x (by
        rw [List.getLast?_cons, hx]; rfl))]
      rfl
theorem pcs_sum : ∀ (n : Nat) (a : List (BitVec 8)), a.length ≤ n → ((pcs a).map List.length).sum = a.length
  | 0, a, h => by
    have : a = [] := List.eq_nil_of_length_eq_zero (by omega)
    subst this
    rw [pcs_nil]; rfl
  | n + 1, a, h => by
    by_cases h0 : a.length = 0
    · have : a = [] := List.eq_nil_of_length_eq_zero h0
      subst this
      rw [pcs_nil]; rfl
    · have hp := nx_pos plR_ok h0
      have hle := nx_le plR a
      rw [pcs_cons a h0, List.map_cons, List.sum_cons, pcs_sum n (a.drop (nx plR a)) (by rw [List.length_drop]; omega), List.length_take, List.length_drop]
      omega
end Go.Proofs.YthpledfjopbchaaDoor
