/- Plain laws: more of where pieces end: how many there are, what they are together. No condition but that a rule may be. -/
import Derived.Test.YthpledfjopbchaaDoorParts
namespace Go.Proofs.YthpledfjopbchaaDoor
theorem endsL_count {r : Rl} (h : r.Ok) (b : List (BitVec 8)) : (endsL r 0 b).length ≤ b.length := by
  by_cases h0 : (endsL r 0 b).length = 0
  · omega
  · have h2 := endsL_least h b ((endsL r 0 b).length - 1) (by omega)
    obtain ⟨k1, k2, _⟩ := endsL_lt h b ((endsL r 0 b).length - 1) (by omega)
    have h3 : (endsL r 0 b).length - 1 ≤ ((endsL r 0 b).length - 1) * r.mn := Nat.le_mul_of_pos_right _ (by have := h.w1; have := h.w3; omega)
    omega
/-- What the first i pieces are together. -/
theorem pieces_join {r : Rl} (h : r.Ok) (b : List (BitVec 8)) : ∀ i, i ≤ (endsL r 0 b).length → ((List.range i).map (piece b (endsL r 0 b))).flatten = b.take (before (endsL r 0 b) i)
  | 0, _ => by rw [before_zero]; rfl
  | i + 1, hi => by
    obtain ⟨k1, k2, _⟩ := endsL_lt h b i hi
    rw [List.range_succ, List.map_append, List.flatten_append, pieces_join h b i (by omega), before_succ _ i hi]
    simp only [List.map_cons, List.map_nil, List.flatten_cons, List.flatten_nil, List.append_nil]
    unfold piece
    rw [getD_at _ i hi]
    have e : (b.take (endsL r 0 b)[i]).take (before (endsL r 0 b) i) = b.take (before (endsL r 0 b) i) := by rw [List.take_take, Nat.min_eq_left (by omega)]
    have e2 := List.take_append_drop (before (endsL r 0 b) i) (b.take (endsL r 0 b)[i])
    rw [e] at e2
    exact e2
theorem pieces_all {r : Rl} (h : r.Ok) (b : List (BitVec 8)) : (pieces b (endsL r 0 b)).flatten = b := by
  unfold pieces
  rw [pieces_join h b _ (Nat.le_refl _), endsL_last h b, List.take_length]
end Go.Proofs.YthpledfjopbchaaDoor
