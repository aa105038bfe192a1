/- A rule that came in by value, opened. No condition. -/
import Derived.Test.YtkfelfcmpabjoaaOpenB
import Derived.Test.YtkfelfcmpabjoaaNext
import Derived.Lib.SmallJoins
namespace Go.Proofs.Ytkfelfcmpabjoaa
open Go.ChangeShapes Go.WideShapes Go.ChangeAt Go.RowKit
theorem five {α : Type} {cs : Array α} (h : cs.size = 5) : ∃ a b c d e, cs = #[a, b, c, d, e] := by
  obtain ⟨l⟩ := cs
  match l, h with
  | [a, b, c, d, e], _ => exact ⟨a, b, c, d, e, rfl⟩
theorem fiveL {α : Type} {l : List α} (h : l.length = 5) : ∃ a b c d e, l = [a, b, c, d, e] := by
  match l, h with
  | [a, b, c, d, e], _ => exact ⟨a, b, c, d, e, rfl⟩
theorem rule_cells : Try.prog.cellsOf 25 = 5 := by kernel_rfl
theorem int_cells : Try.prog.cellsOf 3 = 1 := by kernel_rfl
theorem u64_cells : Try.prog.cellsOf 23 = 1 := by kernel_rfl
theorem open_rule {H : Type} {enc : TypeId × Value → H} {w : World} {base b0 : Nat} {spare : Nat → Bool} {held : Bool} {r : Reach} {v : Value} {d : DataW H} {ps : List MemPlace}
    (hval : Value.okWide Try.prog w r b0 25 v) (h : DataW.Trod enc Try.prog w base spare held 25 v d ps) :
    ∃ m x d k t : Int, v = ruleV m x d k t ∧ (0 ≤ k ∧ k ≤ 18446744073709551615) ∧ (0 ≤ t ∧ t ≤ 18446744073709551615) := by
  have hC := rule_cells
  obtain ⟨cs, rfl, hsz⟩ := okWide_struct Try.underlying25 hval
  obtain ⟨c0, c1, c2, c3, c4, rfl⟩ := five (hsz.trans hC)
  obtain ⟨fuel, hf⟩ := h
  obtain ⟨xs, n, _, _, hlen, hxl, hel⟩ := DataW.trod_struct Try.underlying25 hf
  obtain ⟨y0, y1, y2, y3, y4, rfl⟩ := fiveL hxl
  have g0 : DataW.trod enc Try.prog w base spare held n 3 [c0] = some y0 := by have := hel 0 _ rfl; simpa [int_cells, u64_cells, Value.cells] using this
  have g1 : DataW.trod enc Try.prog w base spare held n 3 [c1] = some y1 := by have := hel 1 _ rfl; simpa [int_cells, u64_cells, Value.cells] using this
  have g2 : DataW.trod enc Try.prog w base spare held n 3 [c2] = some y2 := by have := hel 2 _ rfl; simpa [int_cells, u64_cells, Value.cells] using this
  have g3 : DataW.trod enc Try.prog w base spare held n 23 [c3] = some y3 := by have := hel 3 _ rfl; simpa [int_cells, u64_cells, Value.cells] using this
  have g4 : DataW.trod enc Try.prog w base spare held n 23 [c4] = some y4 := by have := hel 4 _ rfl; simpa [int_cells, u64_cells, Value.cells] using this
  obtain ⟨a, e0, _, w0⟩ := DataW.trod_int Try.underlying3 g0
  obtain ⟨b, e1, _, w1⟩ := DataW.trod_int Try.underlying3 g1
  obtain ⟨c, e2, _, w2⟩ := DataW.trod_int Try.underlying3 g2
  obtain ⟨k, e3, _, w3⟩ := DataW.trod_int Try.underlying23 g3
  obtain ⟨t, e4, _, w4⟩ := DataW.trod_int Try.underlying23 g4
  simp at e0 e1 e2 e3 e4
  subst e0 e1 e2 e3 e4
  exact ⟨a, b, c, k, t, rfl, bounds_u64 w3, bounds_u64 w4⟩
/-- A rule that is found good, in whole numbers. -/
theorem rule_nat (m x d k t : Int) (hk : 0 ≤ k ∧ k ≤ 18446744073709551615) (ht : 0 ≤ t ∧ t ≤ 18446744073709551615) (h : okI m x d = true) : ∃ r : Rl, r.Ok ∧ ruleV m x d k t = r.val := by
  unfold okI at h
  rw [decide_eq_true_iff] at h
  refine ⟨⟨m.toNat, x.toNat, d.toNat, k.toNat, t.toNat⟩, ⟨by simp only; omega, by simp only; omega, by simp only; omega, by simp only; omega, by simp only; omega, by simp only; omega, by simp only; omega⟩, ?_⟩
  unfold Rl.val
  simp only
  rw [Int.toNat_of_nonneg (by omega), Int.toNat_of_nonneg (by omega), Int.toNat_of_nonneg (by omega), Int.toNat_of_nonneg (by omega), Int.toNat_of_nonneg (by omega)]
end Go.Proofs.Ytkfelfcmpabjoaa
