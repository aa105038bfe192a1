/- Facts of places and levels; '!=' of two truths; the document's own calls in the form that walks want. No condition. -/
import Derived.Test.YtbkddcafalhflaaDoorGp3
import Derived.Test.YtbkddcafalhflaaDoorFox
import Derived.Test.YtbkddcafalhflaaDoorGp5
import Derived.Test.YtbkddcafalhflaaDoorGp4
namespace Go.Proofs.YtbkddcafalhflaaDoor
open Go.RowKit
theorem ex_neB {o : Oper} {ev : Operand → Value} {w : World} (T T2 : TypeId) (x y : Operand) (ho : o.op = .binOp .neq T x y T2) (hT : Tryd.prog.underlying T = some .bool) (a b : Bool) (hx : ev x = .bool a) (hy : ev y = .bool b) : (execOp ev o).run Tryd.prog w = .ok (.value (.bool (!(a == b)))) w := by
  have hg : ∀ w, (eqGuard .neq T x y (.bool a) (.bool b)).run Tryd.prog w = .ok () w := fun w => rfl
  have hv : ∀ w, (binOp .neq T (.bool a) (.bool b)).run Tryd.prog w = .ok (.bool (!(a == b))) w := fun w => run_neq_bool w T a b hT
  unfold execOp
  simp only [ho, hx, hy, Sem.run_bind, hg, hv, Result.andThen_ok]
  rfl
theorem places_le (s : Nat) (n : Int) (x : Su) : (places s n x).length ≤ 1000000 := by
  unfold places; split <;> simp
theorem levelN_le (x : Su) : levelN x ≤ 9 := lvN_le 9 _
theorem place_in (s p : Nat) (hp : 1 ≤ p) (x : Su) (i : Nat) : (i : Int) * p ≤ placeAt s (3 * p) x i ∧ placeAt s (3 * p) x i < (i : Int) * p + p := by
  unfold placeAt
  rw [show (3 * (p : Int)) / 3 = p by omega]
  have h1 := Int.emod_nonneg (M (wordOf (placeS s x).1 i)) (show (p : Int) ≠ 0 by omega)
  have h2 := Int.emod_lt_of_pos (M (wordOf (placeS s x).1 i)) (show (0 : Int) < p by omega)
  omega
theorem places_three {s : Nat} {n : Int} {x : Su} (h : goodN n = true) : places s n x = [placeAt s n x 0, placeAt s n x 1, placeAt s n x 2] := by
  unfold places; rw [if_pos h]; rfl
theorem places_at {s : Nat} {n : Int} {x : Su} {i : Nat} (h : i < (places s n x).length) : ∃ p : Nat, 1 ≤ p ∧ p ≤ 341 ∧ n = 3 * p ∧ i < 3 ∧ (i : Int) * p ≤ (places s n x)[i] ∧ (places s n x)[i] < (i : Int) * p + p := by
  cases hg : goodN n with
  | false => rw [places_none hg] at h; simp at h
  | true =>
    obtain ⟨p, h1, h2, rfl⟩ := good_part hg
    have h3 : i < 3 := by rw [places_len hg] at h; exact h
    have e : (places s (3 * (p : Int)) x)[i] = placeAt s (3 * p) x i := by
      have e1 : places s (3 * (p : Int)) x = (List.range 3).map (placeAt s (3 * p) x) := if_pos hg
      simp only [e1, List.getElem_map, List.getElem_range]
    exact ⟨p, h1, h2, rfl, h3, by rw [e]; exact (place_in s p h1 x i).1, by rw [e]; exact (place_in s p h1 x i).2⟩
theorem Ins.cellsE {w : World} {q : Option Addr} {l : List Int} (h : Sees w w.heap.size q (l.map fun n => Value.int .i64 n)) (h0 : 0 < l.length) : ∃ a, q = some a ∧ ∀ w', Below w.heap.size w w' → ∀ j (hj : j < l.length), w'.cell? (a.add (j * 1)) = some (.int .i64 l[j]) := by
  obtain ⟨a, h1, h2, h3⟩ := h (by simpa using h0)
  refine ⟨a, h1, fun w' hb j hj => ?_⟩
  rw [Nat.mul_one]
  refine (hb.cell (by rw [add_block]; exact h2)).trans (h3 j _ ?_)
  rw [List.getElem?_map, List.getElem?_eq_getElem hj]; rfl
end Go.Proofs.YtbkddcafalhflaaDoor
