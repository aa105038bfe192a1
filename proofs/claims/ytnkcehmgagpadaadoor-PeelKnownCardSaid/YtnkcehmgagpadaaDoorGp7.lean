/- Contracts: the document's own PutSum, Xor. Condition: at most 10^6 bytes ahead, in a row of the call's own. -/
import Derived.Test.YtnkcehmgagpadaaDoorGp2
import Derived.Test.YtnkcehmgagpadaaDoorGp8
import Derived.Test.YtnkcehmgagpadaaDoorRof
import Derived.Test.YtnkcehmgagpadaaDoorSq
namespace Go.Proofs.YtnkcehmgagpadaaDoor
open Go.RowKit
/-- The bytes so far, in a row of the call's own. -/
def OwB (w : World) (b : Nat) (v : Value) (X : List (BitVec 8)) : Prop := w.ownsRow b 5 1 v X.length (X.map u8v)
theorem OwB.next {w : World} {b : Nat} {v : Value} {X : List (BitVec 8)} {y : BitVec 8} (h : w.ownsRow b 5 1 v (X.length + [y].length) (X.map u8v ++ [y].map u8v)) : OwB w b v (X ++ [y]) := by
  unfold OwB; rw [List.length_append, List.map_append]; exact h
/-- A box of another type stays where a row of bytes grows. -/
theorem Has.grown {w w' : World} {g base n : Nat} {t : TypeId} {l xs : List Value} {v : Value} (h : Has w g t l) (ht : t ≠ 5) (ho : w.ownsRow base 5 1 v n xs) (hg : w.grownBy w' v.ownBlock) : Has w' g t l := by
  have hne : some g ≠ v.ownBlock := by
    rcases ho.2 with ⟨rfl, _⟩ | ⟨k, cap, cur, rfl, _, hk, _⟩
    · simp [Value.ownBlock]
    · intro e
      simp only [Value.ownBlock, Option.some.injEq] at e
      subst e
      have h1 := Option.some.inj (h.symm.trans hk)
      injection h1 with _ h2 _
      exact ht h2
  exact (hg.5 g h.lt (fun e => hne e)).trans h
section
attribute [local go_sem] B_xor
end
end Go.Proofs.YtnkcehmgagpadaaDoor
/- Contracts: the document's own Check, PutCell, MinusCell, Pure; the law's cellOf. No condition. -/
namespace Go.Proofs.YtnkcehmgagpadaaDoor
open Go.RowKit
theorem OwB.made (w : World) (x : List (BitVec 8)) (n : Nat) (hn : x.length = n) (hm : n ≤ 1000) : OwB (w.alloc (.cells (x.map u8v).toArray 5)) w.heap.size (.slice (some ⟨w.heap.size, 0, none⟩) n n) x := by
 subst hn
 exact ⟨by simp, .inr ⟨w.heap.size, x.length, (x.map u8v).toArray, rfl, Nat.le_refl _, heap_alloc_new _ _, Nat.le_refl _, by unfold maxLen; omega, by simp, by rw [Nat.mul_one]; exact List.take_of_length_le (by simp)⟩⟩
end Go.Proofs.YtnkcehmgagpadaaDoor
