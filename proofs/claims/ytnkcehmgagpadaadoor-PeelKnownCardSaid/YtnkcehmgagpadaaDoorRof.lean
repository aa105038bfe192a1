/- Contract: the document's own Of: SHA-256. Condition: fewer than 2^40 bytes; a nil slice has no capacity. -/
import Derived.Test.YtnkcehmgagpadaaDoorRblock
import Derived.Test.YtnkcehmgagpadaaDoorGp8
namespace Go.Proofs.YtnkcehmgagpadaaDoor
open Go.RowKit
/-- What the call has made: the result's block, the eight words, the text that grows. -/
def Grows (w : World) (h : List Value) (v : Value) (p : List (BitVec 8)) (wr : World) : Prop :=
  Below w.heap.size w wr ∧ Has wr w.heap.size 85 (brow 32 []) ∧ Has wr (w.heap.size + 1) 76 h ∧ wr.ownsRow (w.heap.size + 2) 5 1 v p.length (p.map u8v)
theorem Grows.size {w wr : World} {h : List Value} {v : Value} {p : List (BitVec 8)} (g : Grows w h v p wr) : w.heap.size + 2 ≤ wr.heap.size := by have := g.2.2.1.lt; omega
theorem Grows.next {w wr w2 : World} {h : List Value} {v v2 : Value} {p q : List (BitVec 8)} (g : Grows w h v p wr) (o : Obj) (hb : Below (w.heap.size + 2) (wr.alloc o) w2) (ho : w2.ownsRow (w.heap.size + 2) 5 1 v2 q.length (q.map u8v)) : Grows w h v2 q w2 := by
  obtain ⟨h0, h1, h2, _⟩ := g
  have hz := h2.lt
  exact ⟨(h0.alloc h0.size o).trans (hb.mono (by omega)), (h1.alloc o).keep hb (by omega), (h2.alloc o).keep hb (by omega), ho⟩
section
attribute [local go_sem] N_and N_or N_xor N_add
end
end Go.Proofs.YtnkcehmgagpadaaDoor
