/- Contract: the document's own block: one block of 64 bytes mixed into eight words. Condition: the block's bytes lie in older memory. -/
import Derived.Test.YtnkcehmgagpadaaDoorGp8
import Derived.Deep.QuietTactic
import Derived.BigQuiet
import Derived.StillTailTactics
import Derived.Deep.DeepCutAuto
namespace Go.Proofs.YtnkcehmgagpadaaDoor
open Go.RowKit
/-- The blocks that the call has made: the words handed in, what it hands back, the keys, the schedule. -/
def Blks (w : World) (g2 : Nat) (ks h : List Value) (l : List (BitVec 32)) (wr : World) : Prop :=
  Below w.heap.size w wr ∧ Has wr w.heap.size 76 h ∧ Has wr (w.heap.size + 1) 76 (List.replicate 8 (.int .u32 0)) ∧ Has wr g2 120 ks ∧ Has wr (g2 + 1) 120 (zrow l) ∧ w.heap.size + 1 < g2
theorem Blks.drew {w wr : World} {g2 : Nat} {ks h : List Value} {l : List (BitVec 32)} (hb : Blks w g2 ks h l wr) : Blks w g2 ks h l wr.drew := ⟨hb.1.drew, hb.2.1, hb.2.2.1, hb.2.2.2.1, hb.2.2.2.2.1, hb.2.2.2.2.2⟩
theorem Blks.put {w wr : World} {g2 : Nat} {ks h : List Value} {l : List (BitVec 32)} (hb : Blks w g2 ks h l wr) (k : Nat) (x : BitVec 32) (hl : l.length = k) (hk : k < 64) : Blks w g2 ks h (l ++ [x]) (wr.setCell ⟨g2 + 1, k, none⟩ (u32v x)) := by
  obtain ⟨h0, h1, h2, h3, h4, h5⟩ := hb
  refine ⟨h0.setCell (by simp; omega) _, h1.off (by simp; omega) _, h2.off (by simp; omega) _, h3.off (by simp) _, ?_, h5⟩
  have := h4.put k (u32v x)
  rwa [zrow_put l x k hl hk] at this
/-- And the words of the rounds. -/
def Blk3 (w : World) (g2 g4 : Nat) (ks h : List Value) (l : List (BitVec 32)) (v : List Value) (wr : World) : Prop := Blks w g2 ks h l wr ∧ Has wr g4 76 v ∧ g2 + 1 < g4
theorem Blk3.drew {w wr : World} {g2 g4 : Nat} {ks h v : List Value} {l : List (BitVec 32)} (hb : Blk3 w g2 g4 ks h l v wr) : Blk3 w g2 g4 ks h l v wr.drew := ⟨hb.1.drew, hb.2.1, hb.2.2⟩
theorem Blk3.row {w wr : World} {g2 g4 : Nat} {ks h v : List Value} {l : List (BitVec 32)} (hb : Blk3 w g2 g4 ks h l v wr) (v' : List Value) : Blk3 w g2 g4 ks h l v' (wr.setRow g4 v'.toArray) := by
  obtain ⟨⟨h0, h1, h2, h3, h4, h5⟩, h6, h7⟩ := hb
  exact ⟨⟨below_row h0 (by omega) _, h1.offRow (by omega) _, h2.offRow (by omega) _, h3.offRow (by omega) _, h4.offRow (by omega) _, h5⟩, h6.rowl v', h7⟩
theorem Blk3.put {w wr : World} {g2 g4 : Nat} {ks h v : List Value} {l : List (BitVec 32)} (hb : Blk3 w g2 g4 ks h l v wr) (k : Nat) (x : Value) : Blk3 w g2 g4 ks (h.set k x) l v (wr.setCell ⟨w.heap.size, k, none⟩ x) := by
  obtain ⟨⟨h0, h1, h2, h3, h4, h5⟩, h6, h7⟩ := hb
  exact ⟨⟨h0.setCell (by simp) _, h1.put k x, h2.off (by simp) _, h3.off (by simp; omega) _, h4.off (by simp; omega) _, h5⟩, h6.off (by simp; omega) _, h7⟩
section
attribute [local go_sem] N_and N_or N_xor N_add N_of_B N_shl24 N_shl16 N_shl8 N_not' u32_signed
end
end Go.Proofs.YtnkcehmgagpadaaDoor
