/- A byte slice converted to its own type marks its block's end: what that keeps; worlds that grow so. No condition. -/
import Derived.Test.YtpfckamobjcdhaaDoorKnownM
import Derived.Test.YtpfckamobjcdhaaDoorStates
namespace Go.Proofs.YtpfckamobjcdhaaDoor
open Go.RowKit
theorem conv_any (w : World) (b n c : Nat) (cs : Array Value) (fr : Nat × Nat) (h : w.heap[b]? = some (.cells cs 5 fr)) :
    (convert 30 30 (.slice (some ⟨b, 0, none⟩) n c)).run Tryd.prog w = .ok (.slice (some ⟨b, 0, none⟩) n c) (w.freeze ⟨b, cs.size, none⟩ 1) := by
  have hsh : w.shape? b = some (5, cs.size) := by
    unfold World.shape?
    rw [h]
  simp [convert, run_underlying Tryd.underlying30, run_underlying Tryd.underlying5, markStringish, hsh]
/-- A world that grows: what lay there lies there, save that blocks of bytes above the base may be marked. -/
structure Ext (base : Nat) (w w' : World) : Prop where
  os : w'.os = w.os
  tape : w'.tape = w.tape
  output : w'.output = w.output
  size : w.heap.size ≤ w'.heap.size
  block : ∀ k o, w.heap[k]? = some o → w'.heap[k]? = some o ∨ (base ≤ k ∧ ∃ cs fr fr', o = .cells cs 5 fr ∧ w'.heap[k]? = some (.cells cs 5 fr'))
namespace Ext
variable {base : Nat} {w w' : World}
theorem alloc (w : World) (o : Obj) : Ext base w (w.alloc o) := ⟨rfl, rfl, rfl, by simp, fun k o' h => .inl ((Below.heap_alloc w o k (Array.getElem?_eq_some_iff.1 h).1).trans h)⟩
theorem below (h : Below w.heap.size w w') : Ext base w w' := ⟨h.os, h.tape, h.output, h.size, fun k _ hk => .inl ((h.block k (Array.getElem?_eq_some_iff.1 hk).1).trans hk)⟩
theorem has {g : Nat} {t : TypeId} {l : List Value} (h : Ext base w w') (hg : Has w g t l) (ht : t ≠ 5) : Has w' g t l := by
  rcases h.block g _ hg with h1 | ⟨_, cs, fr, fr', h2, _⟩
  · exact h1
  · injection h2 with _ h3; exact absurd h3 ht
theorem hasA {g : Nat} {t : TypeId} {cs : Array Value} (h : Ext base w w') (hg : w.heap[g]? = some (.cells cs t (0, 0))) (ht : t ≠ 5) : w'.heap[g]? = some (.cells cs t (0, 0)) := by
  rcases h.block g _ hg with h1 | ⟨_, cs, fr, fr', h2, _⟩
  · exact h1
  · injection h2 with _ h3; exact absurd h3 ht
theorem under {w0 : World} (h : Ext base w w') (hb : Below base w0 w) (hs : base ≤ w.heap.size) : Below base w0 w' :=
  ⟨h.os.trans hb.os, h.tape.trans hb.tape, h.output.trans hb.output, Nat.le_trans hb.size h.size, fun k hk => by
    have hk' : k < w.heap.size := by omega
    have e : w.heap[k]? = some w.heap[k] := Array.getElem?_eq_getElem hk'
    rcases h.block k _ e with h1 | ⟨hbk, _⟩
    · rw [h1, ← e]; exact hb.block k hk
    · omega⟩
end Ext
/-- A block of just these bytes, above the base. -/
def Bys (base : Nat) (w : World) (b : Nat) (x : List (BitVec 8)) : Prop := base ≤ b ∧ ∃ fr, w.heap[b]? = some (.cells (x.map u8v).toArray 5 fr)
namespace Bys
variable {base : Nat} {w w' : World} {b : Nat} {x : List (BitVec 8)}
theorem ext (h : Bys base w b x) (he : Ext base w w') : Bys base w' b x := by
  obtain ⟨h1, fr, h2⟩ := h
  rcases he.block b _ h2 with h3 | ⟨_, cs, f1, f2, h4, h5⟩
  · exact ⟨h1, fr, h3⟩
  · injection h4 with h6; subst h6; exact ⟨h1, f2, h5⟩
theorem reads (h : Bys base w b x) : Reads w b x := by
  obtain ⟨_, fr, h2⟩ := h
  exact ⟨(Array.getElem?_eq_some_iff.1 h2).1, fun j u hu => (cell_of_row _ b j _ 5 fr h2).trans (by simpa using hu)⟩
theorem made (w : World) (x : List (BitVec 8)) (cs : Array Value) (hx : cs = (x.map u8v).toArray) (hs : base ≤ w.heap.size) : Bys base (w.alloc (.cells cs 5)) w.heap.size x :=
  ⟨hs, (0, 0), by rw [hx]; exact heap_alloc_new w _⟩
end Bys
theorem ext_freeze {base : Nat} {w : World} {b n : Nat} {x : List (BitVec 8)} (h : Bys base w b x) : Ext base w (w.freeze ⟨b, n, none⟩ 1) := by
  obtain ⟨hb, fr, hc⟩ := h
  unfold World.freeze
  rw [if_neg (by decide)]
  refine ⟨rfl, rfl, rfl, by show _ ≤ (w.heap.modify _ _).size; simp, fun k o hk => ?_⟩
  show (w.heap.modify b _)[k]? = _ ∨ _
  by_cases hkb : b = k
  · subst hkb
    obtain ⟨lo, hi⟩ := fr
    refine .inr ⟨hb, (x.map u8v).toArray, (lo, hi), (if lo == hi then (n, n + 1) else (min lo n, max hi (n + 1))), (Option.some.inj (hk.symm.trans hc)), ?_⟩
    show (w.heap.modify b _)[b]? = _
    rw [Array.getElem?_modify, if_pos rfl, hc]
    rfl
  · refine .inl ?_
    rw [Array.getElem?_modify, if_neg hkb, hk]
end Go.Proofs.YtpfckamobjcdhaaDoor
