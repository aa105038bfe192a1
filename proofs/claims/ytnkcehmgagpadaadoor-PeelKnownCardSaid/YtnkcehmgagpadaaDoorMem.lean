/- A block of memory that is known whole, and what keeps it. No condition. -/
import Derived.WalkKit
import Derived.Deep.Draws
import Derived.Deep.MidRow
import Derived.Laws.CopyOwn
import Derived.Lib.Hide
namespace Go.Proofs.YtnkcehmgagpadaaDoor
open Go.RowKit

theorem one32 (l : List Value) (h : ∀ v ∈ l, v.oneCell' = true) : l.toArray.all (·.oneCell') = true :=
  Array.all_eq_true_iff_forall_mem.2 (fun v hv => h v (by simpa using hv))

/-- Block g holds just these cells, all of them to be written. -/
def Has (w : World) (g : Nat) (t : TypeId) (l : List Value) : Prop := w.heap[g]? = some (.cells l.toArray t (0, 0))

namespace Has
variable {w w' : World} {g : Nat} {t : TypeId} {l : List Value}
theorem lt (h : Has w g t l) : g < w.heap.size := by
  unfold Has at h
  exact (Array.getElem?_eq_some_iff.1 h).1
theorem cell (h : Has w g t l) (i : Nat) : w.cell? ⟨g, i, none⟩ = l[i]? := by
  rw [cell_of_row w g i l.toArray t (0, 0) h]; simp
theorem cellv (h : Has w g t l) {i : Nat} {v : Value} (e : l[i]? = some v) : w.cell? ⟨g, i, none⟩ = some v := (h.cell i).trans e
theorem free (h : Has w g t l) (i : Nat) : w.frozen? ⟨g, i, none⟩ = false := by
  unfold Has at h; simp [World.frozen?, h]
theorem made (w : World) (t : TypeId) (cs : Array Value) : Has (w.alloc (.cells cs t)) w.heap.size t cs.toList := by
  have := heap_alloc_new w (.cells cs t); unfold Has; simpa using this
theorem made' (w : World) (t : TypeId) (cs : Array Value) (l : List Value) (e : cs = l.toArray) : Has (w.alloc (.cells cs t)) w.heap.size t l := by
  subst e; exact heap_alloc_new w _
theorem made1 (w : World) (o : Obj) (t : TypeId) (cs : Array Value) (l : List Value) (e : cs = l.toArray) : Has ((w.alloc o).alloc (.cells cs t)) (w.heap.size + 1) t l := by
  have := made' (w.alloc o) t cs l e
  simpa using this
theorem drew (h : Has w g t l) : Has w.drew g t l := h
theorem drewN (h : Has w g t l) (n : Nat) : Has (w.drewN n) g t l := h
theorem alloc (h : Has w g t l) (o : Obj) : Has (w.alloc o) g t l := (Below.heap_alloc w o g h.lt).trans h
theorem put (h : Has w g t l) (i : Nat) (u : Value) : Has (w.setCell ⟨g, i, none⟩ u) g t (l.set i u) := by
  unfold Has at h ⊢; simp [World.setCell, Array.getElem?_modify, h]
theorem off (h : Has w g t l) {p : Addr} (hp : g ≠ p.block) (u : Value) : Has (w.setCell p u) g t l := (Below.heap_setCell w p u g hp).trans h
theorem row (h : Has w g t l) (cs : Array Value) : Has (w.setRow g cs) g t cs.toList := by
  have := setRow_heap w g l.toArray cs t (0, 0) h
  unfold Has; simpa using this
theorem rowl (h : Has w g t l) (l' : List Value) : Has (w.setRow g l'.toArray) g t l' := setRow_heap w g l.toArray l'.toArray t (0, 0) h
theorem offRow (h : Has w g t l) {g' : Nat} (hg : g ≠ g') (cs : Array Value) : Has (w.setRow g' cs) g t l := (setRow_other w g' g cs hg).trans h
theorem keep {b : Nat} (h : Has w g t l) (hb : Below b w w') (hg : g < b) : Has w' g t l := (hb.block g hg).trans h
theorem apart {g' : Nat} {t' : TypeId} {l' : List Value} (h : Has w g t l) (h' : Has w g' t' l') (hne : t ≠ t') : g ≠ g' := by
  rintro rfl
  unfold Has at h h'; rw [h] at h'; injection h' with h'; injection h' with _ ht; exact hne ht
end Has

theorem below_row {b : Nat} {a w : World} (h : Below b a w) {g : Nat} (hg : b ≤ g) (cs : Array Value) : Below b a (w.setRow g cs) :=
  ⟨h.os, h.tape, h.output, by rw [size_setRow]; exact h.size, fun k hk => (setRow_other w g k cs (by omega)).trans (h.block k hk)⟩
theorem below_drewN {b : Nat} {a w : World} (h : Below b a w) (n : Nat) : Below b a (w.drewN n) := ⟨h.os, h.tape, h.output, h.size, h.block⟩

theorem Has.mid {g : Nat} {t : TypeId} : ∀ (vs : List Value) (o : Nat) (w : World) (l : List Value), Has w g t l → o + vs.length ≤ l.length →
    Has (w.setCells g o vs) g t (l.take o ++ vs ++ l.drop (o + vs.length))
  | [], o, w, l, h, _ => by simpa [World.setCells] using h
  | v :: r, o, w, l, h, hl => by
    have h1 := Has.mid r (o + 1) _ _ (h.put o v) (by simp at hl ⊢; omega)
    simp only [List.length_cons] at hl
    have e1 : (l.set o v).take (o + 1) = l.take o ++ [v] := by
      rw [List.take_set, List.take_succ_eq_append_getElem (by omega), List.set_append_right _ _ (by rw [List.length_take]; omega)]
      simp [List.length_take, Nat.min_eq_left (show o ≤ l.length by omega)]
    have e2 : (l.set o v).drop (o + 1 + r.length) = l.drop (o + (r.length + 1)) := by
      rw [List.drop_set_of_lt (by omega)]; congr 1; omega
    rw [e1, e2] at h1
    simpa [World.setCells] using h1
theorem below_setCells {b : Nat} {a : World} {g : Nat} (hg : b ≤ g) : ∀ (vs : List Value) (o : Nat) (w : World), Below b a w → Below b a (w.setCells g o vs)
  | [], _, _, h => h
  | v :: r, o, _, h => below_setCells hg r (o + 1) _ (h.setCell hg v)
theorem Has.there {w : World} {g : Nat} {t : TypeId} {l : List Value} (h : Has w g t l) (o n : Nat) (hn : o + n ≤ l.length) : w.there g o n := fun j hj =>
  ⟨by rw [h.cell, List.getElem?_eq_getElem (by omega)]; rfl, h.free _⟩

/-- A slice that reads as a list of one-cell values, laid below block b. -/
def Sees (w : World) (b : Nat) (p : Option Addr) (l : List Value) : Prop :=
  0 < l.length → ∃ a, p = some a ∧ a.block < b ∧ ∀ j u, l[j]? = some u → w.cell? (a.add j) = some u
theorem add_block (a : Addr) (n : Nat) : (a.add n).block = a.block := by unfold Addr.add; split <;> rfl
theorem add_add (a : Addr) (i j : Nat) : (a.add i).add j = a.add (i + j) := by
  unfold Addr.add
  by_cases hi : i = 0 <;> by_cases hj : j = 0 <;> simp [hi, hj, Nat.add_assoc]
namespace Sees
variable {w w' : World} {b b' : Nat} {p : Option Addr} {l : List Value}
theorem nil (w : World) (b : Nat) (p : Option Addr) : Sees w b p [] := fun h => absurd h (by simp)
theorem get (h : Sees w b p l) (hl : 0 < l.length) : ∃ a, p = some a ∧ a.block < b ∧ ∀ j u, l[j]? = some u → w.cell? (a.add j) = some u := h hl
theorem keep' (h : Sees w b p l) (hk : ∀ a : Addr, a.block < b → w'.cell? a = w.cell? a) : Sees w' b p l := fun hl => by
  obtain ⟨a, e, hb, hc⟩ := h hl
  exact ⟨a, e, hb, fun j u hu => (hk _ (by rw [add_block]; exact hb)).trans (hc j u hu)⟩
theorem keep (h : Sees w b p l) (hb : Below b w w') : Sees w' b p l := h.keep' fun _ hp => hb.cell hp
theorem more (h : Sees w b p l) (hb : b ≤ b') : Sees w b' p l := fun hl => by
  obtain ⟨a, e, hb', hc⟩ := h hl
  exact ⟨a, e, by omega, hc⟩
theorem cut (h : Sees w b p l) {k cap : Nat} (hk : l.length ≤ cap) : Sees w b (if cap = k then p else p.map (·.add k)) (l.drop k) := fun hl => by
  have hl' : k < l.length := by rw [List.length_drop] at hl; omega
  obtain ⟨a, rfl, hb, hc⟩ := h (by omega)
  rw [if_neg (by omega)]
  refine ⟨a.add k, rfl, by rw [add_block]; exact hb, fun j u hu => ?_⟩
  rw [add_add]; exact hc _ u (by rw [← hu, List.getElem?_drop])
theorem head (h : Sees w b p l) (k : Nat) : Sees w b p (l.take k) := fun hl => by
  obtain ⟨a, e, hb, hc⟩ := h (by rw [List.length_take] at hl; omega)
  refine ⟨a, e, hb, fun j u hu => hc j u ?_⟩
  rw [List.getElem?_take] at hu
  split at hu
  · exact hu
  · cases hu
theorem of_has {g : Nat} {t : TypeId} (h : Has w g t l) (hg : g < b) : Sees w b (some ⟨g, 0, none⟩) l := fun _ =>
  ⟨_, rfl, hg, fun j u hu => by
    have e : (Addr.add ⟨g, 0, none⟩ j) = ⟨g, j, none⟩ := by unfold Addr.add; split <;> simp_all
    rw [e]; exact h.cellv hu⟩
end Sees
end Go.Proofs.YtnkcehmgagpadaaDoor
