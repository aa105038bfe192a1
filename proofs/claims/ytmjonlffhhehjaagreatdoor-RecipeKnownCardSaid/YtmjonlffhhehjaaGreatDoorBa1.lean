/- A block of memory that is known whole, and what keeps it. No condition. -/
import Derived.WalkKit
import Derived.Deep.Draws
import Derived.Deep.MidRow
import Derived.Laws.CopyOwn
import Derived.Lib.Hide
import Derived.Deep.RegionHeld3
import Derived.Test.YtmjonlffhhehjaaGreatDoorProg
import Derived.Stop.BytesEq
import Derived.Sort.Grow
import Derived.Laws.Rows
import Derived.Tactics
import Derived.KernelRfl
import Derived.Deep.DeepCutAuto
import Derived.Deep.Cut
import Derived.Deep.QuietTactic
import Derived.IntWalk
import Derived.LoopIn
import Derived.LoopNIn
import Derived.OwnWalk
import Derived.OwnWalkIn
import Derived.Laws.AppendOwn
import Derived.Laws.OwnMore
import Derived.Great.BuildSlice
import Derived.Laws.AppendOwnNone
import Derived.Laws.MakeOwn
import Derived.Lib.LazyBuf
import Derived.Laws.BytesString
namespace Go.Proofs.YtmjonlffhhehjaaGreatDoor
open Go.RowKit

theorem one32 (l : List Value) (h : ∀ v ∈ l, v.oneCell' = true) : l.toArray.all (·.oneCell') = true :=
  Array.all_eq_true_iff_forall_mem.2 (fun v hv => h v (by simpa using hv))

/-- Block g holds just these cells, all of them to be written. -/
def Has (w : World) (g : Nat) (t : TypeId) (l : List Value) : Prop := w.heap[g]? = some (.cells l.toArray t (0, 0))

namespace Has
variable {w w' : World} {g : Nat} {t : TypeId} {l : List Value}
theorem lt (h : Has w g t l) : g < w.heap.size := by
  unfold Has at h
  exact (Array.getElem?_eq_some_iff.1 h).1
theorem cell (h : Has w g t l) (i : Nat) : w.cell? ⟨g, i, none⟩ = l[i]? := by
  rw [cell_of_row w g i l.toArray t (0, 0) h]; simp
theorem cellv (h : Has w g t l) {i : Nat} {v : Value} (e : l[i]? = some v) : w.cell? ⟨g, i, none⟩ = some v := (h.cell i).trans e
theorem free (h : Has w g t l) (i : Nat) : w.frozen? ⟨g, i, none⟩ = false := by
  unfold Has at h; simp [World.frozen?, h]
theorem made (w : World) (t : TypeId) (cs : Array Value) : Has (w.alloc (.cells cs t)) w.heap.size t cs.toList := by
  have := heap_alloc_new w (.cells cs t); unfold Has; simpa using this
theorem made' (w : World) (t : TypeId) (cs : Array Value) (l : List Value) (e : cs = l.toArray) : Has (w.alloc (.cells cs t)) w.heap.size t l := by
  subst e; exact heap_alloc_new w _
theorem made1 (w : World) (o : Obj) (t : TypeId) (cs : Array Value) (l : List Value) (e : cs = l.toArray) : Has ((w.alloc o).alloc (.cells cs t)) (w.heap.size + 1) t l := by
  have := made' (w.alloc o) t cs l e
  simpa using this
theorem drew (h : Has w g t l) : Has w.drew g t l := h
theorem drewN (h : Has w g t l) (n : Nat) : Has (w.drewN n) g t l := h
theorem alloc (h : Has w g t l) (o : Obj) : Has (w.alloc o) g t l := (Below.heap_alloc w o g h.lt).trans h
theorem put (h : Has w g t l) (i : Nat) (u : Value) : Has (w.setCell ⟨g, i, none⟩ u) g t (l.set i u) := by
  unfold Has at h ⊢; simp [World.setCell, Array.getElem?_modify, h]
theorem off (h : Has w g t l) {p : Addr} (hp : g ≠ p.block) (u : Value) : Has (w.setCell p u) g t l := (Below.heap_setCell w p u g hp).trans h
theorem row (h : Has w g t l) (cs : Array Value) : Has (w.setRow g cs) g t cs.toList := by
  have := setRow_heap w g l.toArray cs t (0, 0) h
  unfold Has; simpa using this
theorem rowl (h : Has w g t l) (l' : List Value) : Has (w.setRow g l'.toArray) g t l' := setRow_heap w g l.toArray l'.toArray t (0, 0) h
theorem offRow (h : Has w g t l) {g' : Nat} (hg : g ≠ g') (cs : Array Value) : Has (w.setRow g' cs) g t l := (setRow_other w g' g cs hg).trans h
theorem keep {b : Nat} (h : Has w g t l) (hb : Below b w w') (hg : g < b) : Has w' g t l := (hb.block g hg).trans h
theorem apart {g' : Nat} {t' : TypeId} {l' : List Value} (h : Has w g t l) (h' : Has w g' t' l') (hne : t ≠ t') : g ≠ g' := by
  rintro rfl
  unfold Has at h h'; rw [h] at h'; injection h' with h'; injection h' with _ ht; exact hne ht
theorem apartl {g' : Nat} {t' : TypeId} {l' : List Value} (h : Has w g t l) (h' : Has w g' t' l') (hne : l.length ≠ l'.length) : g ≠ g' := by
  rintro rfl
  unfold Has at h h'; rw [h] at h'; injection h' with h'; injection h' with hl _
  exact hne (by have := congrArg Array.size hl; simpa using this)
end Has

theorem below_row {b : Nat} {a w : World} (h : Below b a w) {g : Nat} (hg : b ≤ g) (cs : Array Value) : Below b a (w.setRow g cs) :=
  ⟨h.os, h.tape, h.output, by rw [size_setRow]; exact h.size, fun k hk => (setRow_other w g k cs (by omega)).trans (h.block k hk)⟩
theorem below_drewN {b : Nat} {a w : World} (h : Below b a w) (n : Nat) : Below b a (w.drewN n) := ⟨h.os, h.tape, h.output, h.size, h.block⟩

theorem Has.mid {g : Nat} {t : TypeId} : ∀ (vs : List Value) (o : Nat) (w : World) (l : List Value), Has w g t l → o + vs.length ≤ l.length →
    Has (w.setCells g o vs) g t (l.take o ++ vs ++ l.drop (o + vs.length))
  | [], o, w, l, h, _ => by simpa [World.setCells] using h
  | v :: r, o, w, l, h, hl => by
    have h1 := Has.mid r (o + 1) _ _ (h.put o v) (by simp at hl ⊢; omega)
    simp only [List.length_cons] at hl
    have e1 : (l.set o v).take (o + 1) = l.take o ++ [v] := by
      rw [List.take_set, List.take_succ_eq_append_getElem (by omega), List.set_append_right _ _ (by rw [List.length_take]; omega)]
      simp [List.length_take, Nat.min_eq_left (show o ≤ l.length by omega)]
    have e2 : (l.set o v).drop (o + 1 + r.length) = l.drop (o + (r.length + 1)) := by
      rw [List.drop_set_of_lt (by omega)]; congr 1; omega
    rw [e1, e2] at h1
    simpa [World.setCells] using h1
theorem Has.offMid {g g' : Nat} {t : TypeId} {l : List Value} (hg : g ≠ g') : ∀ (vs : List Value) (o : Nat) (w : World), Has w g t l → Has (w.setCells g' o vs) g t l
  | [], _, _, h => h
  | v :: r, o, _, h => Has.offMid hg r (o + 1) _ (h.off hg v)
theorem below_setCells {b : Nat} {a : World} {g : Nat} (hg : b ≤ g) : ∀ (vs : List Value) (o : Nat) (w : World), Below b a w → Below b a (w.setCells g o vs)
  | [], _, _, h => h
  | v :: r, o, _, h => below_setCells hg r (o + 1) _ (h.setCell hg v)
theorem Has.there {w : World} {g : Nat} {t : TypeId} {l : List Value} (h : Has w g t l) (o n : Nat) (hn : o + n ≤ l.length) : w.there g o n := fun j hj =>
  ⟨by rw [h.cell, List.getElem?_eq_getElem (by omega)]; rfl, h.free _⟩

/-- A slice that reads as a list of one-cell values, laid below block b. -/
def Sees (w : World) (b : Nat) (p : Option Addr) (l : List Value) : Prop :=
  0 < l.length → ∃ a, p = some a ∧ a.block < b ∧ ∀ j u, l[j]? = some u → w.cell? (a.add j) = some u
theorem add_block (a : Addr) (n : Nat) : (a.add n).block = a.block := by unfold Addr.add; split <;> rfl
theorem add_add (a : Addr) (i j : Nat) : (a.add i).add j = a.add (i + j) := by
  unfold Addr.add
  by_cases hi : i = 0 <;> by_cases hj : j = 0 <;> simp [hi, hj, Nat.add_assoc]
namespace Sees
variable {w w' : World} {b b' : Nat} {p : Option Addr} {l : List Value}
theorem nil (w : World) (b : Nat) (p : Option Addr) : Sees w b p [] := fun h => absurd h (by simp)
theorem get (h : Sees w b p l) (hl : 0 < l.length) : ∃ a, p = some a ∧ a.block < b ∧ ∀ j u, l[j]? = some u → w.cell? (a.add j) = some u := h hl
theorem keep' (h : Sees w b p l) (hk : ∀ a : Addr, a.block < b → w'.cell? a = w.cell? a) : Sees w' b p l := fun hl => by
  obtain ⟨a, e, hb, hc⟩ := h hl
  exact ⟨a, e, hb, fun j u hu => (hk _ (by rw [add_block]; exact hb)).trans (hc j u hu)⟩
theorem keep (h : Sees w b p l) (hb : Below b w w') : Sees w' b p l := h.keep' fun _ hp => hb.cell hp
theorem more (h : Sees w b p l) (hb : b ≤ b') : Sees w b' p l := fun hl => by
  obtain ⟨a, e, hb', hc⟩ := h hl
  exact ⟨a, e, by omega, hc⟩
theorem cut (h : Sees w b p l) {k cap : Nat} (hk : l.length ≤ cap) : Sees w b (if cap = k then p else p.map (·.add k)) (l.drop k) := fun hl => by
  have hl' : k < l.length := by rw [List.length_drop] at hl; omega
  obtain ⟨a, rfl, hb, hc⟩ := h (by omega)
  rw [if_neg (by omega)]
  refine ⟨a.add k, rfl, by rw [add_block]; exact hb, fun j u hu => ?_⟩
  rw [add_add]; exact hc _ u (by rw [← hu, List.getElem?_drop])
theorem head (h : Sees w b p l) (k : Nat) : Sees w b p (l.take k) := fun hl => by
  obtain ⟨a, e, hb, hc⟩ := h (by rw [List.length_take] at hl; omega)
  refine ⟨a, e, hb, fun j u hu => hc j u ?_⟩
  rw [List.getElem?_take] at hu
  split at hu
  · exact hu
  · cases hu
theorem of_has {g : Nat} {t : TypeId} (h : Has w g t l) (hg : g < b) : Sees w b (some ⟨g, 0, none⟩) l := fun _ =>
  ⟨_, rfl, hg, fun j u hu => by
    have e : (Addr.add ⟨g, 0, none⟩ j) = ⟨g, j, none⟩ := by unfold Addr.add; split <;> simp_all
    rw [e]; exact h.cellv hu⟩
end Sees
end Go.Proofs.YtmjonlffhhehjaaGreatDoor
/- A region that draws its order, walked step by step under a condition S on the memory: an operation that yields the same in every world that meets S may be taken first; else whichever may come up is carried out, and S shown anew. No condition. -/
namespace Go.Proofs.YtmjonlffhhehjaaGreatDoor
section
variable {P : Program} {lo : List Oper} {Q : Exit → Act → World → Prop} {S : World → Prop}
theorem held_start {id : Nat} {a : Act} {w : World} (S : World → Prop) (hm : P.follows .mixedOrders = true) (hS : S w.drew)
    (h : wpAnyH P .any lo.toArray (NoPanic Q) S lo.toArray.size (Array.replicate lo.toArray.size false) a w.drew) : (Code.region id lo.toArray true).wp P Q a w :=
  wp_region_noPanic (wp_region_held_drew hm hS fun _ => h)
theorem held_take (i : Nat) {fuel : Nat} {listed : Array Bool} {a : Act} {w : World} {o : Oper} {v : Value} (ho : lo[i]? = some o)
    (hc : (Region.noSelect lo.toArray && (Region.free .any lo.toArray listed i && (Region.ready .any lo.toArray listed).contains i)) = true) (hw : Region.wanted o (yielded lo.toArray a.tmps) = true) (hS : S w)
    (hy : ∀ w', S w' → (execOp a.eval o).run P w' = .ok (.value v) w')
    (h : wpAnyH P .any lo.toArray (NoPanic Q) S fuel (listed.setIfInBounds i true) (a.put o.dst v) w) : wpAnyH P .any lo.toArray (NoPanic Q) S (fuel + 1) listed a w := by
  simp only [Bool.and_eq_true] at hc
  exact wpAnyH_take (i := i) (oi := o) (v := v) (by simpa using ho) hc.1 hc.2.1 hc.2.2 (fun _ _ _ h => h) (.inl ⟨hw, hy⟩) hS h
theorem held_step {i : Nat} {fuel : Nat} {listed : Array Bool} {a : Act} {w : World} {o : Oper} (ho : lo[i]? = some o) (hw : Region.wanted o (yielded lo.toArray a.tmps) = true)
    (h : ∀ K : Act → World → Prop, (∀ a w, (S w ∧ wpAnyH P .any lo.toArray (NoPanic Q) S fuel (listed.setIfInBounds i true) a w) → K a w) → o.wp P a w K (NoPanic Q)) :
    wpOp P lo.toArray (NoPanic Q) i (fun a' w' => S w' ∧ wpAnyH P .any lo.toArray (NoPanic Q) S fuel (listed.setIfInBounds i true) a' w') a w := by
  have hx := h _ (fun _ _ h => h)
  unfold wpOp
  rw [show lo.toArray[i]? = some o by simpa using ho]
  show if _ then _ else _
  rw [if_pos hw]
  exact .inl hx
theorem held_one (i : Nat) {fuel : Nat} {listed : Array Bool} {a : Act} {w : World} {o : Oper} (ho : lo[i]? = some o) (hr : Region.ready .any lo.toArray listed = [i]) (hw : Region.wanted o (yielded lo.toArray a.tmps) = true)
    (h : ∀ K : Act → World → Prop, (∀ a w, (S w ∧ wpAnyH P .any lo.toArray (NoPanic Q) S fuel (listed.setIfInBounds i true) a w) → K a w) → o.wp P a w K (NoPanic Q)) :
    wpAnyH P .any lo.toArray (NoPanic Q) S (fuel + 1) listed a w := by
  refine wpAnyH_all hr (by simp) (fun j hj => ?_)
  have hj : j = i := by simpa using hj
  subst hj
  exact held_step ho hw h
theorem held_two (i j : Nat) {fuel : Nat} {listed : Array Bool} {a : Act} {w : World} {o o' : Oper} (ho : lo[i]? = some o) (ho' : lo[j]? = some o') (hr : Region.ready .any lo.toArray listed = [i, j])
    (hw : Region.wanted o (yielded lo.toArray a.tmps) = true) (hw' : Region.wanted o' (yielded lo.toArray a.tmps) = true)
    (h : ∀ K : Act → World → Prop, (∀ a w, (S w ∧ wpAnyH P .any lo.toArray (NoPanic Q) S fuel (listed.setIfInBounds i true) a w) → K a w) → o.wp P a w K (NoPanic Q))
    (h' : ∀ K : Act → World → Prop, (∀ a w, (S w ∧ wpAnyH P .any lo.toArray (NoPanic Q) S fuel (listed.setIfInBounds j true) a w) → K a w) → o'.wp P a w K (NoPanic Q)) :
    wpAnyH P .any lo.toArray (NoPanic Q) S (fuel + 1) listed a w := by
  refine wpAnyH_all hr (by simp) (fun k hk => ?_)
  simp only [List.mem_cons, List.mem_nil_iff, or_false] at hk
  rcases hk with rfl | rfl
  · exact held_step ho hw h
  · exact held_step ho' hw' h'
theorem held_three (i j k : Nat) {fuel : Nat} {listed : Array Bool} {a : Act} {w : World} {o o' o'' : Oper} (ho : lo[i]? = some o) (ho' : lo[j]? = some o') (ho'' : lo[k]? = some o'') (hr : Region.ready .any lo.toArray listed = [i, j, k])
    (hw : Region.wanted o (yielded lo.toArray a.tmps) = true) (hw' : Region.wanted o' (yielded lo.toArray a.tmps) = true) (hw'' : Region.wanted o'' (yielded lo.toArray a.tmps) = true)
    (h : ∀ K : Act → World → Prop, (∀ a w, (S w ∧ wpAnyH P .any lo.toArray (NoPanic Q) S fuel (listed.setIfInBounds i true) a w) → K a w) → o.wp P a w K (NoPanic Q))
    (h' : ∀ K : Act → World → Prop, (∀ a w, (S w ∧ wpAnyH P .any lo.toArray (NoPanic Q) S fuel (listed.setIfInBounds j true) a w) → K a w) → o'.wp P a w K (NoPanic Q))
    (h'' : ∀ K : Act → World → Prop, (∀ a w, (S w ∧ wpAnyH P .any lo.toArray (NoPanic Q) S fuel (listed.setIfInBounds k true) a w) → K a w) → o''.wp P a w K (NoPanic Q)) :
    wpAnyH P .any lo.toArray (NoPanic Q) S (fuel + 1) listed a w := by
  refine wpAnyH_all hr (by simp) (fun l hl => ?_)
  simp only [List.mem_cons, List.mem_nil_iff, or_false] at hl
  rcases hl with rfl | rfl | rfl
  · exact held_step ho hw h
  · exact held_step ho' hw' h'
  · exact held_step ho'' hw'' h''
theorem held_done {fuel : Nat} {listed : Array Bool} {a : Act} {w : World} (hr : Region.ready .any lo.toArray listed = []) (h : Q .normal a w) : wpAnyH P .any lo.toArray (NoPanic Q) S fuel listed a w :=
  wpAnyH_done hr (show NoPanic Q .normal a w from h) fuel
end
end Go.Proofs.YtmjonlffhhehjaaGreatDoor
/- A region that draws its order, walked in one named order under a condition S on the memory: an operation that yields the same in every world that meets S may be taken first, another one where it alone may come up; a guarded one that is not wanted is passed over. No condition. -/
namespace Go.Proofs.YtmjonlffhhehjaaGreatDoor
section
variable {P : Program} {ops : Array Oper} {S : World → Prop} {Q : Exit → Act → World → Prop}
def wpOrs (P : Program) (ops : Array Oper) (S : World → Prop) (Q : Exit → Act → World → Prop) : List (Nat × Bool) → Act → World → Prop
  | [], a, w => Q .normal a w
  | (i, true) :: r, a, w => ∃ o v, ops[i]? = some o ∧ YieldsIf P ops S o v a ∧ wpOrs P ops S Q r (a.put o.dst v) w
  | (i, false) :: r, a, w => wpOp P ops Q i (fun a' w' => S w' ∧ wpOrs P ops S Q r a' w') a w
def orsB (md : Region.Mode) (ops : Array Oper) : List (Nat × Bool) → Array Bool → Bool
  | [], listed => (Region.ready md ops listed).isEmpty
  | (i, true) :: r, listed => Region.free md ops listed i && ((Region.ready md ops listed).contains i && orsB md ops r (listed.setIfInBounds i true))
  | (i, false) :: r, listed => decide (Region.ready md ops listed = [i]) && orsB md ops r (listed.setIfInBounds i true)
theorem wpAnyH_of_ors {md : Region.Mode} (hs : Region.noSelect ops = true) (hQ : ∀ c a d v w, Q (.panic c) (a.put d v) w → Q (.panic c) a w) :
    ∀ (l : List (Nat × Bool)) (fuel : Nat) (listed : Array Bool) (a : Act) (w : World), l.length ≤ fuel → orsB md ops l listed = true → S w → wpOrs P ops S Q l a w →
      wpAnyH P md ops Q S fuel listed a w
  | [], fuel, listed, a, w, _, hB, _, h => wpAnyH_done (by simpa [orsB] using hB) h fuel
  | (i, b) :: r, 0, _, _, _, hl, _, _, _ => absurd hl (by simp)
  | (i, true) :: r, fuel + 1, listed, a, w, hl, hB, hS, h => by
    obtain ⟨o, v, ho, hy, hr⟩ := h
    simp only [orsB, Bool.and_eq_true] at hB
    exact wpAnyH_take ho hs hB.1 hB.2.1 (fun c a w => hQ c a _ v w) hy hS (wpAnyH_of_ors hs hQ r fuel _ _ _ (by simpa using hl) hB.2.2 hS hr)
  | (i, false) :: r, fuel + 1, listed, a, w, hl, hB, hS, h => by
    simp only [orsB, Bool.and_eq_true, decide_eq_true_eq] at hB
    refine wpAnyH_all hB.1 (by simp) (fun j hj => ?_)
    have hj : j = i := by simpa using hj
    subst hj
    exact wpOp_mono (fun a' w' h' => ⟨h'.1, wpAnyH_of_ors hs hQ r fuel _ _ _ (by simpa using hl) hB.2 h'.1 h'.2⟩) h
def wpOrsL (P : Program) (ops : Array Oper) (S : World → Prop) (Q : Exit → Act → World → Prop) : List (Oper × Bool) → Act → World → Prop
  | [], a, w => Q .normal a w
  | (o, true) :: r, a, w => ∃ v, YieldsIf P ops S o v a ∧ wpOrsL P ops S Q r (a.put o.dst v) w
  | (o, false) :: r, a, w => if Region.wanted o (yielded ops a.tmps) then o.wp P a w (fun a' w' => S w' ∧ wpOrsL P ops S Q r a' w') Q ∨ (o.asks P a w ∧ LetsOut Q) else (S w ∧ wpOrsL P ops S Q r (a.put o.dst undef) w)
def pickOrs (l : List Oper) : List (Nat × Bool) → List (Oper × Bool)
  | [] => []
  | (i, b) :: r => match l[i]? with
    | some o => (o, b) :: pickOrs l r
    | none => pickOrs l r
theorem wpOrs_of_L (ops : Array Oper) : ∀ (l : List (Nat × Bool)) (a : Act) (w : World), (l.all fun x => decide (x.1 < ops.size)) = true →
    wpOrsL P ops S Q (pickOrs ops.toList l) a w → wpOrs P ops S Q l a w
  | [], _, _, _, h => h
  | (i, b) :: r, a, w, hl, h => by
    simp only [List.all_cons, Bool.and_eq_true, decide_eq_true_eq] at hl
    have ho : ops.toList[i]? = some ops[i] := by simp [hl.1]
    have ho' : ops[i]? = some ops[i] := by simp [hl.1]
    rw [pickOrs, ho] at h
    cases b with
    | true =>
      obtain ⟨v, hy, hr⟩ := h
      exact ⟨_, v, ho', hy, wpOrs_of_L ops r _ _ hl.2 hr⟩
    | false =>
      show wpOp P ops Q i (fun a' w' => S w' ∧ wpOrs P ops S Q r a' w') a w
      have h2 : wpOp P ops Q i (fun a' w' => S w' ∧ wpOrsL P ops S Q (pickOrs ops.toList r) a' w') a w := by unfold wpOp; rw [ho']; exact h
      exact wpOp_mono (fun a' w' h' => ⟨h'.1, wpOrs_of_L ops r _ _ hl.2 h'.2⟩) h2
theorem ors_pure {o : Oper} {r : List (Oper × Bool)} {a : Act} {w : World} {v : Value} (hw : Region.wanted o (yielded ops a.tmps) = true)
    (hy : ∀ w', S w' → (execOp a.eval o).run P w' = .ok (.value v) w') (h : wpOrsL P ops S Q r (a.put o.dst v) w) : wpOrsL P ops S Q ((o, true) :: r) a w :=
  ⟨v, .inl ⟨hw, hy⟩, h⟩
theorem ors_skip {o : Oper} {r : List (Oper × Bool)} {a : Act} {w : World} (hw : Region.wanted o (yielded ops a.tmps) = false)
    (h : wpOrsL P ops S Q r (a.put o.dst undef) w) : wpOrsL P ops S Q ((o, true) :: r) a w :=
  ⟨undef, .inr ⟨hw, rfl⟩, h⟩
theorem ors_step {o : Oper} {r : List (Oper × Bool)} {a : Act} {w : World} (hw : Region.wanted o (yielded ops a.tmps) = true)
    (h : ∀ K : Act → World → Prop, (∀ a w, S w ∧ wpOrsL P ops S Q r a w → K a w) → o.wp P a w K Q) : wpOrsL P ops S Q ((o, false) :: r) a w := by
  have := h _ (fun _ _ h => h)
  show if _ then _ else _
  rw [if_pos hw]
  exact .inl this
theorem ors_pass {o : Oper} {r : List (Oper × Bool)} {a : Act} {w : World} (hw : Region.wanted o (yielded ops a.tmps) = false) (hS : S w)
    (h : wpOrsL P ops S Q r (a.put o.dst undef) w) : wpOrsL P ops S Q ((o, false) :: r) a w := by
  show if _ then _ else _
  rw [if_neg (by rw [hw]; simp)]
  exact ⟨hS, h⟩
/-- The region is shown not to panic. -/
theorem wp_region_ors (S : World → Prop) {id : Nat} {a : Act} {w : World} {lo : List Oper} (l : List (Nat × Bool)) (hm : P.follows .mixedOrders = true) (hs : Region.noSelect lo.toArray = true)
    (hB : (decide (l.length ≤ lo.toArray.size) && (orsB .any lo.toArray l (Array.replicate lo.toArray.size false) && l.all fun x => decide (x.1 < lo.toArray.size))) = true)
    (hS : S w.drew) (h : wpOrsL P lo.toArray S (NoPanic Q) (pickOrs lo l) a w.drew) : (Code.region id lo.toArray true).wp P Q a w := by
  simp only [Bool.and_eq_true, decide_eq_true_eq] at hB
  exact wp_region_noPanic (wp_region_held_drew hm hS fun hS => wpAnyH_of_ors hs (fun _ _ _ _ _ h => h) l _ _ _ _ hB.1 hB.2.1 hS (wpOrs_of_L _ _ _ _ hB.2.2 h))
theorem ors_nil {a : Act} {w : World} (h : Q .normal a w) : wpOrsL P ops S (NoPanic Q) [] a w := h
end
end Go.Proofs.YtmjonlffhhehjaaGreatDoor
/- Plain laws: Go's arithmetic on uint32 and uint8 is that of bit vectors. No condition. -/
namespace Go.Proofs.YtmjonlffhhehjaaGreatDoor

/-- A word, a byte as Go's integers. -/
def N (x : BitVec 32) : Int := (x.toNat : Int)
def B (x : BitVec 8) : Int := (x.toNat : Int)

theorem N_nonneg (x : BitVec 32) : 0 ≤ N x := by unfold N; omega
theorem N_lt (x : BitVec 32) : N x < 4294967296 := by unfold N; have := x.isLt; omega
theorem B_nonneg (x : BitVec 8) : 0 ≤ B x := by unfold B; omega
theorem B_lt (x : BitVec 8) : B x < 256 := by unfold B; have := x.isLt; omega
theorem N_inj {x y : BitVec 32} (h : N x = N y) : x = y := by unfold N at h; exact BitVec.eq_of_toNat_eq (by omega)
theorem B_inj {x y : BitVec 8} (h : B x = B y) : x = y := by unfold B at h; exact BitVec.eq_of_toNat_eq (by omega)
theorem B_ofNat (n : Nat) (h : n < 256) : (n : Int) = B (BitVec.ofNat 8 n) := by unfold B; simp; omega
theorem N_ofNat (n : Nat) (h : n < 4294967296) : (n : Int) = N (BitVec.ofNat 32 n) := by unfold N; simp; omega

theorem ofInt_N (x : BitVec 32) : BitVec.ofInt 32 (N x) = x := by unfold N; rw [BitVec.ofInt_natCast, BitVec.ofNat_toNat, BitVec.setWidth_eq]
theorem ofInt_B (x : BitVec 8) : BitVec.ofInt 8 (B x) = x := by unfold B; rw [BitVec.ofInt_natCast, BitVec.ofNat_toNat, BitVec.setWidth_eq]
theorem wrap_N (x : BitVec 32) : IntKind.u32.wrap (x.toNat : Int) = N x := by rw [IntKind.wrap_u32']; unfold N; have := x.isLt; omega
theorem wrap_B (x : BitVec 8) : IntKind.u8.wrap (x.toNat : Int) = B x := by rw [IntKind.wrap_u8']; unfold B; have := x.isLt; omega

theorem N_and (x y : BitVec 32) : bits .and .u32 (N x) (N y) = N (x &&& y) := by
  show IntKind.u32.wrap ((BitVec.ofInt 32 (N x) &&& BitVec.ofInt 32 (N y)).toNat : Int) = _
  rw [ofInt_N, ofInt_N, wrap_N]
theorem N_or (x y : BitVec 32) : bits .or .u32 (N x) (N y) = N (x ||| y) := by
  show IntKind.u32.wrap ((BitVec.ofInt 32 (N x) ||| BitVec.ofInt 32 (N y)).toNat : Int) = _
  rw [ofInt_N, ofInt_N, wrap_N]
theorem N_xor (x y : BitVec 32) : bits .xor .u32 (N x) (N y) = N (x ^^^ y) := by
  show IntKind.u32.wrap ((BitVec.ofInt 32 (N x) ^^^ BitVec.ofInt 32 (N y)).toNat : Int) = _
  rw [ofInt_N, ofInt_N, wrap_N]
theorem N_not (x : BitVec 32) : bits .xor .u32 4294967295 (N x) = N (~~~x) := by
  have : (4294967295 : Int) = N (BitVec.allOnes 32) := rfl
  rw [this, N_xor, BitVec.allOnes_xor]
theorem N_not' (x : BitVec 32) : bits .xor .u32 IntKind.u32.max (N x) = N (~~~x) := N_not x
theorem u32_signed : IntKind.u32.signed = false := rfl
theorem u8_signed : IntKind.u8.signed = false := rfl
theorem N_add (x y : BitVec 32) : IntKind.u32.wrap (N x + N y) = N (x + y) := by
  rw [IntKind.wrap_u32']; unfold N; rw [BitVec.toNat_add]; omega
theorem N_shl (x : BitVec 32) (k : Nat) : IntKind.u32.wrap (N x * 2 ^ k) = N (x <<< k) := by
  rw [IntKind.wrap_u32']; unfold N; rw [BitVec.toNat_shiftLeft, Nat.shiftLeft_eq]; simp
theorem N_shr (x : BitVec 32) (k : Nat) : N x / 2 ^ k = N (x >>> k) := by
  unfold N; rw [BitVec.toNat_ushiftRight, Nat.shiftRight_eq_div_pow]; simp
theorem B_and (x y : BitVec 8) : bits .and .u8 (B x) (B y) = B (x &&& y) := by
  show IntKind.u8.wrap ((BitVec.ofInt 8 (B x) &&& BitVec.ofInt 8 (B y)).toNat : Int) = _
  rw [ofInt_B, ofInt_B, wrap_B]
theorem B_or (x y : BitVec 8) : bits .or .u8 (B x) (B y) = B (x ||| y) := by
  show IntKind.u8.wrap ((BitVec.ofInt 8 (B x) ||| BitVec.ofInt 8 (B y)).toNat : Int) = _
  rw [ofInt_B, ofInt_B, wrap_B]
theorem B_xor (x y : BitVec 8) : bits .xor .u8 (B x) (B y) = B (x ^^^ y) := by
  show IntKind.u8.wrap ((BitVec.ofInt 8 (B x) ^^^ BitVec.ofInt 8 (B y)).toNat : Int) = _
  rw [ofInt_B, ofInt_B, wrap_B]
theorem B_add (x y : BitVec 8) : IntKind.u8.wrap (B x + B y) = B (x + y) := by
  rw [IntKind.wrap_u8']; unfold B; rw [BitVec.toNat_add]; omega
theorem B_shl (x : BitVec 8) (k : Nat) : IntKind.u8.wrap (B x * 2 ^ k) = B (x <<< k) := by
  rw [IntKind.wrap_u8']; unfold B; rw [BitVec.toNat_shiftLeft, Nat.shiftLeft_eq]; simp
theorem B_shr (x : BitVec 8) (k : Nat) : B x / 2 ^ k = B (x >>> k) := by
  unfold B; rw [BitVec.toNat_ushiftRight, Nat.shiftRight_eq_div_pow]; simp
/-- A byte as a word; a word's low byte. -/
def w8 (x : BitVec 8) : BitVec 32 := x.setWidth 32
def b32 (x : BitVec 32) : BitVec 8 := x.setWidth 8
theorem N_of_B (x : BitVec 8) : IntKind.u32.wrap (B x) = N (w8 x) := by
  rw [IntKind.wrap_u32']; unfold B N w8; rw [BitVec.toNat_setWidth]; simp
theorem N_w8 (x : BitVec 8) : B x = N (w8 x) := by
  unfold B N w8; rw [BitVec.toNat_setWidth]; have := x.isLt; omega
theorem B_of_N (x : BitVec 32) : IntKind.u8.wrap (N x) = B (b32 x) := by
  rw [IntKind.wrap_u8']; unfold B N b32; rw [BitVec.toNat_setWidth]; simp

theorem N_shl24 (x : BitVec 32) : IntKind.u32.wrap (N x * 16777216) = N (x <<< 24) := N_shl x 24
theorem N_shl16 (x : BitVec 32) : IntKind.u32.wrap (N x * 65536) = N (x <<< 16) := N_shl x 16
theorem N_shl8 (x : BitVec 32) : IntKind.u32.wrap (N x * 256) = N (x <<< 8) := N_shl x 8
theorem N_shr3 (x : BitVec 32) : N x / 8 = N (x >>> 3) := N_shr x 3
theorem N_shr10 (x : BitVec 32) : N x / 1024 = N (x >>> 10) := N_shr x 10
theorem N_shr8 (x : BitVec 32) : N x / 256 = N (x >>> 8) := N_shr x 8
theorem N_shr16 (x : BitVec 32) : N x / 65536 = N (x >>> 16) := N_shr x 16
theorem N_shr24 (x : BitVec 32) : N x / 16777216 = N (x >>> 24) := N_shr x 24
theorem N_sr (x : BitVec 32) (yk : IntKind) (k : Nat) (hk : k ≤ 32) (y : Int) (hy : y = (k : Int)) : Op.shift .shr .u32 (N x) yk y = pure (.int .u32 (N (x >>> k))) := by
  subst hy
  rw [shift_shr_any _ _ _ _ (by omega)]
  have : min ((k : Int).toNat) IntKind.u32.bits = k := by show min _ 32 = k; omega
  rw [this, N_shr]
theorem N_sr3 (x : BitVec 32) (yk : IntKind) : Op.shift .shr .u32 (N x) yk 3 = pure (.int .u32 (N (x >>> 3))) := N_sr x yk 3 (by omega) _ rfl
theorem N_sr10 (x : BitVec 32) (yk : IntKind) : Op.shift .shr .u32 (N x) yk 10 = pure (.int .u32 (N (x >>> 10))) := N_sr x yk 10 (by omega) _ rfl
theorem N_sr8 (x : BitVec 32) (yk : IntKind) : Op.shift .shr .u32 (N x) yk 8 = pure (.int .u32 (N (x >>> 8))) := N_sr x yk 8 (by omega) _ rfl
theorem N_sr16 (x : BitVec 32) (yk : IntKind) : Op.shift .shr .u32 (N x) yk 16 = pure (.int .u32 (N (x >>> 16))) := N_sr x yk 16 (by omega) _ rfl
theorem N_sr24 (x : BitVec 32) (yk : IntKind) : Op.shift .shr .u32 (N x) yk 24 = pure (.int .u32 (N (x >>> 24))) := N_sr x yk 24 (by omega) _ rfl
/-- A word turned to the right. -/
def rotr (x : BitVec 32) (k : Nat) : BitVec 32 := (x >>> k) ||| (x <<< (32 - k))
theorem rotr_of (x : BitVec 32) (k : Nat) (u v : Int) (hu : u = 2 ^ (32 - k)) (hv : v = 2 ^ k) :
    bits .or .u32 (IntKind.u32.wrap (N x * u)) (N x / v) = N (rotr x k) := by
  subst hu hv
  rw [N_shl, N_shr, N_or, BitVec.or_comm]; rfl
theorem rotr_of' (x : BitVec 32) (k : Nat) (u v : Int) (hu : u = 2 ^ (32 - k)) (hv : v = 2 ^ k) :
    bits .or .u32 (N x / v) (IntKind.u32.wrap (N x * u)) = N (rotr x k) := by
  subst hu hv
  rw [N_shl, N_shr, N_or]; rfl
end Go.Proofs.YtmjonlffhhehjaaGreatDoor
/- SHA-256 as plain Lean functions on lists of bytes (typed from FIPS 180-4), and small laws of them. No condition. -/
namespace Go.Proofs.YtmjonlffhhehjaaGreatDoor

def u32v (x : BitVec 32) : Value := .int .u32 (N x)
def u8v (x : BitVec 8) : Value := .int .u8 (B x)

def at8 (l : List (BitVec 8)) (i : Nat) : BitVec 8 := l.getD i 0
def at32 (l : List (BitVec 32)) (i : Nat) : BitVec 32 := l.getD i 0
theorem at8_of (l : List (BitVec 8)) (i : Nat) (h : i < l.length) : (l.map u8v)[i]? = some (.int .u8 (B (at8 l i))) := by
  rw [List.getElem?_map, List.getElem?_eq_getElem h]
  simp [at8, u8v, List.getD_eq_getElem?_getD, List.getElem?_eq_getElem h]
theorem at32_of (l : List (BitVec 32)) (i : Nat) (h : i < l.length) : (l.map u32v)[i]? = some (.int .u32 (N (at32 l i))) := by
  rw [List.getElem?_map, List.getElem?_eq_getElem h]
  simp [at32, u32v, List.getD_eq_getElem?_getD, List.getElem?_eq_getElem h]
def word4 (a b c d : BitVec 8) : BitVec 32 := (w8 a <<< 24) ||| (w8 b <<< 16) ||| (w8 c <<< 8) ||| w8 d
def low (x : BitVec 32) : BitVec 32 := rotr x 7 ^^^ rotr x 18 ^^^ (x >>> 3)
def high (x : BitVec 32) : BitVec 32 := rotr x 17 ^^^ rotr x 19 ^^^ (x >>> 10)
def wordAt (blk : List (BitVec 8)) (k : Nat) : BitVec 32 :=
  word4 (at8 blk (4 * k)) (at8 blk (4 * k + 1)) (at8 blk (4 * k + 2)) (at8 blk (4 * k + 3))
def nextWord (l : List (BitVec 32)) : BitVec 32 :=
  at32 l (l.length - 16) + low (at32 l (l.length - 15)) + at32 l (l.length - 7) + high (at32 l (l.length - 2))
/-- The first k words of a block's schedule. -/
def words (blk : List (BitVec 8)) : Nat → List (BitVec 32)
  | 0 => []
  | k + 1 => words blk k ++ [if k < 16 then wordAt blk k else nextWord (words blk k)]
theorem words_length (blk : List (BitVec 8)) (k : Nat) : (words blk k).length = k := by
  induction k with
  | zero => rfl
  | succ k ih => simp [words, ih]
theorem words_prefix (blk : List (BitVec 8)) (k n : Nat) : words blk k <+: words blk (k + n) := by
  induction n with
  | zero => exact List.prefix_refl _
  | succ n ih => exact ih.trans (by rw [show k + (n + 1) = (k + n) + 1 from rfl, words]; exact List.prefix_append _ _)
theorem words_at (blk : List (BitVec 8)) (j k n : Nat) (hj : j < k) (hn : k ≤ n) : at32 (words blk n) j = at32 (words blk k) j := by
  unfold at32
  obtain ⟨d, rfl⟩ := Nat.le.dest hn
  obtain ⟨t, ht⟩ := words_prefix blk k d
  rw [← ht, List.getD_eq_getElem?_getD, List.getD_eq_getElem?_getD, List.getElem?_append_left (by rw [words_length]; exact hj)]

/-- A row of words of which the first ones are known, the others zero. -/
def zrow (l : List (BitVec 32)) : List Value := (l ++ List.replicate (64 - l.length) 0).map u32v
theorem zrow_nil : zrow [] = List.replicate 64 (.int .u32 0) := by simp [zrow, u32v, N]
theorem zrow_length (l : List (BitVec 32)) (h : l.length ≤ 64) : (zrow l).length = 64 := by simp [zrow]; omega
theorem zrow_get (l : List (BitVec 32)) (j : Nat) (h : j < l.length) : (zrow l)[j]? = some (.int .u32 (N (at32 l j))) := by
  unfold zrow
  rw [List.getElem?_map, List.getElem?_append_left h, List.getElem?_eq_getElem h]
  simp [u32v, at32, List.getD_eq_getElem?_getD, List.getElem?_eq_getElem h]
theorem zrow_get0 (l : List (BitVec 32)) (j : Nat) (h : l.length ≤ j) (h' : j < 64) : (zrow l)[j]? = some (.int .u32 0) := by
  unfold zrow
  rw [List.getElem?_map, List.getElem?_append_right h, List.getElem?_replicate]
  rw [if_pos (by omega)]; simp [u32v, N]
theorem zrow_set (l : List (BitVec 32)) (x : BitVec 32) (h : l.length < 64) : (zrow l).set l.length (u32v x) = zrow (l ++ [x]) := by
  unfold zrow
  apply List.ext_getElem?
  intro j
  obtain ⟨m, hm⟩ : ∃ m, 64 - l.length = m + 1 := ⟨64 - l.length - 1, by omega⟩
  have hm' : 64 - (l ++ [x]).length = m := by simp; omega
  rw [hm, hm', List.replicate_succ, List.getElem?_set]
  by_cases hj : l.length = j
  · subst hj; simp
  · rw [if_neg hj]
    simp only [List.getElem?_map, List.append_assoc, List.singleton_append]
    rcases Nat.lt_or_ge j l.length with h1 | h1
    · rw [List.getElem?_append_left h1, List.getElem?_append_left h1]
    · rw [List.getElem?_append_right h1, List.getElem?_append_right h1]
      obtain ⟨i, hi⟩ : ∃ i, j - l.length = i + 1 := ⟨j - l.length - 1, by omega⟩
      rw [hi]; simp

theorem zrow_put (l : List (BitVec 32)) (x : BitVec 32) (k : Nat) (hk : l.length = k) (h : k < 64) : (zrow l).set k (u32v x) = zrow (l ++ [x]) := by
  subst hk; exact zrow_set l x h
theorem zrow_full (l : List (BitVec 32)) (h : l.length = 64) : zrow l = l.map u32v := by simp [zrow, h]
theorem words_lo (blk : List (BitVec 8)) (k : Nat) (h : k < 16) : words blk (k + 1) = words blk k ++ [wordAt blk k] := by rw [words, if_pos h]
theorem words_hi (blk : List (BitVec 8)) (k : Nat) (h : 16 ≤ k) : words blk (k + 1) = words blk k ++
    [at32 (words blk k) (k - 16) + low (at32 (words blk k) (k - 15)) + at32 (words blk k) (k - 7) + high (at32 (words blk k) (k - 2))] := by
  rw [words, if_neg (by omega), nextWord, words_length]
theorem u32v_one (l : List (BitVec 32)) : (l.map u32v).toArray.all (·.oneCell') = true :=
  Array.all_eq_true_iff_forall_mem.2 (fun v hv => by
    have : v ∈ l.map u32v := by simpa using hv
    obtain ⟨x, _, rfl⟩ := List.mem_map.1 this
    rfl)
theorem u8v_one (l : List (BitVec 8)) : (l.map u8v).toArray.all (·.oneCell') = true :=
  Array.all_eq_true_iff_forall_mem.2 (fun v hv => by
    have : v ∈ l.map u8v := by simpa using hv
    obtain ⟨x, _, rfl⟩ := List.mem_map.1 this
    rfl)
/-- A row of n bytes of which the first ones are known, the others zero. -/
def brow (n : Nat) (l : List (BitVec 8)) : List Value := (l ++ List.replicate (n - l.length) 0).map u8v
theorem brow_nil (n : Nat) : brow n [] = List.replicate n (.int .u8 0) := by simp [brow, u8v, B]
theorem brow_length (n : Nat) (l : List (BitVec 8)) (h : l.length ≤ n) : (brow n l).length = n := by simp [brow]; omega
theorem brow_full (n : Nat) (l : List (BitVec 8)) (h : l.length = n) : brow n l = l.map u8v := by simp [brow, h]
theorem brow_get (n : Nat) (l : List (BitVec 8)) (j : Nat) (h : j < l.length) : (brow n l)[j]? = some (.int .u8 (B (at8 l j))) := by
  unfold brow
  rw [List.getElem?_map, List.getElem?_append_left h, List.getElem?_eq_getElem h]
  simp [u8v, at8, List.getD_eq_getElem?_getD, List.getElem?_eq_getElem h]
theorem brow_get0 (n : Nat) (l : List (BitVec 8)) (j : Nat) (h : l.length ≤ j) (h' : j < n) : (brow n l)[j]? = some (.int .u8 0) := by
  unfold brow
  rw [List.getElem?_map, List.getElem?_append_right h, List.getElem?_replicate]
  rw [if_pos (by omega)]; simp [u8v, B]
theorem brow_set (n : Nat) (l : List (BitVec 8)) (x : BitVec 8) (h : l.length < n) : (brow n l).set l.length (u8v x) = brow n (l ++ [x]) := by
  unfold brow
  apply List.ext_getElem?
  intro j
  obtain ⟨m, hm⟩ : ∃ m, n - l.length = m + 1 := ⟨n - l.length - 1, by omega⟩
  have hm' : n - (l ++ [x]).length = m := by simp; omega
  rw [hm, hm', List.replicate_succ, List.getElem?_set]
  by_cases hj : l.length = j
  · subst hj; simp
  · rw [if_neg hj]
    simp only [List.getElem?_map, List.append_assoc, List.singleton_append]
    rcases Nat.lt_or_ge j l.length with h1 | h1
    · rw [List.getElem?_append_left h1, List.getElem?_append_left h1]
    · rw [List.getElem?_append_right h1, List.getElem?_append_right h1]
      obtain ⟨i, hi⟩ : ∃ i, j - l.length = i + 1 := ⟨j - l.length - 1, by omega⟩
      rw [hi]; simp
theorem brow_put (n : Nat) (l : List (BitVec 8)) (x : BitVec 8) (k : Nat) (hk : l.length = k) (h : k < n) : (brow n l).set k (u8v x) = brow n (l ++ [x]) := by
  subst hk; exact brow_set n l x h
/-- The eight words of a state. -/
structure St where
  a : BitVec 32
  b : BitVec 32
  c : BitVec 32
  d : BitVec 32
  e : BitVec 32
  f : BitVec 32
  g : BitVec 32
  h : BitVec 32
def St.list (s : St) : List (BitVec 32) := [s.a, s.b, s.c, s.d, s.e, s.f, s.g, s.h]
def St.vals (s : St) : List Value := s.list.map u32v

def turn3 (x : BitVec 32) (i j k : Nat) : BitVec 32 := rotr x i ^^^ rotr x j ^^^ rotr x k
def roundT (s : St) (k w : BitVec 32) : BitVec 32 := s.h + turn3 s.e 6 11 25 + ((s.e &&& s.f) ^^^ (~~~s.e &&& s.g)) + k + w
def roundU (s : St) : BitVec 32 := turn3 s.a 2 13 22 + ((s.a &&& s.b) ^^^ (s.a &&& s.c) ^^^ (s.b &&& s.c))
def St.round (s : St) (k w : BitVec 32) : St := ⟨roundT s k w + roundU s, s.a, s.b, s.c, s.d + roundT s k w, s.e, s.f, s.g⟩
def St.plus (s t : St) : St := ⟨s.a + t.a, s.b + t.b, s.c + t.c, s.d + t.d, s.e + t.e, s.f + t.f, s.g + t.g, s.h + t.h⟩

def keyNats : List Nat := [
  1116352408, 1899447441, 3049323471, 3921009573, 961987163, 1508970993, 2453635748, 2870763221,
  3624381080, 310598401, 607225278, 1426881987, 1925078388, 2162078206, 2614888103, 3248222580,
  3835390401, 4022224774, 264347078, 604807628, 770255983, 1249150122, 1555081692, 1996064986,
  2554220882, 2821834349, 2952996808, 3210313671, 3336571891, 3584528711, 113926993, 338241895,
  666307205, 773529912, 1294757372, 1396182291, 1695183700, 1986661051, 2177026350, 2456956037,
  2730485921, 2820302411, 3259730800, 3345764771, 3516065817, 3600352804, 4094571909, 275423344,
  430227734, 506948616, 659060556, 883997877, 958139571, 1322822218, 1537002063, 1747873779,
  1955562222, 2024104815, 2227730452, 2361852424, 2428436474, 2756734187, 3204031479, 3329325298]
def keys : List (BitVec 32) := keyNats.map (BitVec.ofNat 32)
theorem keys_length : keys.length = 64 := by simp [keys, keyNats]
def start : St := ⟨1779033703, 3144134277, 1013904242, 2773480762, 1359893119, 2600822924, 528734635, 1541459225⟩

/-- The state behind n rounds. -/
def rounds (blk : List (BitVec 8)) (s : St) : Nat → St
  | 0 => s
  | n + 1 => (rounds blk s n).round (at32 keys n) (at32 (words blk 64) n)
def mix (s : St) (blk : List (BitVec 8)) : St := s.plus (rounds blk s 64)
/-- A word's four bytes, the highest first; a state's thirty-two. -/
def fourOf (v : BitVec 32) : List (BitVec 8) := [b32 (v >>> 24), b32 (v >>> 16), b32 (v >>> 8), b32 v]
def tellTo (l : List (BitVec 32)) : Nat → List (BitVec 8)
  | 0 => []
  | n + 1 => tellTo l n ++ fourOf (at32 l n)
theorem tellTo_length (l : List (BitVec 32)) (n : Nat) : (tellTo l n).length = 4 * n := by
  induction n with
  | zero => rfl
  | succ n ih => simp [tellTo, ih, fourOf]; omega
def tell (s : St) : List (BitVec 8) := tellTo s.list 8
theorem tell_length (s : St) : (tell s).length = 32 := tellTo_length _ _
theorem rounds_succ (blk : List (BitVec 8)) (s : St) (n : Nat) : rounds blk s (n + 1) = (rounds blk s n).round (at32 keys n) (at32 (words blk 64) n) := rfl
end Go.Proofs.YtmjonlffhhehjaaGreatDoor
/- What stands under the texts on sets, at a seat that has package sum's. No condition. -/
/- A region that draws its order, walked in one order that is named: an operation that yields the same in every world may be taken first; another one where it alone may come up. No condition. -/
namespace Go.Proofs.YtmjonlffhhehjaaGreatDoor

section
variable {P : Program} {ops : Array Oper} {Q : Exit → Act → World → Prop}

/-- The operations by number; true: it yields the same in whatever world. -/
def wpOrd (P : Program) (ops : Array Oper) (Q : Exit → Act → World → Prop) : List (Nat × Bool) → Act → World → Prop
  | [], a, w => Q .normal a w
  | (i, true) :: r, a, w => ∃ o v, ops[i]? = some o ∧ YieldsIf P ops (fun _ => True) o v a ∧ wpOrd P ops Q r (a.put o.dst v) w
  | (i, false) :: r, a, w => wpOp P ops Q i (wpOrd P ops Q r) a w

def ordB (md : Region.Mode) (ops : Array Oper) : List (Nat × Bool) → Array Bool → Bool
  | [], listed => (Region.ready md ops listed).isEmpty
  | (i, true) :: r, listed => Region.free md ops listed i && ((Region.ready md ops listed).contains i && ordB md ops r (listed.setIfInBounds i true))
  | (i, false) :: r, listed => decide (Region.ready md ops listed = [i]) && ordB md ops r (listed.setIfInBounds i true)

theorem wpAnyH_of_ord {md : Region.Mode} (hs : Region.noSelect ops = true) (hQ : ∀ c a d v w, Q (.panic c) (a.put d v) w → Q (.panic c) a w) :
    ∀ (l : List (Nat × Bool)) (fuel : Nat) (listed : Array Bool) (a : Act) (w : World), l.length ≤ fuel → ordB md ops l listed = true → wpOrd P ops Q l a w →
      wpAnyH P md ops Q (fun _ => True) fuel listed a w
  | [], fuel, listed, a, w, _, hB, h => wpAnyH_done (by simpa [ordB] using hB) h fuel
  | (i, b) :: r, 0, _, _, _, hl, _, _ => absurd hl (by simp)
  | (i, true) :: r, fuel + 1, listed, a, w, hl, hB, h => by
    obtain ⟨o, v, ho, hy, hr⟩ := h
    simp only [ordB, Bool.and_eq_true] at hB
    exact wpAnyH_take ho hs hB.1 hB.2.1 (fun c a w => hQ c a _ v w) hy trivial (wpAnyH_of_ord hs hQ r fuel _ _ _ (by simpa using hl) hB.2.2 hr)
  | (i, false) :: r, fuel + 1, listed, a, w, hl, hB, h => by
    simp only [ordB, Bool.and_eq_true, decide_eq_true_eq] at hB
    refine wpAnyH_all hB.1 (by simp) (fun j hj => ?_)
    have hj : j = i := by simpa using hj
    subst hj
    exact wpOp_mono (fun a' w' h' => ⟨trivial, wpAnyH_of_ord hs hQ r fuel _ _ _ (by simpa using hl) hB.2 h'⟩) h

/-- The same with the operations themselves in their places. -/
def wpOrdL (P : Program) (ops : Array Oper) (Q : Exit → Act → World → Prop) : List (Oper × Bool) → Act → World → Prop
  | [], a, w => Q .normal a w
  | (o, true) :: r, a, w => ∃ v, YieldsIf P ops (fun _ => True) o v a ∧ wpOrdL P ops Q r (a.put o.dst v) w
  | (o, false) :: r, a, w => if Region.wanted o (yielded ops a.tmps) then o.wp P a w (wpOrdL P ops Q r) Q ∨ (o.asks P a w ∧ LetsOut Q) else wpOrdL P ops Q r (a.put o.dst undef) w
def pickOps (l : List Oper) : List (Nat × Bool) → List (Oper × Bool)
  | [] => []
  | (i, b) :: r => match l[i]? with
    | some o => (o, b) :: pickOps l r
    | none => pickOps l r
theorem wpOrd_of_L (ops : Array Oper) : ∀ (l : List (Nat × Bool)) (a : Act) (w : World), (l.all fun x => decide (x.1 < ops.size)) = true →
    wpOrdL P ops Q (pickOps ops.toList l) a w → wpOrd P ops Q l a w
  | [], _, _, _, h => h
  | (i, b) :: r, a, w, hl, h => by
    simp only [List.all_cons, Bool.and_eq_true, decide_eq_true_eq] at hl
    have ho : ops.toList[i]? = some ops[i] := by simp [hl.1]
    have ho' : ops[i]? = some ops[i] := by simp [hl.1]
    rw [pickOps, ho] at h
    cases b with
    | true =>
      obtain ⟨v, hy, hr⟩ := h
      exact ⟨_, v, ho', hy, wpOrd_of_L ops r _ _ hl.2 hr⟩
    | false =>
      show wpOp P ops Q i (wpOrd P ops Q r) a w
      have h2 : wpOp P ops Q i (wpOrdL P ops Q (pickOps ops.toList r)) a w := by unfold wpOp; rw [ho']; exact h
      exact wpOp_mono (fun a' w' h' => wpOrd_of_L ops r _ _ hl.2 h') h2
theorem ord_pure {o : Oper} {r : List (Oper × Bool)} {a : Act} {w : World} {v : Value} (hw : Region.wanted o (yielded ops a.tmps) = true)
    (hy : ∀ w', (execOp a.eval o).run P w' = .ok (.value v) w') (h : wpOrdL P ops Q r (a.put o.dst v) w) : wpOrdL P ops Q ((o, true) :: r) a w :=
  ⟨v, .inl ⟨hw, fun w' _ => hy w'⟩, h⟩
theorem ord_step {o : Oper} {r : List (Oper × Bool)} {a : Act} {w : World} (hg : o.guard = none)
    (h : ∀ K : Act → World → Prop, (∀ a w, wpOrdL P ops Q r a w → K a w) → o.wp P a w K Q) : wpOrdL P ops Q ((o, false) :: r) a w := by
  have := h _ (fun _ _ h => h)
  show if _ then _ else _
  rw [if_pos (by simp [Region.wanted, hg])]
  exact .inl this
/-- The region is shown not to panic. -/
theorem wp_region_ord {id : Nat} {a : Act} {w : World} {lo : List Oper} (l : List (Nat × Bool)) (hm : P.follows .mixedOrders = true) (hs : Region.noSelect lo.toArray = true)
    (hB : (decide (l.length ≤ lo.toArray.size) && (ordB .any lo.toArray l (Array.replicate lo.toArray.size false) && l.all fun x => decide (x.1 < lo.toArray.size))) = true)
    (h : wpOrdL P lo.toArray (NoPanic Q) (pickOps lo l) a w.drew) : (Code.region id lo.toArray true).wp P Q a w := by
  simp only [Bool.and_eq_true, decide_eq_true_eq] at hB
  exact wp_region_noPanic (wp_region_held hm (wpAnyH_of_ord hs (fun _ _ _ _ _ h => h) l _ _ _ _ hB.1 hB.2.1 (wpOrd_of_L _ _ _ _ hB.2.2 h)))
theorem ord_nil {a : Act} {w : World} (h : Q .normal a w) : wpOrdL P ops (NoPanic Q) [] a w := h
end
end Go.Proofs.YtmjonlffhhehjaaGreatDoor
/- Sums as lists of thirty-two bytes: their order, that they are told apart; sum.Sum.Cmp as slices.SortFunc asks it. Condition: thirty-two bytes each. -/
namespace Go.Proofs.YtmjonlffhhehjaaGreatDoor
open Go.RowKit
def strB (l : List (BitVec 8)) : ByteArray := ⟨(l.map UInt8.ofBitVec).toArray⟩
def cmpL : List (BitVec 8) → List (BitVec 8) → Int
  | a :: x, b :: y => if B a < B b then -1 else if B b < B a then 1 else cmpL x y
  | _, _ => 0
theorem cmpL_prefix (p x y : List (BitVec 8)) : cmpL (p ++ x) (p ++ y) = cmpL x y := by
  induction p with
  | nil => rfl
  | cons a p ih => simp [cmpL, ih]
theorem cmpL_self (x : List (BitVec 8)) : cmpL x x = 0 := by
  have := cmpL_prefix x [] []
  simpa [cmpL] using this
theorem split_at (x y : List (BitVec 8)) (k : Nat) (hx : k < x.length) (hy : k < y.length) (h : x.take k = y.take k) : cmpL x y = cmpL (at8 x k :: x.drop (k + 1)) (at8 y k :: y.drop (k + 1)) := by
  have e1 : x = x.take k ++ (at8 x k :: x.drop (k + 1)) := by
    conv => lhs; rw [← List.take_append_drop k x, List.drop_eq_getElem_cons hx]
    simp [at8, List.getD_eq_getElem?_getD, List.getElem?_eq_getElem hx]
  have e2 : y = x.take k ++ (at8 y k :: y.drop (k + 1)) := by
    conv => lhs; rw [← List.take_append_drop k y, List.drop_eq_getElem_cons hy, ← h]
    simp [at8, List.getD_eq_getElem?_getD, List.getElem?_eq_getElem hy]
  conv => lhs; rw [e1, e2, cmpL_prefix]
theorem take_next (x y : List (BitVec 8)) (k : Nat) (hx : k < x.length) (hy : k < y.length) (h : x.take k = y.take k) (he : at8 x k = at8 y k) : x.take (k + 1) = y.take (k + 1) := by
  have he' : x[k] = y[k] := by simpa [at8, List.getD_eq_getElem?_getD, List.getElem?_eq_getElem hx, List.getElem?_eq_getElem hy] using he
  rw [List.take_succ_eq_append_getElem hx, List.take_succ_eq_append_getElem hy, h, he']

theorem cmpL_vals : ∀ (x y : List (BitVec 8)), cmpL x y = -1 ∨ cmpL x y = 0 ∨ cmpL x y = 1
  | [], _ => by simp [cmpL]
  | _ :: _, [] => by simp [cmpL]
  | a :: x, b :: y => by
    have := cmpL_vals x y
    unfold cmpL
    split
    · exact .inl rfl
    · split
      · exact .inr (.inr rfl)
      · exact this
theorem cmpL_trans : ∀ (x y z : List (BitVec 8)), x.length = y.length → y.length = z.length → (cmpL x y ≤ 0 → cmpL y z ≤ 0 → cmpL x z ≤ 0) ∧ (cmpL x y < 0 → cmpL y z ≤ 0 → cmpL x z < 0)
  | [], _, _, _, _ => by simp [cmpL]
  | a :: x, b :: y, c :: z, h1, h2 => by
    have ih := cmpL_trans x y z (by simpa using h1) (by simpa using h2)
    unfold cmpL
    by_cases h1 : B a < B b
    · by_cases h2 : B b < B c
      · have h3 : B a < B c := by omega
        simp [h1, h2, h3]
      · by_cases h4 : B c < B b
        · simp [h1, h2, h4]
        · have h3 : B a < B c := by omega
          simp [h1, h3]
    · by_cases h5 : B b < B a
      · simp [h1, h5]
      · by_cases h2 : B b < B c
        · have h3 : B a < B c := by omega
          simp [h1, h5, h2, h3]
        · by_cases h4 : B c < B b
          · simp [h1, h5, h2, h4]
          · have h3 : ¬ B a < B c := by omega
            have h6 : ¬ B c < B a := by omega
            simpa only [h1, h5, h2, h4, h3, h6, if_false] using ih
  | _ :: _, [], _, h1, _ => by simp at h1
  | _ :: _, _ :: _, [], _, h2 => by simp at h2

theorem cmpL_zero : ∀ {x y : List (BitVec 8)}, x.length = y.length → (cmpL x y = 0 ↔ x = y)
  | [], [], _ => by simp [cmpL]
  | a :: x, b :: y, h => by
    have ih := cmpL_zero (x := x) (y := y) (by simpa using h)
    unfold cmpL
    by_cases h1 : B a < B b
    · rw [if_pos h1]; constructor
      · intro h; cases h
      · intro h; injection h with h2; subst h2; omega
    · rw [if_neg h1]
      by_cases h2 : B b < B a
      · rw [if_pos h2]; constructor
        · intro h; cases h
        · intro h; injection h with h3; subst h3; omega
      · rw [if_neg h2, ih]
        have : a = b := B_inj (by omega)
        subst this; simp
  | [], _ :: _, h => by simp at h
  | _ :: _, [], h => by simp at h
theorem cmpL_neg : ∀ (x y : List (BitVec 8)), x.length = y.length → cmpL y x = - cmpL x y
  | [], [], _ => rfl
  | a :: x, b :: y, h => by
    have ih := cmpL_neg x y (by simpa using h)
    unfold cmpL
    by_cases h1 : B a < B b
    · rw [if_pos h1, if_neg (by omega), if_pos h1]; rfl
    · rw [if_neg h1]
      by_cases h2 : B b < B a
      · rw [if_pos h2, if_neg h1, if_pos h2]
      · rw [if_neg h2, if_neg h2, if_neg h1, ih]
  | [], _ :: _, h => by simp at h
  | _ :: _, [], h => by simp at h
theorem u8v_cellU (l : List (BitVec 8)) : l.map u8v = (l.map UInt8.ofBitVec).map Extern.Stop.cell := by
  rw [List.map_map]; apply List.map_congr_left; intro x _
  simp [u8v, B, Extern.Stop.cell]
theorem beq_bytesU (a b : List (BitVec 8)) : (a.map UInt8.ofBitVec == b.map UInt8.ofBitVec) = decide (a = b) := by
  rw [Bool.eq_iff_iff, beq_iff_eq, decide_eq_true_iff]
  constructor
  · intro h
    have h2 := congrArg (List.map UInt8.toBitVec) h
    rw [List.map_map, List.map_map] at h2
    have e : (UInt8.toBitVec ∘ UInt8.ofBitVec) = id := by funext x; rfl
    rw [e, List.map_id, List.map_id] at h2
    exact h2
  · rintro rfl; rfl
theorem u8_sizeU (w : World) : (sizeOf 5).run Tryz.prog w = .ok 1 w := by kernel_rfl
theorem arr_eqlU (T : TypeId) (hT : Tryz.prog.underlying T = some (.array 32 5)) (a b : List (BitVec 8)) (ha : a.length = 32) (hb : b.length = 32) (w : World) :
    (binOp .eql T (.agg (a.map u8v).toArray) (.agg (b.map u8v).toArray)).run Tryz.prog w = .ok (.bool (decide (a = b))) w := by
  rw [u8v_cellU, u8v_cellU, run_eql_bytes w T 5 32 hT Tryz.underlying5 u8_sizeU _ _ (by simpa using ha) (by simpa using hb), beq_bytesU]
theorem add_zero_off (g j : Nat) : (Addr.add ⟨g, 0, none⟩ j) = ⟨g, j, none⟩ := by unfold Addr.add; split <;> simp_all
/-- The bytes as Go's string or slice of them. -/
theorem strB_size (x : List (BitVec 8)) : (strB x).size = x.length := by simp [strB, ByteArray.size]
theorem strB_get (x : List (BitVec 8)) (i : Nat) (h : i < x.length) : (strB x)[i]! = UInt8.ofBitVec (at8 x i) := by
  rw [getElem!_pos (strB x) i (by rw [strB_size]; exact h)]
  show (strB x).data[i]'_ = _
  simp [strB, at8, List.getD_eq_getElem?_getD, List.getElem?_eq_getElem h]
theorem B_lt_iff (p q : BitVec 8) : UInt8.ofBitVec p < UInt8.ofBitVec q ↔ B p < B q := by
  rw [UInt8.lt_iff_toNat_lt]; unfold B; show p.toNat < q.toNat ↔ _; omega
theorem cmp_strB (x y : List (BitVec 8)) (h : x.length = y.length) : Extern.BytealgCompare.cmp (strB x) (strB y) = cmpL x y := by
  unfold Extern.BytealgCompare.cmp
  rw [strB_size, strB_size, ← h, Nat.min_self]
  have hne : ∀ i, i < x.length → (((strB x)[i]! != (strB y)[i]!) = true ↔ at8 x i ≠ at8 y i) := fun i hi => by
    rw [strB_get x i hi, strB_get y i (by omega), bne_iff_ne, ne_eq, UInt8.ofBitVec.injEq]
  cases hf : (List.range x.length).find? fun i => (strB x)[i]! != (strB y)[i]! with
  | none =>
    have hxy : x = y := by
      refine List.ext_getElem h (fun i h1 h2 => ?_)
      have := List.find?_eq_none.1 hf i (List.mem_range.2 h1)
      rw [hne i h1] at this
      simpa [at8, List.getD_eq_getElem?_getD, List.getElem?_eq_getElem h1, List.getElem?_eq_getElem h2] using this
    subst hxy
    simp [cmpL_self]
  | some i =>
    obtain ⟨h1, h2, h3⟩ := List.find?_range_eq_some.1 hf
    have hi := List.mem_range.1 h2
    rw [hne i hi] at h1
    have ht : ∀ k, k ≤ i → x.take k = y.take k := fun k => by
      induction k with
      | zero => intro _; rfl
      | succ k ih =>
        intro hk
        have hq := h3 k (by omega)
        refine take_next x y k (by omega) (by omega) (ih (by omega)) ?_
        have := hne k (by omega)
        refine Classical.byContradiction fun hc => ?_
        simp [this.2 hc] at hq
    rw [split_at x y i hi (by omega) (ht i (Nat.le_refl _))]
    simp only [cmpL]
    rw [strB_get x i hi, strB_get y i (by omega)]
    have hB : B (at8 x i) ≠ B (at8 y i) := fun hc => h1 (B_inj hc)
    by_cases hl : B (at8 x i) < B (at8 y i)
    · rw [if_pos hl, if_pos ((B_lt_iff _ _).2 hl)]
    · rw [if_neg hl, if_neg (fun hc => hl ((B_lt_iff _ _).1 hc)), if_pos (by omega)]

theorem load_bytes (w : World) : ∀ (l : List (BitVec 8)) (a : Addr) (acc : ByteArray), (∀ j u, (l.map u8v)[j]? = some u → w.cell? (a.add j) = some u) →
    (Extern.Bytes.loadBytes a l.length acc).run Tryz.prog w = .ok ⟨acc.data ++ (l.map UInt8.ofBitVec).toArray⟩ w
  | [], a, acc, _ => by simp [Extern.Bytes.loadBytes]
  | x :: l, a, acc, h => by
    have h0 : w.cell? a = some (.int .u8 (B x)) := by
      have := h 0 (u8v x) rfl
      simpa [Addr.add, u8v] using this
    have ih := load_bytes w l (a.add 1) (acc.push (B x).toNat.toUInt8) (fun j y hy => by
      have := h (j + 1) y (by simpa using hy)
      rw [add_add, Nat.add_comm]; exact this)
    have e : (B x).toNat.toUInt8 = UInt8.ofBitVec x := by
      unfold B; rw [Int.toNat_natCast]
      exact UInt8.toNat_inj.1 (by simp)
    simp only [List.length_cons, Extern.Bytes.loadBytes, Sem.run_bind, run_load, h0, Result.andThen]
    rw [ih, e]
    simp [ByteArray.push]

theorem run_cmp (x y : List (BitVec 8)) (h : x.length = y.length) (a b : Addr) (c d : Nat) (w : World)
    (ha : ∀ j u, (x.map u8v)[j]? = some u → w.cell? (a.add j) = some u) (hb : ∀ j u, (y.map u8v)[j]? = some u → w.cell? (b.add j) = some u) :
    (callFunc 155 #[.slice (some a) x.length c, .slice (some b) y.length d]).run Tryz.prog w = .ok (.value (.int .i64 (cmpL x y))) w := by
  rw [run_callFunc_extern Tryz.func155 (by kernel_rfl) (by kernel_rfl) (by kernel_rfl) (e := Extern.BytealgCompare.compare) (by kernel_rfl)]
  have e : (Extern.BytealgCompare.compare #[.slice (some a) x.length c, .slice (some b) y.length d]).run Tryz.prog w = .ok (.int .i64 (cmpL x y)) w := by
    show (do pure (goInt (Extern.BytealgCompare.cmp (← Extern.Bytes.loadBytes a x.length .empty) (← Extern.Bytes.loadBytes b y.length .empty))) : Sem Value).run Tryz.prog w = _
    rw [Sem.run_bind, load_bytes w x a _ ha]
    simp only [Result.andThen]
    rw [Sem.run_bind, load_bytes w y b _ hb]
    simp only [Result.andThen, Sem.run_pure]
    have := cmp_strB x y h
    unfold strB at this
    simpa [goInt] using this
  rw [e]; rfl

theorem bcmp_any (x y : List (BitVec 8)) (h : x.length = y.length) (a b : Addr) (c d : Nat) (w : World)
    (ha : ∀ j u, (x.map u8v)[j]? = some u → w.cell? (a.add j) = some u) (hb : ∀ j u, (y.map u8v)[j]? = some u → w.cell? (b.add j) = some u) :
    Calls Tryz.prog 128 #[.slice (some a) x.length c, .slice (some b) y.length d] w fun e w' => e = .returned (.int .i64 (cmpL x y)) ∧ w = w' := by
  have hr := run_cmp x y h a b c d w ha hb
  clear ha hb h
  go_enter Tryz.func128, Tryz.ntmps128
  go_wp2_with fail
  go_ret
  exact ⟨rfl, rfl⟩

theorem two_grown (w : World) (o1 o2 : Obj) : ((w.alloc o1).alloc o2).drew = Sort.grow (w.drewN 1) #[o1, o2] := by
  rw [Sort.alloc_eq_grow, Sort.alloc_eq_grow, Sort.grow_grow]; rfl
set_option maxHeartbeats 1000000 in
theorem cmpg_any (x y : List (BitVec 8)) (hx : x.length = 32) (hy : y.length = 32) (w : World) :
    Calls Tryz.prog 92 #[.agg (x.map u8v).toArray, .agg (y.map u8v).toArray] w fun e w' => e = .returned (.int .i64 (cmpL x y)) ∧ (∃ q os, w' = Sort.grow (w.drewN q) os) := by
  obtain ⟨cx, hcx⟩ : ∃ cx, cx = x.map u8v := ⟨_, rfl⟩
  obtain ⟨cy, hcy⟩ : ∃ cy, cy = y.map u8v := ⟨_, rfl⟩
  rw [← hcx, ← hcy]
  have Hcx := Lib.hid hcx
  have Hcy := Lib.hid hcy
  have Hx := Lib.hid hx
  have Hy := Lib.hid hy
  clear hcx hcy hx hy
  go_enter Tryz.func92, Tryz.ntmps92
  go_upto_region 1 with fail
  generalize hw0 : (w.alloc _).alloc _ = w0
  have h2 : Has w0 w.heap.size 31 (x.map u8v) := by
    subst hw0; rw [← Hcx.out]; exact (Has.made' _ _ _ _ rfl).alloc _
  have h3 : Has w0 (w.heap.size + 1) 31 (y.map u8v) := by
    subst hw0; rw [← Hcy.out]; exact Has.made1 _ _ _ _ _ rfl
  have HB : Hid (∃ q os, w0.drew = Sort.grow (w.drewN q) os) := Lib.hid ⟨_, _, by subst hw0; exact two_grown _ _ _⟩
  clear hw0
  refine wp_region_ord [(0, true), (1, true), (2, false), (3, true)] (by kernel_rfl) (by kernel_rfl) (by kernel_rfl) ?_
  simp only [pickOps, List.getElem?_cons_zero, List.getElem?_cons_succ]
  (repeat (refine ord_pure (v := ?_) (by rfl) ?_ ?_; rotate_left; (· intro w'; go_simp; try with_reducible rfl); try simp only [Act.put, List.setIfInBounds_toArray, List.set_cons_zero, List.set_cons_succ]))
  refine ord_step (by rfl) (fun K hK => ?_)
  go_wp2_with fail
  have hc := bcmp_any x y (by rw [Hx.out, Hy.out]) ⟨w.heap.size, 0, none⟩ ⟨w.heap.size + 1, 0, none⟩ 32 32 w0.drew
    (fun j u hu => by rw [add_zero_off]; exact h2.cellv hu) (fun j u hu => by rw [add_zero_off]; exact h3.cellv hu)
  rw [Hx.out, Hy.out] at hc
  refine hc.mono ?_
  rintro e w3 ⟨rfl, rfl⟩
  clear hc
  go_wp2_with fail
  (repeat (refine ord_pure (v := ?_) (by rfl) ?_ ?_; rotate_left; (· intro w'; go_simp; try with_reducible rfl); try simp only [Act.put, List.setIfInBounds_toArray, List.set_cons_zero, List.set_cons_succ]))
  refine ord_nil ?_
  go_wp2_with fail
  go_ret
  exact ⟨rfl, HB.out⟩
theorem below_grow (w : World) (q : Nat) (os : Array Obj) : Below w.heap.size w (Sort.grow (w.drewN q) os) :=
  ⟨rfl, rfl, rfl, by show w.heap.size ≤ (w.heap ++ os).size; simp, fun k hk => by
    show (w.heap ++ os)[k]? = _
    rw [Array.getElem?_append_left hk]⟩
theorem cmp_any (x y : List (BitVec 8)) (hx : x.length = 32) (hy : y.length = 32) (w : World) :
    Calls Tryz.prog 92 #[.agg (x.map u8v).toArray, .agg (y.map u8v).toArray] w fun e w' => e = .returned (.int .i64 (cmpL x y)) ∧ Below w.heap.size w w' :=
  (cmpg_any x y hx hy w).mono fun _ _ ⟨h1, q, os, h2⟩ => ⟨h1, h2 ▸ below_grow w q os⟩
end Go.Proofs.YtmjonlffhhehjaaGreatDoor
/- Byte slices that read as lists: as strings, cut, appended, made. Condition: a nil slice has no capacity. -/
namespace Go.Proofs.YtmjonlffhhehjaaGreatDoor
open Go.RowKit
theorem take_at8 (l : List (BitVec 8)) (k : Nat) (h : k < l.length) : l.take (k + 1) = l.take k ++ [at8 l k] := by
  rw [List.take_succ_eq_append_getElem h]
  simp [at8, List.getD_eq_getElem?_getD, List.getElem?_eq_getElem h]
theorem drop_at8 (l : List (BitVec 8)) (k : Nat) (h : k < l.length) : l.drop k = at8 l k :: l.drop (k + 1) := by
  rw [List.drop_eq_getElem_cons h]
  simp [at8, List.getD_eq_getElem?_getD, List.getElem?_eq_getElem h]
theorem strB_of (l : List (BitVec 8)) : (l.map B).foldl (fun r n => r.push (UInt8.ofNat n.toNat)) ByteArray.empty = strB l := by
  have h : ∀ (l : List (BitVec 8)) (b : ByteArray), (l.map B).foldl (fun r n => r.push (UInt8.ofNat n.toNat)) b = ⟨(b.data.toList ++ l.map UInt8.ofBitVec).toArray⟩ := by
    intro l
    induction l with
    | nil => intro b; simp
    | cons x l ih =>
      intro b
      rw [List.map_cons, List.foldl_cons, ih]
      have e : UInt8.ofNat (B x).toNat = UInt8.ofBitVec x := by unfold B; simp
      rw [e]
      simp [ByteArray.push]
  rw [h]; rfl
theorem ofBitVec_inj (x y : BitVec 8) (h : UInt8.ofBitVec x = UInt8.ofBitVec y) : x = y := by injection h
theorem strB_list (l : List (BitVec 8)) : (strB l).toList = l.map UInt8.ofBitVec := by
  rw [ByteArray.toList_eq]; simp [strB]
theorem map_inj8 : ∀ (x y : List (BitVec 8)), x.map UInt8.ofBitVec = y.map UInt8.ofBitVec → x = y
  | [], [], _ => rfl
  | [], _ :: _, h => by simp at h
  | _ :: _, [], h => by simp at h
  | a :: x, b :: y, h => by
    simp only [List.map_cons, List.cons.injEq] at h
    rw [ofBitVec_inj _ _ h.1, map_inj8 x y h.2]
theorem strB_beq (x y : List (BitVec 8)) : ((strB x).toList == (strB y).toList) = decide (x = y) := by
  rw [strB_list, strB_list, Bool.eq_iff_iff, beq_iff_eq, decide_eq_true_iff]
  exact ⟨map_inj8 x y, fun h => by rw [h]⟩
theorem str_run (l : List (BitVec 8)) (q : Option Addr) (cap : Nat) (b : Nat) (w : World) (hs : Sees w b q (l.map u8v)) :
    (convert 40 9 (.slice q l.length cap)).run Tryz.prog w = .ok (.string (strB l)) w := by
  rw [run_convert_bytes_string (P := Tryz.prog) w 40 9 5 q l.length cap Tryz.underlying40 Tryz.underlying5 Tryz.underlying9]
  by_cases h0 : l = []
  · subst h0
    cases q <;> simp [Conv.bytesToString, loadCells, strB] <;> rfl
  · obtain ⟨a, rfl, _, hc⟩ := hs.get (by simpa using List.length_pos_iff.2 h0)
    have hcv : (loadCells a l.length).run Tryz.prog w = .ok ((l.map B).map (Value.int .u8)).toArray w := by
      have e1 : (l.map B).map (Value.int .u8) = l.map u8v := by rw [List.map_map]; rfl
      rw [e1]
      have := run_loadCells_list (P := Tryz.prog) w a (l.map u8v) hc
      rw [List.length_map] at this
      exact this
    rw [run_bytesToString w a l.length cap _ hcv, strB_of]
theorem u8_info : (Tryz.prog.info? 5).map (fun i => (i.zero, i.size, i.bytes)) = some (some (.int .u8 0), 1, 1) := by kernel_rfl
/-- What 'b[from:]', 'b[:to]' are. -/
def cutQ (a : Option Addr) (cap k : Nat) : Option Addr := if cap = k then a else a.map (·.add k)
theorem cut_from (a : Option Addr) (n cap f : Nat) (h1 : f ≤ n) (w : World) :
    (Instr.slice 40 (.slice a n cap) (some (.int .i64 (f : Int))) none none).run Tryz.prog w = .ok (.slice (cutQ a cap f) (n - f) (cap - f)) w := by
  obtain ⟨i0, hi, _, hz1, _⟩ := info_parts u8_info
  have he : Tryz.prog.elem 40 = 5 := by kernel_rfl
  rw [run_slice_l (ht := by rw [he]; exact Tryz.underlying40) (h0 := by omega) (h1 := by omega), he]
  simp [sizeOf, typeInfo, hi, hz1, sliced, cutQ]
theorem cut_to (a : Option Addr) (n cap t : Nat) (h1 : t ≤ cap) (w : World) :
    (Instr.slice 40 (.slice a n cap) none (some (.int .i64 (t : Int))) none).run Tryz.prog w = .ok (.slice (cutQ a cap 0) t cap) w := by
  obtain ⟨i0, hi, _, hz1, _⟩ := info_parts u8_info
  have he : Tryz.prog.elem 40 = 5 := by kernel_rfl
  rw [run_slice_h (ht := by rw [he]; exact Tryz.underlying40) (h0 := by omega) (h2 := by omega), he]
  simp [sizeOf, typeInfo, hi, hz1, sliced, cutQ]
theorem cutQ_zero (a : Option Addr) (cap : Nat) : cutQ a cap 0 = a := by
  unfold cutQ
  split
  · rfl
  · cases a <;> simp [Addr.add]
/-- The value v reads as these bytes. -/
def Bs (w : World) (v : Value) (x : List (BitVec 8)) : Prop := ∃ q c, v = .slice q x.length c ∧ x.length ≤ c ∧ (q = none → c = 0) ∧ Sees w w.heap.size q (x.map u8v)
theorem Bs.keep {w w' : World} {v : Value} {x : List (BitVec 8)} (h : Bs w v x) (hb : Below w.heap.size w w') : Bs w' v x := by
  obtain ⟨q, c, h1, h2, h3, h4⟩ := h
  exact ⟨q, c, h1, h2, h3, (h4.keep hb).more hb.size⟩
theorem Bs.nil (w : World) : Bs w (.slice none 0 0) [] := ⟨none, 0, rfl, Nat.le_refl _, fun _ => rfl, Sees.nil _ _ _⟩
theorem Bs.own {w : World} {base n : Nat} {v : Value} {x : List (BitVec 8)} (h : w.ownsRow base 5 1 v n (x.map u8v)) : Bs w v x := by
  have hn : x.length = n := by have := h.1; simpa using this
  subst hn
  rcases h.2 with ⟨rfl, h0⟩ | ⟨g, cap, cur, rfl, hb, hg, h1, _⟩
  · have : x = [] := List.eq_nil_of_length_eq_zero h0
    subst this
    exact Bs.nil w
  · refine ⟨_, cap, rfl, h1, fun h => (by cases h), fun _ => ⟨_, rfl, (Array.getElem?_eq_some_iff.1 hg).1, ?_⟩⟩
    exact h.cells (g := g) rfl
theorem own_base {w : World} {base n : Nat} {e : TypeId} {v : Value} {xs : List Value} (h : w.ownsRow base e 1 v n xs) : ∀ k, v.ownBlock = some k → base ≤ k := by
  intro k hk
  rcases h.2 with ⟨rfl, _⟩ | ⟨g, cap, cur, rfl, hb, _⟩
  · simp [Value.ownBlock] at hk
  · simp [Value.ownBlock] at hk; omega
theorem own_keep {w w' : World} {base n : Nat} {e : TypeId} {v : Value} {xs : List Value} {b : Nat} (h : w.ownsRow base e 1 v n xs) (hb : Below b w w') (hs : ∀ k, k < w.heap.size → k < b) : w'.ownsRow base e 1 v n xs := by
  refine ⟨h.1, ?_⟩
  rcases h.2 with h1 | ⟨g, cap, cur, rfl, h1, h2, h3⟩
  · exact .inl h1
  · exact .inr ⟨g, cap, cur, rfl, h1, (hb.block g (hs g (Array.getElem?_eq_some_iff.1 h2).1)).trans h2, h3⟩
theorem grown_refl (w : World) (row : Option Nat) : w.grownBy w row := ⟨rfl, rfl, rfl, Nat.le_refl _, fun _ _ _ => rfl⟩
theorem wpList_append_sees {ops : Array Oper} {rest : List Oper} {o : Oper} {a : Act} {w : World} {Q : Exit → Act → World → Prop} (hgd : o.guard = none) (s x : Operand)
    (ho : o.op = .call { callee := .builtin .append, args := #[s, x], argTypes := #[40, 40] })
    (base : Nat) (v : Value) (n : Nat) (xs : List Value) (hs : a.eval s = v) (hown : w.ownsRow base 5 1 v n xs)
    (q : Option Addr) (l : List (BitVec 8)) (cap b : Nat) (hx : a.eval x = .slice q l.length cap) (hq : q = none → cap = 0) (hl : Sees w b q (l.map u8v))
    (hbytes : n + l.length ≤ 140737488355328) (hbase : base ≤ w.heap.size)
    (h : ∀ v' w', w'.ownsRow base 5 1 v' (n + l.length) (xs ++ l.map u8v) → Below base w w' → wpList Tryz.prog ops Q rest (a.put o.dst v') w') : wpList Tryz.prog ops Q (o :: rest) a w := by
  obtain ⟨i0, hi, hz0, hz1, hz2⟩ := info_parts u8_info
  rcases q with _ | ad
  · have hl0 : l = [] := by
      rcases l with _ | ⟨y, l⟩
      · rfl
      · obtain ⟨a, h1, _⟩ := hl.get (by simp)
        cases h1
    subst hl0
    obtain rfl := hq rfl
    exact wpList_append_own_none hgd s x 40 ho base 5 i0 1 Tryz.underlying40 hi v n xs hs hown hx (h v w (by simpa using hown) (Below.refl _ _))
  · refine wpList_append_own w hgd s x 40 ho base 5 i0 (.int .u8 0) 1 1 Tryz.underlying40 hi hz0 hz1 hz2 rfl (by decide) v n xs hs hown ad l.length cap (l.map u8v) hx (by simp) (fun j u hj => ?_) (fun u hu => ?_) (by unfold maxLen; omega) (by omega) hbase (fun v' w' h1 h2 _ => ?_)
    · obtain ⟨a', h1, _, h3⟩ := hl.get (by have := (List.getElem?_eq_some_iff.1 hj).1; omega)
      cases h1
      exact h3 j u hj
    · obtain ⟨y, _, rfl⟩ := List.mem_map.1 hu
      rfl
    · exact h v' w' h1 ((Below.refl base w).grown h2 hbase (fun k hk => own_base hown k hk))
theorem made_run (n : Nat) (hn : n ≤ 281474976710656) (w : World) :
    (Instr.makeSlice 40 (.int .i64 0) (.int .i64 (n : Int))).run Tryz.prog w = .ok (.slice (some ⟨w.heap.size, 0, none⟩) 0 n) (w.alloc (.cells (madeCells #[Value.int .u8 0] n) 5)) := by
  obtain ⟨i0, hi, hz0, hz1, hz2⟩ := info_parts u8_info
  have := run_make (P := Tryz.prog) w 40 5 i0 (.int .u8 0) Tryz.underlying40 hi hz0 .i64 .i64 0 n (by omega) (by omega) (by rw [hz2]; omega) (by omega)
  rw [hz1, Nat.mul_one, show (Value.int .u8 0).cells = #[Value.int .u8 0] from rfl] at this
  simpa using this
theorem made_own (n : Nat) (hn : n ≤ 281474976710656) (w : World) (base : Nat) (hb : base ≤ w.heap.size) :
    (w.alloc (.cells (madeCells #[Value.int .u8 0] n) 5)).ownsRow base 5 1 (.slice (some ⟨w.heap.size, 0, none⟩) 0 n) 0 [] :=
  World.ownsRow_made w _ n hb (by unfold maxLen; omega) (by rw [Nat.mul_one]; exact size_madeCells _ _)

/-- What a call hands back that makes a new row. -/
def Gives (w : World) (x : List (BitVec 8)) (e : Ending) (w' : World) : Prop := ∃ v, e = .returned v ∧ Bs w' v x ∧ Below w.heap.size w w'
theorem cutQ_none (q : Option Addr) (c f : Nat) (hq : q = none → c = 0) : cutQ q c f = none → c - f = 0 := by
  intro h
  unfold cutQ at h
  split at h
  · omega
  · cases q with
    | none => have := hq rfl; omega
    | some a => simp at h
theorem Bs.cut {w : World} {b : List (BitVec 8)} {q : Option Addr} {c : Nat} (hc : b.length ≤ c) (hq : q = none → c = 0) (hs : Sees w w.heap.size q (b.map u8v)) (f : Nat) (hf : f ≤ b.length) :
    Bs w (.slice (cutQ q c f) (b.length - f) (c - f)) (b.drop f) := by
  refine ⟨cutQ q c f, c - f, by rw [List.length_drop], by rw [List.length_drop]; omega, cutQ_none q c f hq, ?_⟩
  rw [List.map_drop]
  exact hs.cut (by simpa using hc)
end Go.Proofs.YtmjonlffhhehjaaGreatDoor
/- Byte slices as lists: they lie in Byts here. No condition. -/
namespace Go.Proofs.YtmjonlffhhehjaaGreatDoor
end Go.Proofs.YtmjonlffhhehjaaGreatDoor
