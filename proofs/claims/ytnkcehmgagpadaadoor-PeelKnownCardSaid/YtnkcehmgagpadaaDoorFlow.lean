/- A drawn region walked by what its operations wait for: each operation leaves a fact about its own value that lasts while memory grows; whatever order is drawn, an operation finds the facts of all that it waits for. No order and no state is listed: one proof an operation. No condition. -/
import Derived.Test.YtnkcehmgagpadaaDoorGrp
import Derived.Test.YtnkcehmgagpadaaDoorOrg
namespace Go.Proofs.YtnkcehmgagpadaaDoor
open Go.RowKit
/-- What an operation waits for stands ahead of it. -/
def aheadB (md : Region.Mode) (ops : Array Oper) : Bool :=
  (List.range ops.size).all fun i => ((ops[i]?).map fun o => o.after.all fun e => !Region.binds md e || decide (e.on < i)).getD true
theorem ready_iff {md : Region.Mode} {ops : Array Oper} {listed : Array Bool} {i : Nat} : i ∈ Region.ready md ops listed ↔ i < ops.size ∧ listed.getD i true = false ∧ ∀ o, ops[i]? = some o → ∀ e ∈ o.after, Region.binds md e = true → listed.getD e.on false = true := by
  unfold Region.ready
  rw [List.mem_filter, List.mem_range]
  constructor
  · rintro ⟨hi, h⟩
    rw [Bool.and_eq_true] at h
    refine ⟨hi, by simpa using h.1, fun o ho e he hb => ?_⟩
    have h2 := h.2
    rw [ho] at h2
    simp only [Option.map_some, Option.getD_some, Array.all_eq_true_iff_forall_mem] at h2
    have := h2 e he
    rw [hb] at this
    simpa using this
  · rintro ⟨hi, h1, h2⟩
    refine ⟨hi, ?_⟩
    rw [Bool.and_eq_true]
    refine ⟨by rw [h1]; rfl, ?_⟩
    have ho : ops[i]? = some ops[i] := Array.getElem?_eq_getElem hi
    rw [ho]
    simp only [Option.map_some, Option.getD_some, Array.all_eq_true_iff_forall_mem]
    intro e he
    cases hb : Region.binds md e with
    | false => rfl
    | true => simpa using h2 _ ho e he hb
/-- Where nothing may come up any more, all has come up. -/
theorem all_listed {md : Region.Mode} {ops : Array Oper} {listed : Array Bool} (hA : aheadB md ops = true) (hs : listed.size = ops.size) (hr : Region.ready md ops listed = []) : ∀ n i, i < n → i < ops.size → listed.getD i true = true
  | 0, i, h, _ => absurd h (by omega)
  | n + 1, i, h, hi => by
    cases hl : listed.getD i true with
    | true => rfl
    | false =>
      have hm : i ∈ Region.ready md ops listed := ready_iff.2 ⟨hi, hl, fun o ho e he hb => by
        unfold aheadB at hA
        rw [List.all_eq_true] at hA
        have h1 := hA i (List.mem_range.2 hi)
        rw [ho] at h1
        simp only [Option.map_some, Option.getD_some, Array.all_eq_true_iff_forall_mem] at h1
        have h2 := h1 e he
        rw [hb] at h2
        have h3 : e.on < i := by simpa using h2
        have h4 := all_listed (by unfold aheadB; rw [List.all_eq_true]; exact hA) hs hr n e.on (by omega) (by omega)
        rw [Array.getD_eq_getD_getElem?, Array.getElem?_eq_getElem (by omega)] at h4 ⊢
        exact h4⟩
      rw [hr] at hm
      cases hm
/-- The slots that the operations write, each with its operation. -/
def slotsOf (q : Array Oper) : List (Nat × Nat) := (List.range q.size).filterMap fun i => (q[i]?.bind fun o => o.dst).map fun s => (s, i)
section
variable {P : Program} {lo : List Oper} {Q : Exit → Act → World → Prop} {S : World → Prop}
theorem put_flow {slots : List (Nat × Nat)} (hB : slotsB slots = true) (hSl : slotsOf lo.toArray = slots) {o : Oper} {j : Nat} (ho : lo[j]? = some o) (a0 : Act) (f : Nat → Value) (v : Value) :
    (putAll a0 slots f).put o.dst v = putAll a0 slots (updF f j v) := by
  have hj : j < lo.length := by
    rcases Nat.lt_or_ge j lo.length with h | h
    · exact h
    · rw [List.getElem?_eq_none h] at ho; cases ho
  have ho' : lo.toArray[j]? = some o := by simpa using ho
  cases hd : o.dst with
  | none =>
    rw [putAll_other f j v slots a0 (fun x hx hxj => by
      rw [← hSl] at hx
      unfold slotsOf at hx
      rw [List.mem_filterMap] at hx
      obtain ⟨i, hi, hxi⟩ := hx
      cases hq : (lo.toArray[i]?.bind fun o => o.dst) with
      | none => rw [hq] at hxi; cases hxi
      | some s =>
        rw [hq] at hxi
        injection hxi with hxi
        subst hxi
        obtain rfl : i = j := hxj
        rw [ho'] at hq
        rw [show (some o).bind (fun o : Oper => o.dst) = o.dst from rfl, hd] at hq
        cases hq)]
    rfl
  | some s =>
    refine putAll_upd f s j v slots a0 hB ?_
    rw [← hSl]
    unfold slotsOf
    rw [List.mem_filterMap]
    refine ⟨j, List.mem_range.2 (by simpa using hj), ?_⟩
    rw [ho', show (some o).bind (fun o : Oper => o.dst) = o.dst from rfl, hd]
    rfl
theorem lt_0 {p : Nat → Prop} : ∀ j, j < 0 → p j := fun _ h => absurd h (by omega)
theorem lt_s {p : Nat → Prop} {n : Nat} (h : ∀ j, j < n → p j) (h' : p n) : ∀ j, j < n + 1 → p j := fun j hj => by
  rcases Nat.lt_or_ge j n with h1 | h1
  · exact h j h1
  · obtain rfl : j = n := by omega
    exact h'
end
end Go.Proofs.YtnkcehmgagpadaaDoor
