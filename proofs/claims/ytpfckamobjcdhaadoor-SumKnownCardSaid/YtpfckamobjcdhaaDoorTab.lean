/- A stretch of a drawn region by a table: for each operation its number, its slot, what must have come before, and what it leaves. No condition. -/
import Derived.Test.YtpfckamobjcdhaaDoorGrp
import Derived.Below
import Derived.Lib.Hide
namespace Go.Proofs.YtpfckamobjcdhaaDoor
open Go.RowKit
/-- What an operation leaves, stable while the world grows. -/
def Kind (E : World → World → Prop) : Type := { p : Value → World → Prop // ∀ v w w', p v w → E w w' → p v w' }
def valK (E : World → World → Prop) (u : Value) : Kind E := ⟨fun v _ => v = u, fun _ _ _ h _ => h⟩
section
variable {E : World → World → Prop}
def look (tab : List (Nat × Nat × List Nat × Kind E)) (i : Nat) : Option (Nat × Nat × List Nat × Kind E) := tab.find? fun x => x.1 == i
def PhiT (tab : List (Nat × Nat × List Nat × Kind E)) (i : Nat) (v : Value) (w : World) : Prop :=
  match look tab i with
  | some x => x.2.2.2.1 v w
  | none => True
def CT (tab : List (Nat × List Nat)) (j : Nat) (l : Array Bool) : Bool :=
  match tab.find? (fun x => x.1 == j) with
  | some x => x.2.all fun d => l.getD d false
  | none => false
def slotsT (tab : List (Nat × Nat × List Nat × Kind E)) : List (Nat × Nat) := tab.map fun x => (x.2.1, x.1)
def depsT (tab : List (Nat × Nat × List Nat × Kind E)) : List (Nat × List Nat) := tab.map fun x => (x.1, x.2.2.1)
theorem phiT_keep (tab : List (Nat × Nat × List Nat × Kind E)) (i : Nat) (v : Value) (w w' : World) (h : PhiT tab i v w) (he : E w w') : PhiT tab i v w' := by
  unfold PhiT at h ⊢
  split
  · rename_i x hx
    rw [hx] at h
    exact x.2.2.2.2 v w w' h he
  · trivial
theorem phiT_none (tab : List (Nat × Nat × List Nat × Kind E)) (i : Nat) (v : Value) (w : World) (h : ((slotsT tab).all fun x => decide (x.2 ≠ i)) = true) : PhiT tab i v w := by
  unfold PhiT
  have : look tab i = none := by
    unfold look
    rw [List.find?_eq_none]
    intro x hx
    rw [List.all_eq_true] at h
    have := h (x.2.1, x.1) (List.mem_map_of_mem (f := fun x => (x.2.1, x.1)) hx)
    simpa using this
  rw [this]
  trivial
theorem ct_find (j : Nat) : ∀ (tab : List (Nat × Nat × List Nat × Kind E)), (depsT tab).find? (fun x => x.1 == j) = (look tab j).map fun x => (x.1, x.2.2.1)
  | [] => rfl
  | x :: r => by
    unfold depsT look
    rw [List.map_cons, List.find?_cons, List.find?_cons]
    cases hx : (x.1 == j)
    · exact ct_find j r
    · rfl
section
variable {P : Program} {lo : List Oper} {Q : Exit → Act → World → Prop} {S : World → Prop}
/-- All the table's operations go, each once what it needs is there. -/
def AllGo (P : Program) (lo : List Oper) (Q : Exit → Act → World → Prop) (S : World → Prop) (E : World → World → Prop) (Phi : Nat → Value → World → Prop) (slots : List (Nat × Nat)) (a0 : Act) : List (Nat × Nat × List Nat × Kind E) → Prop
  | [] => True
  | x :: r => (∀ (f : Nat → Value) (w : World), Hid (S w) → (∀ d ∈ x.2.2.1, Phi d (f d) w) →
      ∃ o, lo[x.1]? = some o ∧ o.dst = some x.2.1 ∧ Region.wanted o (yielded lo.toArray (putAll a0 slots f).tmps) = true ∧
        ∀ K : Act → World → Prop, (∀ v w', S w' → E w w' → x.2.2.2.1 v w' → K ((putAll a0 slots f).put (some x.2.1) v) w') → o.wp P (putAll a0 slots f) w K Q) ∧ AllGo P lo Q S E Phi slots a0 r
theorem allGo_mem {Phi : Nat → Value → World → Prop} {slots : List (Nat × Nat)} {a0 : Act} {x : Nat × Nat × List Nat × Kind E} : ∀ {tab : List (Nat × Nat × List Nat × Kind E)}, AllGo P lo Q S E Phi slots a0 tab → x ∈ tab →
    (∀ (f : Nat → Value) (w : World), Hid (S w) → (∀ d ∈ x.2.2.1, Phi d (f d) w) →
      ∃ o, lo[x.1]? = some o ∧ o.dst = some x.2.1 ∧ Region.wanted o (yielded lo.toArray (putAll a0 slots f).tmps) = true ∧
        ∀ K : Act → World → Prop, (∀ v w', S w' → E w w' → x.2.2.2.1 v w' → K ((putAll a0 slots f).put (some x.2.1) v) w') → o.wp P (putAll a0 slots f) w K Q)
  | [], _, h => absurd h (by simp)
  | y :: r, h, hm => by
    rcases List.mem_cons.1 hm with rfl | h1
    · exact h.1
    · exact allGo_mem h.2 h1
theorem wpAnyH_tab (tab : List (Nat × Nat × List Nat × Kind E)) (l0 : Array Bool) (fuel : Nat) (levs : List (List (List Nat))) (done : List Nat) {a0 : Act} {w : World} (slots : List (Nat × Nat)) (deps : List (Nat × List Nat))
    (hs : slots = slotsT tab) (hd : deps = depsT tab) (hB : slotsB slots = true) (hl : (slots.all fun x => !l0.getD x.2 false) = true) (hS : S w)
    (hlev : levelsB .any lo.toArray (CT deps) ([l0] :: (levs.map fun L => L.map (listN l0)) ++ [[listN l0 done]]) = true)
    (hop : AllGo P lo Q S E (PhiT tab) slots a0 tab)
    (hend : ∀ (f : Nat → Value) (w : World), Hid (S w) → (∀ i, (listN l0 done).getD i false = true → PhiT tab i (f i) w) → wpAnyH P .any lo.toArray Q S fuel (listN l0 done) (putAll a0 slots f) w) :
    wpAnyH P .any lo.toArray Q S (fuel + (levs.length + 1)) l0 a0 w := by
  subst hs hd
  refine wpAnyH_group (slotsT tab) (CT (depsT tab)) (PhiT tab) E l0 fuel levs done (phiT_keep tab) hB (phiT_none tab) hl hS hlev ?_ (fun f w hS hf => hend f w (show Hid (S w) from hS) hf)
  intro l f w j hC hSw hf
  unfold CT at hC
  rw [ct_find] at hC
  cases hx : look tab j with
  | none => rw [hx] at hC; cases hC
  | some x =>
    rw [hx] at hC
    have hm : x ∈ tab := List.mem_of_find?_eq_some hx
    have hj : x.1 = j := by
      have := List.find?_some hx
      simpa using this
    subst hj
    have hC' : x.2.2.1.all (fun d => l.getD d false) = true := hC
    rw [List.all_eq_true] at hC'
    obtain ⟨o, h1, h2, h3, h4⟩ := allGo_mem hop hm f w (show Hid (S w) from hSw) (fun d hd => hf d (hC' d hd))
    refine ⟨o, x.2.1, h1, h2, List.mem_map_of_mem (f := fun x => (x.2.1, x.1)) hm, h3, fun K hK => h4 K (fun v w' hS' he hp => hK v w' hS' he ?_)⟩
    show PhiT tab x.1 v w'
    unfold PhiT
    rw [hx]
    exact hp
end
end
/-- The levels' check in pieces: a state's, a level's. -/
def stB (ops : Array Oper) (C : Nat → Array Bool → Bool) (E' : List (Array Bool)) (l : Array Bool) : Bool :=
  !(Region.ready .any ops l).isEmpty && (Region.ready .any ops l).all fun j => C j l && E'.contains (l.setIfInBounds j true)
theorem levelsB_step {ops : Array Oper} {C : Nat → Array Bool → Bool} {E E' : List (Array Bool)} {r : List (List (Array Bool))} (h : E.all (stB ops C E') = true) (h2 : levelsB .any ops C (E' :: r) = true) :
    levelsB .any ops C (E :: E' :: r) = true := by
  show (E.all (stB ops C E') && levelsB .any ops C (E' :: r)) = true
  rw [h, h2]; rfl
/-- The drawn regions of a body, by number. -/
def regs : Code → List (Nat × Array Oper)
  | .region id ops _ => [(id, ops)]
  | .seq a b => regs a ++ regs b
  | .block _ a => regs a
  | .loop a => regs a
  | .cond _ a b => regs a ++ regs b
  | _ => []
def regOf (c : Option Code) (id : Nat) : Array Oper :=
  match c with
  | some c => match (regs c).find? fun x => x.1 == id with
    | some x => x.2
    | none => #[]
  | none => #[]
end Go.Proofs.YtpfckamobjcdhaaDoor
