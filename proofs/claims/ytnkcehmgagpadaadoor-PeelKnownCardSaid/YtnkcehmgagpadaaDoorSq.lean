/- Short laws for written walks. No condition. -/
import Derived.Test.YtnkcehmgagpadaaDoorFob
namespace Go.Proofs.YtnkcehmgagpadaaDoor
open Go.RowKit
theorem pA {f : Nat → Value} (s i : Nat) {r : List (Nat × Nat)} {a A : Act} (hA : putAll a r f = A) (hB : slotsB r = true) (h : r.contains (s, i) = true) {n : Nat} (hn : a.tmps.size = n) (hs : decide (s < n) = true) {v : Value} (hv : f i = v) : A.eval (.tmp s) = v := by
  rw [← hA]; exact putAll_at f s i r a hB h hn hs hv
theorem pG {f : Nat → Value} (s i : Nat) {r : List (Nat × Nat)} {a A : Act} (hA : putAll a r f = A) (hB : slotsB r = true) (h : r.contains (s, i) = true) {n : Nat} (hn : a.tmps.size = n) (hs : decide (s < n) = true) {v : Value} (hv : f i = v) : A.tmps[s]? = some v := by
  rw [← hA]; exact putAll_g f s i r a hB h hn hs hv
theorem pO {f : Nat → Value} (s : Nat) {r : List (Nat × Nat)} {a A : Act} (hA : putAll a r f = A) (h : (r.all fun x => x.1 != s) = true) {v : Value} (hv : a.eval (.tmp s) = v) : A.eval (.tmp s) = v := by
  rw [← hA]; exact putAll_off f s r a h hv
theorem uS {f : Nat → Value} {j : Nat} {v : Value} : updF f j v j = v := updF_self f j v
theorem mp1 {ev : Operand → Value} {a : Operand} {u : Value} (h : ev a = u) : #[a].map ev = #[u] := by simp [h]
theorem mp2 {ev : Operand → Value} {a b : Operand} {u v : Value} (h : ev a = u) (k : ev b = v) : #[a, b].map ev = #[u, v] := by simp [h, k]
theorem mp3 {ev : Operand → Value} {a b c : Operand} {u v x : Value} (h : ev a = u) (k : ev b = v) (l : ev c = x) : #[a, b, c].map ev = #[u, v, x] := by simp [h, k, l]
theorem eqL {E : World → World → Prop} {L : List (Fct E)} {j : Nat} {f : Nat → Value} {w : World} {v : Value} (h : Lft L j f w) (e : factAt L j = Fct.val E j v) : f j = v := by
  unfold Lft at h; rw [e] at h; exact h
theorem qA {f : Nat → Value} (s i : Nat) {r : List (Nat × Nat)} {a A : Act} (hA : putAll a r f = A) (hB : slotsB r = true) {n : Nat} (hn : a.tmps.size = n) {v : Value} (hv : f i = v) (h : r.contains (s, i) = true := by kernel_rfl) (hs : decide (s < n) = true := by rfl) : A.eval (.tmp s) = v := pA s i hA hB h hn hs hv
theorem qG {f : Nat → Value} (s i : Nat) {r : List (Nat × Nat)} {a A : Act} (hA : putAll a r f = A) (hB : slotsB r = true) {n : Nat} (hn : a.tmps.size = n) {v : Value} (hv : f i = v) (h : r.contains (s, i) = true := by kernel_rfl) (hs : decide (s < n) = true := by rfl) : A.tmps[s]? = some v := pG s i hA hB h hn hs hv
theorem qO {f : Nat → Value} (s : Nat) {r : List (Nat × Nat)} {a A : Act} (hA : putAll a r f = A) {v : Value} (hv : a.eval (.tmp s) = v) (h : (r.all fun x => x.1 != s) = true := by kernel_rfl) : A.eval (.tmp s) = v := pO s hA h hv
section
variable {lo : List Oper} {Q : Exit → Act → World → Prop} {S : World → Prop} {L : List (Fct Flz)} {A : Act} {f : Nat → Value} {w : World} {j : Nat} {o : Oper}
theorem fV (ho : lo[j]? = some o) (hw : Region.wanted o (yielded lo.toArray A.tmps) = true) (v : Value) (hr : (execOp A.eval o).run Tryd.prog w = .ok (.value v) w) (hS : S w) (hP : Lft L j (updF f j v) w) : FlwOp Tryd.prog lo Q S Flz L A f w j :=
  flw_val ho hw v hr hS (Flz.refl _) hP
theorem fC {W : World} (ho : lo[j]? = some o) (hw : Region.wanted o (yielded lo.toArray A.tmps) = true) (g : FuncId) (xs : Array Operand) (ts : Array TypeId) (hop : o.op = .call { callee := .value (.func g), args := xs, argTypes := ts })
    (us : Array Value) (hx : xs.map A.eval = us) (hcf : ∀ w, (callFunc g us).run Tryd.prog w = .ok (.enter g us) w) (R : Value → World → Prop) (hc : Calls Tryd.prog g us w fun e w' => (∃ v, e = .returned v ∧ R v w') ∧ Below w.heap.size w w')
    (hS : Below W.heap.size W w) (h : ∀ v w', R v w' → Lft L j (updF f j v) w') : FlwOp Tryd.prog lo Q (fun w' => Below W.heap.size W w') Flz L A f w j :=
  flw_call ho hw g xs ts hop us hx hcf R hc (fun v w' hr hb => ⟨hS.trans (hb.mono hS.size), Flz.of hb, h v w' hr⟩)
end
theorem wrO {lo : List Oper} {Q : Exit → Act → World → Prop} {id : Nat} {a : Act} {w : World} (A : List Nat) (slots : List (Nat × Nat)) (D : Nat → List Nat) (L : List (Fct Flz)) (S : World → Prop) (q : Array Oper) (n m : Nat)
    (hq : flwO slots D n q = true) (hon : onB (n + m) L D = true) (hnm : n + m = lo.length) (he : lo.toArray = q) (hAn : (A.all fun i => decide (i < n)) = true) (hS : S w)
    (hop : ∀ (j : Nat), j < n → ∀ (f : Nat → Value) (w : World), S w → (∀ d ∈ D j, Lft L d f w) → ∀ B, putAll a slots f = B → FlwX A Tryd.prog lo Q S Flz L B f w j)
    (hend : ∀ (f : Nat → Value) (w : World), S w → (∀ i, i < n → Lft L i f w) → Aparts A f → wpTail Tryd.prog lo.toArray Q m n (putAll a slots f) w) : (Code.region id lo.toArray false).wp Tryd.prog Q a w :=
  wp_region_flwo A slots D L S q n m hq hon hnm he hAn hS (fun j hj f w h1 h2 => hop j hj f w h1 h2 _ rfl) hend
theorem wrD {lo : List Oper} {Q : Exit → Act → World → Prop} {id : Nat} {a : Act} {w : World} (A : List Nat) (slots : List (Nat × Nat)) (D : Nat → List Nat) (L : List (Fct Flz)) (S : World → Prop) (q : Array Oper) (n m : Nat)
    (hq : flwB slots D n q = true) (hon : onB (n + m) L D = true) (hnm : n + m = lo.length) (he : lo.toArray = q) (hm : Tryd.prog.follows .mixedOrders = true) (hAn : (A.all fun i => decide (i < n)) = true) (hS : S w.drew)
    (hop : ∀ (j : Nat), j < n → ∀ (f : Nat → Value) (w : World), S w → (∀ d ∈ D j, Lft L d f w) → ∀ B, putAll a slots f = B → FlwX A Tryd.prog lo (NoPanic Q) S Flz L B f w j)
    (hend : ∀ (f : Nat → Value) (w : World), S w → (∀ i, i < n → Lft L i f w) → Aparts A f → wpTail Tryd.prog lo.toArray (NoPanic Q) m n (putAll a slots f) w) : (Code.region id lo.toArray true).wp Tryd.prog Q a w :=
  wp_region_flw A slots D L S q n m hq hon hnm he hm hAn hS (fun j hj f w h1 h2 => hop j hj f w h1 h2 _ rfl) hend
end Go.Proofs.YtnkcehmgagpadaaDoor
