/- A drawn region in which three operations interleave (the second behind the first, the third wherever), with pure ones ahead and a chain behind; an append of texts, a literal of none, of one, as one operation. No condition. -/
import Derived.Test.YtflgncagoiigfaaDoorRcmp
import Derived.Great.BuildSlice
import Derived.Laws.OwnMore
namespace Go.Proofs.YtflgncagoiigfaaDoor
open Go.RowKit
section
variable {P : Program} {md : Region.Mode} {ops : Array Oper} {Q : Exit → Act → World → Prop}
theorem wanted_plain {o : Oper} (h : o.guard = none) (y : Nat → Option Bool) : Region.wanted o y = true := by unfold Region.wanted; rw [h]
theorem wpOp_plain {i : Nat} {o : Oper} {K : Act → World → Prop} {a : Act} {w : World} (ho : ops[i]? = some o) (hg : o.guard = none) (h : o.wp P a w K Q) : wpOp P ops Q i K a w := by
  unfold wpOp
  rw [ho]
  show if _ then _ else _
  rw [if_pos (wanted_plain hg _)]
  exact .inl h
/-- An operation leaves these worlds, with this value. -/
def Leaves (P : Program) (Q : Exit → Act → World → Prop) (S : World → Prop) (o : Oper) (a : Act) (w : World) (R : Value → World → Prop) : Prop :=
  ∀ K : Act → World → Prop, (∀ v w1, S w1 → R v w1 → K (a.put o.dst v) w1) → o.wp P a w K Q
theorem wpAnyH_tri {S : World → Prop} {fuel : Nat} {listed : Array Bool} {a : Act} {w : World} (i j k : Nat) (oi oj ok : Oper)
    (hi : ops[i]? = some oi) (hj : ops[j]? = some oj) (hk : ops[k]? = some ok) (gi : oi.guard = none) (gj : oj.guard = none) (gk : ok.guard = none)
    (nik : i ≠ k) (njk : j ≠ k)
    (b0 : Region.ready md ops listed = [i, k]) (b1 : Region.ready md ops (listed.setIfInBounds i true) = [j, k])
    (b2 : Region.ready md ops ((listed.setIfInBounds i true).setIfInBounds j true) = [k]) (b3 : Region.ready md ops ((listed.setIfInBounds i true).setIfInBounds k true) = [j])
    (b4 : Region.ready md ops (listed.setIfInBounds k true) = [i])
    (Si Sk Sj : Value → World → Prop) (Sik F : Value → Value → World → Prop)
    (cik : ∀ v u, (a.put ok.dst u).put oi.dst v = (a.put oi.dst v).put ok.dst u)
    (ckj : ∀ v v' u, (((a.put oi.dst v).put ok.dst u).put oj.dst v') = (((a.put oi.dst v).put oj.dst v').put ok.dst u))
    (h1 : Leaves P Q S oi a w Si) (h2 : Leaves P Q S ok a w Sk)
    (h3 : ∀ v w1, Si v w1 → Leaves P Q S oj (a.put oi.dst v) w1 Sj)
    (h4 : ∀ v w1, Si v w1 → Leaves P Q S ok (a.put oi.dst v) w1 (Sik v))
    (h5 : ∀ u w1, Sk u w1 → Leaves P Q S oi (a.put ok.dst u) w1 (fun v => Sik v u))
    (h6 : ∀ v v' w1, Sj v' w1 → Leaves P Q S ok ((a.put oi.dst v).put oj.dst v') w1 (F v'))
    (h7 : ∀ v u w1, Sik v u w1 → Leaves P Q S oj ((a.put oi.dst v).put ok.dst u) w1 (fun v' => F v' u))
    (h : ∀ v v' u w', S w' → F v' u w' → wpAnyH P md ops Q S fuel (((listed.setIfInBounds i true).setIfInBounds j true).setIfInBounds k true) (((a.put oi.dst v).put oj.dst v').put ok.dst u) w') :
    wpAnyH P md ops Q S (fuel + 3) listed a w := by
  have sjk : (listed.setIfInBounds i true).setIfInBounds k true = (listed.setIfInBounds k true).setIfInBounds i true := Array.setIfInBounds_comm _ _ nik
  have sijk : (((listed.setIfInBounds i true).setIfInBounds k true).setIfInBounds j true) = (((listed.setIfInBounds i true).setIfInBounds j true).setIfInBounds k true) := Array.setIfInBounds_comm _ _ (Ne.symm njk)
  have hikj : ∀ v u w1, Sik v u w1 → wpAnyH P md ops Q S (fuel + 1) ((listed.setIfInBounds i true).setIfInBounds k true) ((a.put oi.dst v).put ok.dst u) w1 := fun v u w1 s => by
    refine wpAnyH_all b3 (by simp) fun x hx => ?_
    obtain rfl : x = j := by simpa using hx
    refine wpOp_plain hj gj (h7 v u w1 s _ fun v' w2 e2 f => ?_)
    rw [ckj, sijk]
    exact ⟨e2, h v v' u w2 e2 f⟩
  refine wpAnyH_all b0 (by simp) fun x hx => ?_
  rcases (show x = i ∨ x = k by simpa using hx) with rfl | rfl
  · refine wpOp_plain hi gi (h1 _ fun v w1 e1 s1 => ⟨e1, ?_⟩)
    refine wpAnyH_all b1 (by simp) fun y hy => ?_
    rcases (show y = j ∨ y = k by simpa using hy) with rfl | rfl
    · refine wpOp_plain hj gj (h3 v w1 s1 _ fun v' w2 e2 s2 => ⟨e2, ?_⟩)
      refine wpAnyH_all b2 (by simp) fun z hz => ?_
      obtain rfl : z = k := by simpa using hz
      exact wpOp_plain hk gk (h6 v v' w2 s2 _ fun u w3 e3 f => ⟨e3, h v v' u w3 e3 f⟩)
    · exact wpOp_plain hk gk (h4 v w1 s1 _ fun u w2 e2 s2 => ⟨e2, hikj v u w2 s2⟩)
  · refine wpOp_plain hk gk (h2 _ fun u w1 e1 s1 => ⟨e1, ?_⟩)
    refine wpAnyH_all b4 (by simp) fun y hy => ?_
    obtain rfl : y = i := by simpa using hy
    refine wpOp_plain hi gi (h5 u w1 s1 _ fun v w2 e2 s2 => ⟨e2, ?_⟩)
    rw [cik, ← sjk]
    exact hikj v u w2 s2
/-- A chain: each operation alone may be next. -/
def chB (md : Region.Mode) (ops : Array Oper) : List Nat → Array Bool → Bool
  | [], listed => (Region.ready md ops listed).isEmpty
  | i :: r, listed => decide (Region.ready md ops listed = [i]) && chB md ops r (listed.setIfInBounds i true)
def wpCh (P : Program) (Q : Exit → Act → World → Prop) (S : World → Prop) : List Oper → Act → World → Prop
  | [], a, w => Q .normal a w
  | o :: r, a, w => o.guard = none ∧ ∃ R : Value → World → Prop, Leaves P Q S o a w R ∧ ∀ v w', S w' → R v w' → wpCh P Q S r (a.put o.dst v) w'
/-- A run of pure operations at a region's head. -/
def purB (md : Region.Mode) (ops : Array Oper) : List Nat → Array Bool → Bool
  | [], _ => true
  | i :: r, listed => Region.free md ops listed i && ((Region.ready md ops listed).contains i && purB md ops r (listed.setIfInBounds i true))
def setAll : List Nat → Array Bool → Array Bool
  | [], l => l
  | i :: r, l => setAll r (l.setIfInBounds i true)
def wpPur (P : Program) (ops : Array Oper) (w : World) (K : Act → Prop) : List Oper → Act → Prop
  | [], a => K a
  | o :: r, a => ∃ v, YieldsIf P ops (Ext w) o v a ∧ wpPur P ops w K r (a.put o.dst v)
def pickPur (l : List Oper) : List Nat → List Oper
  | [] => []
  | i :: r => match l[i]? with
    | some o => o :: pickPur l r
    | none => pickPur l r
theorem wpAnyH_pur (hs : Region.noSelect ops = true) (hQ : ∀ c a d v w, Q (.panic c) (a.put d v) w → Q (.panic c) a w) (fuel : Nat) :
    ∀ (l : List Nat) (listed : Array Bool) (a : Act) (w : World), purB md ops l listed = true → (l.all fun x => decide (x < ops.size)) = true →
      wpPur P ops w (fun a' => wpAnyH P md ops Q (Ext w) fuel (setAll l listed) a' w) (pickPur ops.toList l) a → wpAnyH P md ops Q (Ext w) (fuel + l.length) listed a w
  | [], _, _, _, _, _, h => h
  | i :: r, listed, a, w, hB, hl, h => by
    simp only [List.all_cons, Bool.and_eq_true, decide_eq_true_eq] at hl
    have ho : ops.toList[i]? = some ops[i] := by simp [hl.1]
    have ho' : ops[i]? = some ops[i] := by simp [hl.1]
    rw [pickPur, ho] at h
    obtain ⟨v, hy, hr⟩ := h
    simp only [purB, Bool.and_eq_true] at hB
    exact wpAnyH_take ho' hs hB.1 hB.2.1 (fun c a w => hQ c a _ v w) hy (Ext.refl w) (wpAnyH_pur hs hQ fuel r _ _ _ hB.2.2 hl.2 hr)
theorem wpAnyH_ch {S : World → Prop} : ∀ (l : List Nat) (fuel : Nat) (listed : Array Bool) (a : Act) (w : World), l.length ≤ fuel → chB md ops l listed = true → (l.all fun x => decide (x < ops.size)) = true →
      wpCh P Q S (pickPur ops.toList l) a w → wpAnyH P md ops Q S fuel listed a w
  | [], fuel, listed, a, w, _, hB, _, h => wpAnyH_done (by simpa [chB] using hB) h fuel
  | i :: r, 0, _, _, _, hl, _, _, _ => absurd hl (by simp)
  | i :: r, fuel + 1, listed, a, w, hl, hB, ha, h => by
    simp only [List.all_cons, Bool.and_eq_true, decide_eq_true_eq] at ha
    have ho : ops.toList[i]? = some ops[i] := by simp [ha.1]
    have ho' : ops[i]? = some ops[i] := by simp [ha.1]
    rw [pickPur, ho] at h
    obtain ⟨hg, R, h1, h2⟩ := h
    simp only [chB, Bool.and_eq_true, decide_eq_true_eq] at hB
    refine wpAnyH_all hB.1 (by simp) fun x hx => ?_
    obtain rfl : x = i := by simpa using hx
    exact wpOp_plain ho' hg (h1 _ fun v w' hs hr => ⟨hs, wpAnyH_ch r fuel _ _ _ (by simpa using hl) hB.2 ha.2 (h2 v w' hs hr)⟩)
theorem ch_step {S : World → Prop} {o : Oper} {r : List Oper} {a : Act} {w : World} (hg : o.guard = none) (R : Value → World → Prop) (h1 : Leaves P Q S o a w R) (h2 : ∀ v w', S w' → R v w' → wpCh P Q S r (a.put o.dst v) w') : wpCh P Q S (o :: r) a w := ⟨hg, R, h1, h2⟩
theorem ch_pure {S : World → Prop} {o : Oper} {r : List Oper} {a : Act} {w : World} {v : Value} (hg : o.guard = none) (hS : S w) (hy : (execOp a.eval o).run P w = .ok (.value v) w) (h : wpCh P Q S r (a.put o.dst v) w) : wpCh P Q S (o :: r) a w :=
  ⟨hg, fun u w' => u = v ∧ w' = w, fun K hK => by unfold Oper.wp; rw [hy]; exact hK _ _ hS ⟨rfl, rfl⟩, by rintro _ _ _ ⟨rfl, rfl⟩; exact h⟩
theorem ch_nil {S : World → Prop} {a : Act} {w : World} (h : Q .normal a w) : wpCh P (NoPanic Q) S [] a w := h
theorem pur_step {o : Oper} {r : List Oper} {a : Act} {w : World} {K : Act → Prop} {v : Value} (hw : Region.wanted o (yielded ops a.tmps) = true)
    (hy : ∀ w', Ext w w' → (execOp a.eval o).run P w' = .ok (.value v) w') (h : wpPur P ops w K r (a.put o.dst v)) : wpPur P ops w K (o :: r) a := ⟨v, .inl ⟨hw, hy⟩, h⟩
theorem pur_nil {a : Act} {w : World} {K : Act → Prop} (h : K a) : wpPur P ops w K [] a := h
end
theorem wpPur_mono {P : Program} {ops : Array Oper} {w : World} {K K' : Act → Prop} (hK : ∀ a, K a → K' a) : ∀ (l : List Oper) (a : Act), wpPur P ops w K l a → wpPur P ops w K' l a
  | [], a, h => hK a h
  | _ :: r, _, h => by
    obtain ⟨v, hy, hr⟩ := h
    exact ⟨v, hy, wpPur_mono hK r _ hr⟩
/-- What the three of them ask and leave. -/
def TriGoal (P : Program) (Q : Exit → Act → World → Prop) (oi oj ok : Oper) (S : World → Prop) (C : Act → World → Prop) (w : World) (a : Act) : Prop :=
  ∃ (Si Sk Sj : Value → World → Prop) (Sik F : Value → Value → World → Prop),
    Leaves P Q S oi a w Si ∧ Leaves P Q S ok a w Sk ∧
    (∀ v w1, Si v w1 → Leaves P Q S oj (a.put oi.dst v) w1 Sj) ∧
    (∀ v w1, Si v w1 → Leaves P Q S ok (a.put oi.dst v) w1 (Sik v)) ∧
    (∀ u w1, Sk u w1 → Leaves P Q S oi (a.put ok.dst u) w1 (fun v => Sik v u)) ∧
    (∀ v v' w1, Sj v' w1 → Leaves P Q S ok ((a.put oi.dst v).put oj.dst v') w1 (F v')) ∧
    (∀ v u w1, Sik v u w1 → Leaves P Q S oj ((a.put oi.dst v).put ok.dst u) w1 (fun v' => F v' u)) ∧
    ∀ v v' u w', S w' → F v' u w' → C (((a.put oi.dst v).put oj.dst v').put ok.dst u) w'
def triB (q : Array Oper) (l : List Nat) (i j k : Nat) (l2 : List Nat) : Bool :=
  let l0 := setAll l (Array.replicate q.size false)
  (decide (q.size = l2.length + 3 + l.length) && (purB .any q l (Array.replicate q.size false) && l.all fun x => decide (x < q.size))) &&
  ((decide (Region.ready .any q l0 = [i, k]) && decide (Region.ready .any q (l0.setIfInBounds i true) = [j, k])) &&
  ((decide (Region.ready .any q ((l0.setIfInBounds i true).setIfInBounds j true) = [k]) && decide (Region.ready .any q ((l0.setIfInBounds i true).setIfInBounds k true) = [j])) &&
  (decide (Region.ready .any q (l0.setIfInBounds k true) = [i]) && (chB .any q l2 (((l0.setIfInBounds i true).setIfInBounds j true).setIfInBounds k true) && l2.all fun x => decide (x < q.size)))))
theorem wp_region_tri {P : Program} {Q : Exit → Act → World → Prop} {id : Nat} {a : Act} {w : World} {lo : List Oper} (l : List Nat) (i j k : Nat) (l2 : List Nat) (oi oj ok : Oper)
    (hi : lo[i]? = some oi) (hj : lo[j]? = some oj) (hk : lo[k]? = some ok) (gi : oi.guard = none) (gj : oj.guard = none) (gk : ok.guard = none) (nik : i ≠ k) (njk : j ≠ k)
    (di : ∀ d, ok.dst = some d → oi.dst ≠ some d) (dj : ∀ d, ok.dst = some d → oj.dst ≠ some d)
    (hm : P.follows .mixedOrders = true) (hs : Region.noSelect lo.toArray = true) (q : Array Oper) (hB : triB q l i j k l2 = true) (hq : lo.toArray = q)
    (h : wpPur P lo.toArray w.drew (TriGoal P (NoPanic Q) oi oj ok (Ext w.drew) (wpCh P (NoPanic Q) (Ext w.drew) (pickPur lo l2)) w.drew) (pickPur lo l) a) : (Code.region id lo.toArray true).wp P Q a w := by
  subst hq
  unfold triB at hB
  simp only [Bool.and_eq_true, decide_eq_true_eq] at hB
  obtain ⟨⟨b0, b1, b2⟩, ⟨b3, b4⟩, ⟨b5, b6⟩, b7, b8, b9⟩ := hB
  refine wp_region_noPanic (wp_region_held_drew (S := Ext w.drew) hm (Ext.refl _) fun _ => ?_)
  have hi' : lo.toArray[i]? = some oi := by simpa using hi
  have hj' : lo.toArray[j]? = some oj := by simpa using hj
  have hk' : lo.toArray[k]? = some ok := by simpa using hk
  refine (congrArg (fun n => wpAnyH P .any lo.toArray (NoPanic Q) (Ext w.drew) n (Array.replicate lo.toArray.size false) a w.drew) b0).mpr ?_
  refine wpAnyH_pur hs (fun _ _ _ _ _ h => h) _ l _ _ _ b1 b2 ?_
  refine wpPur_mono (fun a' h' => ?_) _ _ h
  obtain ⟨Si, Sk, Sj, Sik, F, h1, h2, h3, h4, h5, h6, h7, h8⟩ := h'
  exact wpAnyH_tri i j k oi oj ok hi' hj' hk' gi gj gk nik njk b3 b4 b5 b6 b7 Si Sk Sj Sik F (fun v u => Act.put_comm _ u v di) (fun v v' u => Act.put_comm _ u v' dj) h1 h2 h3 h4 h5 h6 h7 fun v v' u w' e f =>
    wpAnyH_ch l2 _ _ _ _ (Nat.le_refl _) b8 b9 (h8 v v' u w' e f)
/-- The row's other blocks stay. -/
theorem wp_append_ts {o : Oper} {a : Act} {w : World} {K : Act → World → Prop} {Q : Exit → Act → World → Prop} (s x : Operand)
    (ho : o.op = .call { callee := .builtin .append, args := #[s, x], argTypes := #[23, 23] })
    (base : Nat) (v : Value) (n : Nat) (xs : List Value) (hs : a.eval s = v) (hown : w.ownsRow base 9 1 v n xs)
    (q : Option Addr) (l : List Tx) (m cap b : Nat) (hm : l.length = m) (hx : a.eval x = .slice q m cap) (hq : q = none → cap = 0) (hl : Sees w b q (l.map encStr))
    (hbytes : n + m ≤ 4194304) (hbase : base ≤ w.heap.size)
    (h : ∀ v' w', w'.ownsRow base 9 1 v' (n + m) (xs ++ l.map encStr) → w.grownBy w' v.ownBlock → K (a.put o.dst v') w') : o.wp Tryd.prog a w K Q := by
  subst hm
  obtain ⟨i0, hi, hz0, hz1, hz2⟩ := info_parts str_info
  rcases q with _ | ad
  · have hl0 : l = [] := by
      rcases l with _ | ⟨y, l⟩
      · rfl
      · obtain ⟨a, h1, _⟩ := hl.get (by simp)
        cases h1
    subst hl0
    obtain rfl := hq rfl
    have hrun := run_append_owned_none (P := Tryd.prog) (w := w) base 23 o.type 9 i0 1 Tryd.underlying23 hi v n xs hown
    have hx' : a.eval x = .slice none 0 0 := hx
    unfold Oper.wp
    simp [execOp, ho, resolve, invoke, builtin, hs, hx', hrun, Result.andThen]
    exact h v w (by simpa using hown) ⟨rfl, rfl, rfl, Nat.le_refl _, fun _ _ _ => rfl⟩
  · by_cases hl0 : l = []
    · subst hl0
      refine wp_append_own w s x 23 ho base 9 i0 (.string ⟨#[]⟩) 1 16 Tryd.underlying23 hi hz0 hz1 hz2 rfl (by decide) v n xs hs hown ad 0 cap [] hx rfl (fun j u hj => by simp at hj) (fun u hu => by cases hu) (by unfold maxLen; simp at hbytes; omega) (by simp at hbytes; omega) hbase (fun v' w' h1 h2 _ => ?_)
      exact h v' w' (by simpa using h1) h2
    · refine wp_append_own w s x 23 ho base 9 i0 (.string ⟨#[]⟩) 1 16 Tryd.underlying23 hi hz0 hz1 hz2 rfl (by decide) v n xs hs hown ad l.length cap (l.map encStr) hx (by simp) (fun j u hj => ?_) (fun u hu => ?_) (by unfold maxLen; omega) (by omega) hbase (fun v' w' h1 h2 _ => ?_)
      · obtain ⟨a', h1, _, h3⟩ := hl.get (by have := (List.getElem?_eq_some_iff.1 hj).1; omega)
        cases h1
        exact h3 j u hj
      · obtain ⟨y, _, rfl⟩ := List.mem_map.1 hu
        rfl
      · exact h v' w' h1 h2
theorem run_none (w : World) : (Instr.buildSlice 23 0 #[]).run Tryd.prog w = .ok (.slice (some ⟨w.heap.size, 0, none⟩) 0 0) (w.alloc (.cells #[] 9)) := by
  obtain ⟨i0, hi, hz0, hz1, hz2⟩ := info_parts str_info
  simp [Instr.buildSlice, run_underlying Tryd.underlying23, sizeOf, typeInfo, hi, newRow, Instr.fill]
  rw [show Array.range 0 = #[] by kernel_rfl, Array.map_empty]
theorem wp_none {o : Oper} {a : Act} {w : World} {K : Act → World → Prop} {Q : Exit → Act → World → Prop} (ho : o.op = .buildSlice 23 0 #[])
    (h : K (a.put o.dst (.slice (some ⟨w.heap.size, 0, none⟩) 0 0)) (w.alloc (.cells #[] 9))) : o.wp Tryd.prog a w K Q := by
  unfold Oper.wp execOp
  simp only [ho, Sem.run_bind]
  rw [Array.map_empty, run_none]
  exact h
theorem wp_one {o : Oper} {a : Act} {w : World} {K : Act → World → Prop} {Q : Exit → Act → World → Prop} (x : Operand) (ho : o.op = .buildSlice 23 1 #[(0, x)]) (b : ByteArray) (hx : a.eval x = .string b)
    (h : K (a.put o.dst (.slice (some ⟨w.heap.size, 0, none⟩) 1 1)) (w.alloc (.cells #[.string b] 9))) : o.wp Tryd.prog a w K Q := by
  obtain ⟨i0, hi, hz0, hz1, hz2⟩ := info_parts str_info
  refine wp_buildSlice 23 9 1 _ ho #[.string b] i0 (.string ⟨#[]⟩) Tryd.underlying23 hi hz0 (by rw [hz1]; omega) (by rw [hz1]; omega) ?_ h
  rw [hz1]
  simp only [List.map_toArray, List.map_cons, List.map_nil, hx]
  kernel_rfl
theorem Sees.one {w : World} {g : Nat} {t : Tx} (hc : w.cell? ⟨g, 0, none⟩ = some (encStr t)) : Sees w w.heap.size (some ⟨g, 0, none⟩) ([t].map encStr) := fun _ =>
  ⟨_, rfl, World.block_lt_of_cell? w _ hc, fun j u hj => by
    cases j with
    | zero => simp at hj; subst hj; simpa [Addr.add] using hc
    | succ j => simp at hj⟩
theorem ext_alloc (w : World) (o : Obj) : Ext w (w.alloc o) := (Below.refl _ _).alloc (Nat.le_refl _) o
theorem ext_grown {b : Nat} {w w' : World} {v : Value} {n : Nat} {xs : List Value} {e : TypeId} (hb : b ≤ w.heap.size) (hg : w.grownBy w' v.ownBlock) (ho : w.ownsRow b e 1 v n xs) : Below b w w' :=
  (Below.refl b w).grown hg hb (fun k hk => (ho.lt k hk).1)
/-- A row of none, some texts put behind it, one text's own row: in whatever order. -/
theorem tri_goal {Q : Exit → Act → World → Prop} {oi oj ok : Oper} {C : Act → World → Prop} {a : Act} {w : World} (s x y : Operand)
    (hoi : oi.op = .buildSlice 23 0 #[]) (hoj : oj.op = .call { callee := .builtin .append, args := #[s, x], argTypes := #[23, 23] }) (hok : ok.op = .buildSlice 23 1 #[(0, y)])
    (q : Option Addr) (l : List Tx) (m cap : Nat) (b : ByteArray) (hm : l.length = m) (hq : q = none → cap = 0) (hn : m ≤ 4000000) (hsee : Sees w w.heap.size q (l.map encStr))
    (es : ∀ v, (a.put oi.dst v).eval s = v) (es2 : ∀ v u, ((a.put oi.dst v).put ok.dst u).eval s = v)
    (ex : ∀ v, (a.put oi.dst v).eval x = .slice q m cap) (ex2 : ∀ v u, ((a.put oi.dst v).put ok.dst u).eval x = .slice q m cap)
    (ey : a.eval y = .string b) (ey2 : ∀ v, (a.put oi.dst v).eval y = .string b) (ey3 : ∀ v v', ((a.put oi.dst v).put oj.dst v').eval y = .string b)
    (h : ∀ v v' u w', Ext w w' → w'.ownsRow w.heap.size 9 1 v' m (l.map encStr) → (∃ g, u = .slice (some ⟨g, 0, none⟩) 1 1 ∧ w'.cell? ⟨g, 0, none⟩ = some (.string b)) → C (((a.put oi.dst v).put oj.dst v').put ok.dst u) w') :
    TriGoal Tryd.prog Q oi oj ok (Ext w) C w a := by
  have new : ∀ (w1 : World), (w1.alloc (.cells #[.string b] 9)).cell? ⟨w1.heap.size, 0, none⟩ = some (.string b) := fun w1 => by simp
  have ext : ∀ (w1 : World) (o : Obj), Ext w w1 → Ext w (w1.alloc o) := fun w1 o h => Below.alloc h h.size o
  refine ⟨fun v w1 => w1.ownsRow w.heap.size 9 1 v 0 [] ∧ Ext w w1, fun u w1 => (∃ g, u = .slice (some ⟨g, 0, none⟩) 1 1 ∧ w1.cell? ⟨g, 0, none⟩ = some (.string b)) ∧ Ext w w1,
    fun v' w1 => w1.ownsRow w.heap.size 9 1 v' m (l.map encStr) ∧ Ext w w1,
    fun v u w1 => w1.ownsRow w.heap.size 9 1 v 0 [] ∧ (∃ g, u = .slice (some ⟨g, 0, none⟩) 1 1 ∧ w1.cell? ⟨g, 0, none⟩ = some (.string b) ∧ some g ≠ v.ownBlock) ∧ Ext w w1,
    fun v' u w1 => w1.ownsRow w.heap.size 9 1 v' m (l.map encStr) ∧ (∃ g, u = .slice (some ⟨g, 0, none⟩) 1 1 ∧ w1.cell? ⟨g, 0, none⟩ = some (.string b)), ?_, ?_, ?_, ?_, ?_, ?_, ?_, ?_⟩
  · exact fun K hK => wp_none hoi (hK _ _ (ext _ _ (Ext.refl w)) ⟨World.ownsRow_made w #[] 0 (Nat.le_refl _) (Nat.zero_le _) rfl, ext _ _ (Ext.refl w)⟩)
  · exact fun K hK => wp_one y hok b ey (hK _ _ (ext _ _ (Ext.refl w)) ⟨⟨_, rfl, new w⟩, ext _ _ (Ext.refl w)⟩)
  · rintro v w1 ⟨ho, he⟩ K hK
    refine wp_append_ts s x hoj w.heap.size v 0 [] (es v) ho q l m cap w.heap.size hm (ex v) hq (hsee.keep he) (by omega) he.size fun v' w2 h1 h2 => ?_
    have hb := Below.trans he (ext_grown he.size h2 ho)
    exact hK _ _ hb ⟨by simpa using h1, hb⟩
  · rintro v w1 ⟨ho, he⟩ K hK
    exact wp_one y hok b (ey2 v) (hK _ _ (ext _ _ he) ⟨ho.alloc _, ⟨_, rfl, new w1, fun e => by have := (ho.lt _ e.symm).2; omega⟩, ext _ _ he⟩)
  · rintro u w1 ⟨⟨g, rfl, hc⟩, he⟩ K hK
    have hg := World.block_lt_of_cell? w1 _ hc
    refine wp_none hoi (hK _ _ (ext _ _ he) ⟨World.ownsRow_made w1 #[] 0 he.size (Nat.zero_le _) rfl, ⟨g, rfl, ?_, fun e => ?_⟩, ext _ _ he⟩)
    · exact (Below.cell ((Below.refl w1.heap.size w1).alloc (Nat.le_refl _) _) hg).trans hc
    · injection e with e
      have hg2 : g < w1.heap.size := hg
      have e2 : g = w1.heap.size := e
      omega
  · rintro v v' w1 ⟨ho, he⟩ K hK
    exact wp_one y hok b (ey3 v v') (hK _ _ (ext _ _ he) ⟨ho.alloc _, ⟨_, rfl, new w1⟩⟩)
  · rintro v u w1 ⟨ho, ⟨g, rfl, hc, hne⟩, he⟩ K hK
    refine wp_append_ts s x hoj w.heap.size v 0 [] (es2 v _) ho q l m cap w.heap.size hm (ex2 v _) hq (hsee.keep he) (by omega) he.size fun v' w2 h1 h2 => ?_
    exact hK _ _ (Below.trans he (ext_grown he.size h2 ho)) ⟨by simpa using h1, ⟨g, rfl, h2.cell hc hne⟩⟩
  · rintro v v' u w' e ⟨h1, h2⟩
    exact h v v' u w' e h1 h2
/-- Texts put behind a row of the call's own. -/
theorem leaves_more {Q : Exit → Act → World → Prop} {o : Oper} {a : Act} {w0 w : World} (s x : Operand) (ho : o.op = .call { callee := .builtin .append, args := #[s, x], argTypes := #[23, 23] })
    (v : Value) (n : Nat) (xs : List Value) (hs : a.eval s = v) (hown : w.ownsRow w0.heap.size 9 1 v n xs) (he : Ext w0 w)
    (q : Option Addr) (l : List Tx) (m cap b : Nat) (hm : l.length = m) (hx : a.eval x = .slice q m cap) (hq : q = none → cap = 0) (hl : Sees w b q (l.map encStr)) (hbytes : n + m ≤ 4194304) :
    Leaves Tryd.prog Q (Ext w0) o a w (fun v' w' => w'.ownsRow w0.heap.size 9 1 v' (n + m) (xs ++ l.map encStr)) := fun _ hK =>
  wp_append_ts s x ho w0.heap.size v n xs hs hown q l m cap b hm hx hq hl hbytes he.size fun _ _ h1 h2 => hK _ _ (Below.trans he (ext_grown he.size h2 hown)) h1
theorem slice_head {o : Oper} {a : Act} {w : World} (x y : Operand) (q : Option Addr) (n c k : Nat) (ho : o.op = .slice 23 x none (some y) none) (hx : a.eval x = .slice q n c) (hy : a.eval y = .int .i64 (k : Int)) (hk : k ≤ n) (hn : n ≤ c) :
    (execOp a.eval o).run Tryd.prog w = .ok (.value (.slice q k c)) w := by
  obtain ⟨i0, hi, hz0, hz1, hz2⟩ := info_parts str_info
  have e : q.map (fun a : Addr => a.add 0) = q := by cases q <;> simp [Addr.add]
  unfold execOp
  simp [ho, hx, hy, Instr.sliceAt, Instr.slice, run_underlying Tryd.underlying23, Instr.sliceBounds, Instr.sliceBound, asIntOf, sizeOf, typeInfo, hi, e]
  intro hc
  omega
theorem slice_tail {o : Oper} {a : Act} {w : World} (x y : Operand) (q : Option Addr) (n c k : Nat) (ho : o.op = .slice 23 x (some y) none none) (hx : a.eval x = .slice q n c) (hy : a.eval y = .int .i64 (k : Int)) (hk : k ≤ n) :
    (execOp a.eval o).run Tryd.prog w = .ok (.value (.slice (if c = k then q else q.map (·.add k)) (n - k) (c - k))) w := by
  obtain ⟨i0, hi, hz0, hz1, hz2⟩ := info_parts str_info
  unfold execOp
  simp [ho, hx, hy, Instr.sliceAt, Instr.slice, run_underlying Tryd.underlying23, Instr.sliceBounds, Instr.sliceBound, asIntOf, sizeOf, typeInfo, hi, hz1]
  intro hc
  omega
end Go.Proofs.YtflgncagoiigfaaDoor
