/- Contract: the document's own Cmp. Condition: thirty-two bytes each. -/
import Derived.Test.YtepeloenijlnhaaDoorGp14
import Derived.Test.YtepeloenijlnhaaDoorUr
import Derived.Test.YtepeloenijlnhaaDoorUe
import Derived.Great.BuildSlice
import Derived.Laws.OwnMore
namespace Go.Proofs.YtepeloenijlnhaaDoor
open Go.RowKit
set_option maxHeartbeats 1000000 in
theorem rcmp_any (x y : List (BitVec 8)) (hx : x.length = 32) (hy : y.length = 32) (w : World) :
    Calls Tryd.prog 56 #[.agg (x.map u8v).toArray, .agg (y.map u8v).toArray] w fun e w' => e = .returned (.int .i64 (cmpL x y)) ∧ Below w.heap.size w w' := by
  obtain ⟨cx, hcx⟩ : ∃ cx, cx = x.map u8v := ⟨_, rfl⟩
  obtain ⟨cy, hcy⟩ : ∃ cy, cy = y.map u8v := ⟨_, rfl⟩
  rw [← hcx, ← hcy]
  have Hcx := Lib.hid hcx
  have Hcy := Lib.hid hcy
  have Hx := Lib.hid hx
  have Hy := Lib.hid hy
  clear hcx hcy hx hy
  go_enter Tryd.func56, Tryd.ntmps56
  go_wp2_with fail
  generalize hw0 : (w.alloc _).alloc _ = w0
  have h2 : Has w0 w.heap.size 52 (x.map u8v) := by
    subst hw0; rw [← Hcx.out]; exact (Has.made' _ _ _ _ rfl).alloc _
  have h3 : Has w0 (w.heap.size + 1) 52 (y.map u8v) := by
    subst hw0; rw [← Hcy.out]; exact Has.made1 _ _ _ _ _ rfl
  have hB : Below w.heap.size w w0 := by
    subst hw0; exact ((Below.refl _ _).alloc (Nat.le_refl _) _).alloc (by simp) _
  clear hw0
  go_loopw [5] (fun i wr => ∃ k : Nat, k ≤ 32 ∧ i = .int .i64 k ∧ x.take k = y.take k ∧ Has wr w.heap.size 52 (x.map u8v) ∧ Has wr (w.heap.size + 1) 52 (y.map u8v) ∧ Below w.heap.size w wr)
    (fun i _ => 32 - (intOf i).toNat)
  case atStart => exact ⟨0, by omega, rfl, rfl, h2, h3, hB⟩
  case round =>
    clear h2 h3 hB
    rename_i wr
    obtain ⟨k, hk, rfl, htk, h2, h3, hB⟩ := hrel
    by_cases hlt : k < 32
    · have cs := h2.cellv (at8_of x k (by rw [Hx.out]; exact hlt))
      have co := h3.cellv (at8_of y k (by rw [Hy.out]; exact hlt))
      have hsp := split_at x y k (by rw [Hx.out]; exact hlt) (by rw [Hy.out]; exact hlt) htk
      have htn := fun he => take_next x y k (by rw [Hx.out]; exact hlt) (by rw [Hy.out]; exact hlt) htk he
      have k1 : (k : Int) < 32 := by omega
      have Hsp := Lib.hid hsp
      have Htn := Lib.hid htn
      clear hsp htn htk
      generalize at8 x k = p at *
      generalize at8 y k = q at *
      by_cases hpq : B p < B q
      · have hr : cmpL x y = -1 := by rw [Hsp.out, cmpL, if_pos hpq]
        have Hr := Lib.hid hr
        clear hr
        go_wp2_with fail
        go_quiet (fail)
        go_wp2_with fail
        go_ret
        exact ⟨congrArg (fun n => Ending.returned (.int .i64 n)) Hr.out.symm, below_drewN hB _⟩
      · by_cases hqp : B q < B p
        · have hr : cmpL x y = 1 := by rw [Hsp.out, cmpL, if_neg hpq, if_pos hqp]
          have Hr := Lib.hid hr
          clear hr
          go_wp2_with fail
          go_quiet (fail)
          go_wp2_with fail
          go_quiet (fail)
          go_wp2_with fail
          go_ret
          exact ⟨congrArg (fun n => Ending.returned (.int .i64 n)) Hr.out.symm, below_drewN (below_drewN hB _) _⟩
        · have he : p = q := B_inj (by omega)
          have Ht := Lib.hid (Htn.out he)
          go_wp2_with fail
          go_quiet (fail)
          go_wp2_with fail
          go_quiet (fail)
          go_wp2_with fail
          go_roundw
          case rel => exact ⟨k + 1, by omega, by go_num, Ht.out, h2.drewN _, h3.drewN _, below_drewN hB _⟩
          case measure => simp [intOf]; omega
    · have : k = 32 := by omega
      subst this
      have hxy : x = y := by
        rw [List.take_of_length_le (by rw [Hx.out]; exact Nat.le_refl _), List.take_of_length_le (by rw [Hy.out]; exact Nat.le_refl _)] at htk
        exact htk
      have Hr := Lib.hid (show cmpL x y = 0 by rw [hxy, cmpL_self])
      clear hxy htk
      go_wp2_with fail
      go_ret
      exact ⟨congrArg (fun n => Ending.returned (.int .i64 n)) Hr.out.symm, hB⟩

end Go.Proofs.YtepeloenijlnhaaDoor
/- Contracts: the law's own sets as the document's (the law's 'own'), the document's own Good, Same, Has. Condition: at most 10^5 sums. -/
namespace Go.Proofs.YtepeloenijlnhaaDoor
open Go.RowKit
theorem elRef : ElT 49 52 := ⟨Tryd.underlying49, Tryd.underlying52, by kernel_rfl⟩
theorem elRefs : ElT 48 52 := ⟨Tryd.underlying48, Tryd.underlying52, by kernel_rfl⟩
theorem szRef : (Tryd.prog.info? 52).map (·.size) = some 32 := by kernel_rfl
theorem gdRef : Tryd.prog.eqGuardType Tryd.prog.depth 52 = false := by kernel_rfl
theorem rcmpS_any (x y : Su) (w : World) : Calls Tryd.prog 56 #[.agg (encU x).toArray, .agg (encU y).toArray] w fun e w' => e = .returned (.int .i64 (cmpU x y)) ∧ Below w.heap.size w w' := rcmp_any x.1 y.1 x.2 y.2 w
end Go.Proofs.YtepeloenijlnhaaDoor
/- A drawn region in which three operations interleave (the second behind the first, the third wherever), with pure ones ahead and a chain behind; rows of sums put together so. No condition. -/
namespace Go.Proofs.YtepeloenijlnhaaDoor
open Go.RowKit
section
variable {P : Program} {md : Region.Mode} {ops : Array Oper} {Q : Exit → Act → World → Prop}
theorem wanted_plain {o : Oper} (h : o.guard = none) (y : Nat → Option Bool) : Region.wanted o y = true := by unfold Region.wanted; rw [h]
theorem wpOp_plain {i : Nat} {o : Oper} {K : Act → World → Prop} {a : Act} {w : World} (ho : ops[i]? = some o) (hg : o.guard = none) (h : o.wp P a w K Q) : wpOp P ops Q i K a w := by
  unfold wpOp
  rw [ho]
  show if _ then _ else _
  rw [if_pos (wanted_plain hg _)]
  exact .inl h
/-- An operation leaves these worlds, with this value. -/
def Leaves (P : Program) (Q : Exit → Act → World → Prop) (S : World → Prop) (o : Oper) (a : Act) (w : World) (R : Value → World → Prop) : Prop :=
  ∀ K : Act → World → Prop, (∀ v w1, S w1 → R v w1 → K (a.put o.dst v) w1) → o.wp P a w K Q
theorem wpAnyH_tri {S : World → Prop} {fuel : Nat} {listed : Array Bool} {a : Act} {w : World} (i j k : Nat) (oi oj ok : Oper)
    (hi : ops[i]? = some oi) (hj : ops[j]? = some oj) (hk : ops[k]? = some ok) (gi : oi.guard = none) (gj : oj.guard = none) (gk : ok.guard = none)
    (nik : i ≠ k) (njk : j ≠ k)
    (b0 : Region.ready md ops listed = [i, k]) (b1 : Region.ready md ops (listed.setIfInBounds i true) = [j, k])
    (b2 : Region.ready md ops ((listed.setIfInBounds i true).setIfInBounds j true) = [k]) (b3 : Region.ready md ops ((listed.setIfInBounds i true).setIfInBounds k true) = [j])
    (b4 : Region.ready md ops (listed.setIfInBounds k true) = [i])
    (Si Sk Sj : Value → World → Prop) (Sik F : Value → Value → World → Prop)
    (cik : ∀ v u, (a.put ok.dst u).put oi.dst v = (a.put oi.dst v).put ok.dst u)
    (ckj : ∀ v v' u, (((a.put oi.dst v).put ok.dst u).put oj.dst v') = (((a.put oi.dst v).put oj.dst v').put ok.dst u))
    (h1 : Leaves P Q S oi a w Si) (h2 : Leaves P Q S ok a w Sk)
    (h3 : ∀ v w1, Si v w1 → Leaves P Q S oj (a.put oi.dst v) w1 Sj)
    (h4 : ∀ v w1, Si v w1 → Leaves P Q S ok (a.put oi.dst v) w1 (Sik v))
    (h5 : ∀ u w1, Sk u w1 → Leaves P Q S oi (a.put ok.dst u) w1 (fun v => Sik v u))
    (h6 : ∀ v v' w1, Sj v' w1 → Leaves P Q S ok ((a.put oi.dst v).put oj.dst v') w1 (F v'))
    (h7 : ∀ v u w1, Sik v u w1 → Leaves P Q S oj ((a.put oi.dst v).put ok.dst u) w1 (fun v' => F v' u))
    (h : ∀ v v' u w', S w' → F v' u w' → wpAnyH P md ops Q S fuel (((listed.setIfInBounds i true).setIfInBounds j true).setIfInBounds k true) (((a.put oi.dst v).put oj.dst v').put ok.dst u) w') :
    wpAnyH P md ops Q S (fuel + 3) listed a w := by
  have sjk : (listed.setIfInBounds i true).setIfInBounds k true = (listed.setIfInBounds k true).setIfInBounds i true := Array.setIfInBounds_comm _ _ nik
  have sijk : (((listed.setIfInBounds i true).setIfInBounds k true).setIfInBounds j true) = (((listed.setIfInBounds i true).setIfInBounds j true).setIfInBounds k true) := Array.setIfInBounds_comm _ _ (Ne.symm njk)
  have hikj : ∀ v u w1, Sik v u w1 → wpAnyH P md ops Q S (fuel + 1) ((listed.setIfInBounds i true).setIfInBounds k true) ((a.put oi.dst v).put ok.dst u) w1 := fun v u w1 s => by
    refine wpAnyH_all b3 (by simp) fun x hx => ?_
    obtain rfl : x = j := by simpa using hx
    refine wpOp_plain hj gj (h7 v u w1 s _ fun v' w2 e2 f => ?_)
    rw [ckj, sijk]
    exact ⟨e2, h v v' u w2 e2 f⟩
  refine wpAnyH_all b0 (by simp) fun x hx => ?_
  rcases (show x = i ∨ x = k by simpa using hx) with rfl | rfl
  · refine wpOp_plain hi gi (h1 _ fun v w1 e1 s1 => ⟨e1, ?_⟩)
    refine wpAnyH_all b1 (by simp) fun y hy => ?_
    rcases (show y = j ∨ y = k by simpa using hy) with rfl | rfl
    · refine wpOp_plain hj gj (h3 v w1 s1 _ fun v' w2 e2 s2 => ⟨e2, ?_⟩)
      refine wpAnyH_all b2 (by simp) fun z hz => ?_
      obtain rfl : z = k := by simpa using hz
      exact wpOp_plain hk gk (h6 v v' w2 s2 _ fun u w3 e3 f => ⟨e3, h v v' u w3 e3 f⟩)
    · exact wpOp_plain hk gk (h4 v w1 s1 _ fun u w2 e2 s2 => ⟨e2, hikj v u w2 s2⟩)
  · refine wpOp_plain hk gk (h2 _ fun u w1 e1 s1 => ⟨e1, ?_⟩)
    refine wpAnyH_all b4 (by simp) fun y hy => ?_
    obtain rfl : y = i := by simpa using hy
    refine wpOp_plain hi gi (h5 u w1 s1 _ fun v w2 e2 s2 => ⟨e2, ?_⟩)
    rw [cik, ← sjk]
    exact hikj v u w2 s2
/-- A chain: each operation alone may be next. -/
def chB (md : Region.Mode) (ops : Array Oper) : List Nat → Array Bool → Bool
  | [], listed => (Region.ready md ops listed).isEmpty
  | i :: r, listed => decide (Region.ready md ops listed = [i]) && chB md ops r (listed.setIfInBounds i true)
def wpCh (P : Program) (Q : Exit → Act → World → Prop) (S : World → Prop) : List Oper → Act → World → Prop
  | [], a, w => Q .normal a w
  | o :: r, a, w => o.guard = none ∧ ∃ R : Value → World → Prop, Leaves P Q S o a w R ∧ ∀ v w', S w' → R v w' → wpCh P Q S r (a.put o.dst v) w'
/-- A run of pure operations at a region's head. -/
def purB (md : Region.Mode) (ops : Array Oper) : List Nat → Array Bool → Bool
  | [], _ => true
  | i :: r, listed => Region.free md ops listed i && ((Region.ready md ops listed).contains i && purB md ops r (listed.setIfInBounds i true))
def setAll : List Nat → Array Bool → Array Bool
  | [], l => l
  | i :: r, l => setAll r (l.setIfInBounds i true)
def wpPur (P : Program) (ops : Array Oper) (w : World) (K : Act → Prop) : List Oper → Act → Prop
  | [], a => K a
  | o :: r, a => ∃ v, YieldsIf P ops (Ext w) o v a ∧ wpPur P ops w K r (a.put o.dst v)
def pickPur (l : List Oper) : List Nat → List Oper
  | [] => []
  | i :: r => match l[i]? with
    | some o => o :: pickPur l r
    | none => pickPur l r
theorem wpAnyH_pur (hs : Region.noSelect ops = true) (hQ : ∀ c a d v w, Q (.panic c) (a.put d v) w → Q (.panic c) a w) (fuel : Nat) :
    ∀ (l : List Nat) (listed : Array Bool) (a : Act) (w : World), purB md ops l listed = true → (l.all fun x => decide (x < ops.size)) = true →
      wpPur P ops w (fun a' => wpAnyH P md ops Q (Ext w) fuel (setAll l listed) a' w) (pickPur ops.toList l) a → wpAnyH P md ops Q (Ext w) (fuel + l.length) listed a w
  | [], _, _, _, _, _, h => h
  | i :: r, listed, a, w, hB, hl, h => by
    simp only [List.all_cons, Bool.and_eq_true, decide_eq_true_eq] at hl
    have ho : ops.toList[i]? = some ops[i] := by simp [hl.1]
    have ho' : ops[i]? = some ops[i] := by simp [hl.1]
    rw [pickPur, ho] at h
    obtain ⟨v, hy, hr⟩ := h
    simp only [purB, Bool.and_eq_true] at hB
    exact wpAnyH_take ho' hs hB.1 hB.2.1 (fun c a w => hQ c a _ v w) hy (Ext.refl w) (wpAnyH_pur hs hQ fuel r _ _ _ hB.2.2 hl.2 hr)
theorem wpAnyH_ch {S : World → Prop} : ∀ (l : List Nat) (fuel : Nat) (listed : Array Bool) (a : Act) (w : World), l.length ≤ fuel → chB md ops l listed = true → (l.all fun x => decide (x < ops.size)) = true →
      wpCh P Q S (pickPur ops.toList l) a w → wpAnyH P md ops Q S fuel listed a w
  | [], fuel, listed, a, w, _, hB, _, h => wpAnyH_done (by simpa [chB] using hB) h fuel
  | i :: r, 0, _, _, _, hl, _, _, _ => absurd hl (by simp)
  | i :: r, fuel + 1, listed, a, w, hl, hB, ha, h => by
    simp only [List.all_cons, Bool.and_eq_true, decide_eq_true_eq] at ha
    have ho : ops.toList[i]? = some ops[i] := by simp [ha.1]
    have ho' : ops[i]? = some ops[i] := by simp [ha.1]
    rw [pickPur, ho] at h
    obtain ⟨hg, R, h1, h2⟩ := h
    simp only [chB, Bool.and_eq_true, decide_eq_true_eq] at hB
    refine wpAnyH_all hB.1 (by simp) fun x hx => ?_
    obtain rfl : x = i := by simpa using hx
    exact wpOp_plain ho' hg (h1 _ fun v w' hs hr => ⟨hs, wpAnyH_ch r fuel _ _ _ (by simpa using hl) hB.2 ha.2 (h2 v w' hs hr)⟩)
theorem ch_step {S : World → Prop} {o : Oper} {r : List Oper} {a : Act} {w : World} (hg : o.guard = none) (R : Value → World → Prop) (h1 : Leaves P Q S o a w R) (h2 : ∀ v w', S w' → R v w' → wpCh P Q S r (a.put o.dst v) w') : wpCh P Q S (o :: r) a w := ⟨hg, R, h1, h2⟩
theorem ch_pure {S : World → Prop} {o : Oper} {r : List Oper} {a : Act} {w : World} {v : Value} (hg : o.guard = none) (hS : S w) (hy : (execOp a.eval o).run P w = .ok (.value v) w) (h : wpCh P Q S r (a.put o.dst v) w) : wpCh P Q S (o :: r) a w :=
  ⟨hg, fun u w' => u = v ∧ w' = w, fun K hK => by unfold Oper.wp; rw [hy]; exact hK _ _ hS ⟨rfl, rfl⟩, by rintro _ _ _ ⟨rfl, rfl⟩; exact h⟩
theorem ch_nil {S : World → Prop} {a : Act} {w : World} (h : Q .normal a w) : wpCh P (NoPanic Q) S [] a w := h
theorem pur_step {o : Oper} {r : List Oper} {a : Act} {w : World} {K : Act → Prop} {v : Value} (hw : Region.wanted o (yielded ops a.tmps) = true)
    (hy : ∀ w', Ext w w' → (execOp a.eval o).run P w' = .ok (.value v) w') (h : wpPur P ops w K r (a.put o.dst v)) : wpPur P ops w K (o :: r) a := ⟨v, .inl ⟨hw, hy⟩, h⟩
theorem pur_nil {a : Act} {w : World} {K : Act → Prop} (h : K a) : wpPur P ops w K [] a := h
end
theorem wpPur_mono {P : Program} {ops : Array Oper} {w : World} {K K' : Act → Prop} (hK : ∀ a, K a → K' a) : ∀ (l : List Oper) (a : Act), wpPur P ops w K l a → wpPur P ops w K' l a
  | [], a, h => hK a h
  | _ :: r, _, h => by
    obtain ⟨v, hy, hr⟩ := h
    exact ⟨v, hy, wpPur_mono hK r _ hr⟩
/-- What the three of them ask and leave. -/
def TriGoal (P : Program) (Q : Exit → Act → World → Prop) (oi oj ok : Oper) (S : World → Prop) (C : Act → World → Prop) (w : World) (a : Act) : Prop :=
  ∃ (Si Sk Sj : Value → World → Prop) (Sik F : Value → Value → World → Prop),
    Leaves P Q S oi a w Si ∧ Leaves P Q S ok a w Sk ∧
    (∀ v w1, Si v w1 → Leaves P Q S oj (a.put oi.dst v) w1 Sj) ∧
    (∀ v w1, Si v w1 → Leaves P Q S ok (a.put oi.dst v) w1 (Sik v)) ∧
    (∀ u w1, Sk u w1 → Leaves P Q S oi (a.put ok.dst u) w1 (fun v => Sik v u)) ∧
    (∀ v v' w1, Sj v' w1 → Leaves P Q S ok ((a.put oi.dst v).put oj.dst v') w1 (F v')) ∧
    (∀ v u w1, Sik v u w1 → Leaves P Q S oj ((a.put oi.dst v).put ok.dst u) w1 (fun v' => F v' u)) ∧
    ∀ v v' u w', S w' → F v' u w' → C (((a.put oi.dst v).put oj.dst v').put ok.dst u) w'
def triB (q : Array Oper) (l : List Nat) (i j k : Nat) (l2 : List Nat) : Bool :=
  let l0 := setAll l (Array.replicate q.size false)
  (decide (q.size = l2.length + 3 + l.length) && (purB .any q l (Array.replicate q.size false) && l.all fun x => decide (x < q.size))) &&
  ((decide (Region.ready .any q l0 = [i, k]) && decide (Region.ready .any q (l0.setIfInBounds i true) = [j, k])) &&
  ((decide (Region.ready .any q ((l0.setIfInBounds i true).setIfInBounds j true) = [k]) && decide (Region.ready .any q ((l0.setIfInBounds i true).setIfInBounds k true) = [j])) &&
  (decide (Region.ready .any q (l0.setIfInBounds k true) = [i]) && (chB .any q l2 (((l0.setIfInBounds i true).setIfInBounds j true).setIfInBounds k true) && l2.all fun x => decide (x < q.size)))))
theorem wp_region_tri {P : Program} {Q : Exit → Act → World → Prop} {id : Nat} {a : Act} {w : World} {lo : List Oper} (l : List Nat) (i j k : Nat) (l2 : List Nat) (oi oj ok : Oper)
    (hi : lo[i]? = some oi) (hj : lo[j]? = some oj) (hk : lo[k]? = some ok) (gi : oi.guard = none) (gj : oj.guard = none) (gk : ok.guard = none) (nik : i ≠ k) (njk : j ≠ k)
    (di : ∀ d, ok.dst = some d → oi.dst ≠ some d) (dj : ∀ d, ok.dst = some d → oj.dst ≠ some d)
    (hm : P.follows .mixedOrders = true) (hs : Region.noSelect lo.toArray = true) (q : Array Oper) (hB : triB q l i j k l2 = true) (hq : lo.toArray = q)
    (h : wpPur P lo.toArray w.drew (TriGoal P (NoPanic Q) oi oj ok (Ext w.drew) (wpCh P (NoPanic Q) (Ext w.drew) (pickPur lo l2)) w.drew) (pickPur lo l) a) : (Code.region id lo.toArray true).wp P Q a w := by
  subst hq
  unfold triB at hB
  simp only [Bool.and_eq_true, decide_eq_true_eq] at hB
  obtain ⟨⟨b0, b1, b2⟩, ⟨b3, b4⟩, ⟨b5, b6⟩, b7, b8, b9⟩ := hB
  refine wp_region_noPanic (wp_region_held_drew (S := Ext w.drew) hm (Ext.refl _) fun _ => ?_)
  have hi' : lo.toArray[i]? = some oi := by simpa using hi
  have hj' : lo.toArray[j]? = some oj := by simpa using hj
  have hk' : lo.toArray[k]? = some ok := by simpa using hk
  refine (congrArg (fun n => wpAnyH P .any lo.toArray (NoPanic Q) (Ext w.drew) n (Array.replicate lo.toArray.size false) a w.drew) b0).mpr ?_
  refine wpAnyH_pur hs (fun _ _ _ _ _ h => h) _ l _ _ _ b1 b2 ?_
  refine wpPur_mono (fun a' h' => ?_) _ _ h
  obtain ⟨Si, Sk, Sj, Sik, F, h1, h2, h3, h4, h5, h6, h7, h8⟩ := h'
  exact wpAnyH_tri i j k oi oj ok hi' hj' hk' gi gj gk nik njk b3 b4 b5 b6 b7 Si Sk Sj Sik F (fun v u => Act.put_comm _ u v di) (fun v v' u => Act.put_comm _ u v' dj) h1 h2 h3 h4 h5 h6 h7 fun v v' u w' e f =>
    wpAnyH_ch l2 _ _ _ _ (Nat.le_refl _) b8 b9 (h8 v v' u w' e f)
theorem Has.grownV {w w' : World} {g : Nat} {t : TypeId} {l : List Value} {row : Option Nat} (h : Has w g t l) (hg : w.grownBy w' row) (hne : some g ≠ row) : Has w' g t l := (hg.block g h.lt hne).trans h
theorem ext_alloc (w : World) (o : Obj) : Ext w (w.alloc o) := (Below.refl _ _).alloc (Nat.le_refl _) o
theorem ext_grownU {b : Nat} {w w' : World} {v : Value} {E : TypeId} {L : List Su} (hb : b ≤ w.heap.size) (hg : w.grownBy w' v.ownBlock) (ho : OwnU w b E v L) : Below b w w' :=
  (Below.refl b w).grown hg hb (fun k hk => ho.base k hk)
/-- A row of none, some sums put behind it, one sum's own row: in whatever order. -/
theorem tri_goalU {Q : Exit → Act → World → Prop} {oi oj ok : Oper} {C : Act → World → Prop} {a : Act} {w : World} (T E : TypeId) (hT : ElT T E) (s x y : Operand)
    (hoi : oi.op = .buildSlice T 0 #[]) (hoj : oj.op = .call { callee := .builtin .append, args := #[s, x], argTypes := #[T, T] }) (hok : ok.op = .buildSlice T 1 #[(0, y)])
    (q : Option Addr) (l : List Su) (m cap : Nat) (b : Su) (hm : l.length = m) (hq : q = none → cap = 0) (hn : m ≤ 4000000) (hsee : Sees w w.heap.size q (rowU l))
    (es : ∀ v, (a.put oi.dst v).eval s = v) (es2 : ∀ v u, ((a.put oi.dst v).put ok.dst u).eval s = v)
    (ex : ∀ v, (a.put oi.dst v).eval x = .slice q m cap) (ex2 : ∀ v u, ((a.put oi.dst v).put ok.dst u).eval x = .slice q m cap)
    (ey : a.eval y = .agg (encU b).toArray) (ey2 : ∀ v, (a.put oi.dst v).eval y = .agg (encU b).toArray) (ey3 : ∀ v v', ((a.put oi.dst v).put oj.dst v').eval y = .agg (encU b).toArray)
    (h : ∀ v v' u w', Ext w w' → OwnU w' w.heap.size E v' l → (∃ g, u = .slice (some ⟨g, 0, none⟩) 1 1 ∧ Has w' g E (encU b)) → C (((a.put oi.dst v).put oj.dst v').put ok.dst u) w') :
    TriGoal Tryd.prog Q oi oj ok (Ext w) C w a := by
  have new : ∀ (w1 : World), Has (w1.alloc (.cells (encU b).toArray E)) w1.heap.size E (encU b) := fun w1 => Has.made' w1 _ _ _ rfl
  have ext : ∀ (w1 : World) (o : Obj), Ext w w1 → Ext w (w1.alloc o) := fun w1 o h => Below.alloc h h.size o
  refine ⟨fun v w1 => OwnU w1 w.heap.size E v [] ∧ Ext w w1, fun u w1 => (∃ g, u = .slice (some ⟨g, 0, none⟩) 1 1 ∧ Has w1 g E (encU b)) ∧ Ext w w1,
    fun v' w1 => OwnU w1 w.heap.size E v' l ∧ Ext w w1,
    fun v u w1 => OwnU w1 w.heap.size E v [] ∧ (∃ g, u = .slice (some ⟨g, 0, none⟩) 1 1 ∧ Has w1 g E (encU b) ∧ some g ≠ v.ownBlock) ∧ Ext w w1,
    fun v' u w1 => OwnU w1 w.heap.size E v' l ∧ (∃ g, u = .slice (some ⟨g, 0, none⟩) 1 1 ∧ Has w1 g E (encU b)), ?_, ?_, ?_, ?_, ?_, ?_, ?_, ?_⟩
  · exact fun K hK => wp_none_su T E hT hoi (hK _ _ (ext _ _ (Ext.refl w)) ⟨OwnU.empty w _ E (Nat.le_refl _), ext _ _ (Ext.refl w)⟩)
  · exact fun K hK => wp_one_su T E hT y hok b ey (hK _ _ (ext _ _ (Ext.refl w)) ⟨⟨_, rfl, new w⟩, ext _ _ (Ext.refl w)⟩)
  · rintro v w1 ⟨ho, he⟩ K hK
    refine wp_append_su T E hT s x hoj w.heap.size v [] (es v) ho q l m cap w.heap.size hm (ex v) hq (hsee.keep he) (by simpa using hn) he.size fun v' w2 h1 h2 => ?_
    have hb := Below.trans he (ext_grownU he.size h2 ho)
    exact hK _ _ hb ⟨by simpa using h1, hb⟩
  · rintro v w1 ⟨ho, he⟩ K hK
    exact wp_one_su T E hT y hok b (ey2 v) (hK _ _ (ext _ _ he) ⟨World.ownsRow.alloc ho _, ⟨_, rfl, new w1, fun e => by have := (World.ownsRow.lt ho _ e.symm).2; omega⟩, ext _ _ he⟩)
  · rintro u w1 ⟨⟨g, rfl, hc⟩, he⟩ K hK
    have hg := hc.lt
    refine wp_none_su T E hT hoi (hK _ _ (ext _ _ he) ⟨OwnU.empty w1 _ E he.size, ⟨g, rfl, hc.alloc _, fun e => ?_⟩, ext _ _ he⟩)
    injection e with e
    have e2 : g = w1.heap.size := e
    omega
  · rintro v v' w1 ⟨ho, he⟩ K hK
    exact wp_one_su T E hT y hok b (ey3 v v') (hK _ _ (ext _ _ he) ⟨World.ownsRow.alloc ho _, ⟨_, rfl, new w1⟩⟩)
  · rintro v u w1 ⟨ho, ⟨g, rfl, hc, hne⟩, he⟩ K hK
    refine wp_append_su T E hT s x hoj w.heap.size v [] (es2 v _) ho q l m cap w.heap.size hm (ex2 v _) hq (hsee.keep he) (by simpa using hn) he.size fun v' w2 h1 h2 => ?_
    exact hK _ _ (Below.trans he (ext_grownU he.size h2 ho)) ⟨by simpa using h1, ⟨g, rfl, hc.grownV h2 hne⟩⟩
  · rintro v v' u w' e ⟨h1, h2⟩
    exact h v v' u w' e h1 h2
/-- Sums put behind a row of the call's own. -/
theorem leaves_moreU {Q : Exit → Act → World → Prop} {o : Oper} {a : Act} {w0 w : World} (T E : TypeId) (hT : ElT T E) (s x : Operand) (ho : o.op = .call { callee := .builtin .append, args := #[s, x], argTypes := #[T, T] })
    (v : Value) (L : List Su) (hs : a.eval s = v) (hown : OwnU w w0.heap.size E v L) (he : Ext w0 w)
    (q : Option Addr) (l : List Su) (m cap b : Nat) (hm : l.length = m) (hx : a.eval x = .slice q m cap) (hq : q = none → cap = 0) (hl : Sees w b q (rowU l)) (hbytes : L.length + m ≤ 4000000) :
    Leaves Tryd.prog Q (Ext w0) o a w (fun v' w' => OwnU w' w0.heap.size E v' (L ++ l)) := fun _ hK =>
  wp_append_su T E hT s x ho w0.heap.size v L hs hown q l m cap b hm hx hq hl hbytes he.size fun _ _ h1 h2 => hK _ _ (Below.trans he (ext_grownU he.size h2 hown)) h1
theorem slice_headU {o : Oper} {a : Act} {w : World} (T E : TypeId) (hT : ElT T E) (x y : Operand) (q : Option Addr) (n c k : Nat) (ho : o.op = .slice T x none (some y) none) (hx : a.eval x = .slice q n c) (hy : a.eval y = .int .i64 (k : Int)) (hk : k ≤ c) :
    (execOp a.eval o).run Tryd.prog w = .ok (.value (.slice q k c)) w := by
  have h := head_su T E hT q n c k hk w
  unfold execOp
  simp [ho, hx, hy, Instr.sliceAt, run_underlying hT.1, h]
theorem slice_tailU {o : Oper} {a : Act} {w : World} (T E : TypeId) (hT : ElT T E) (x y : Operand) (q : Option Addr) (n c k : Nat) (ho : o.op = .slice T x (some y) none none) (hx : a.eval x = .slice q n c) (hy : a.eval y = .int .i64 (k : Int)) (hk : k ≤ n) :
    (execOp a.eval o).run Tryd.prog w = .ok (.value (.slice (if c = k then q else q.map (·.add (k * 32))) (n - k) (c - k))) w := by
  have h := cut_su T E hT q n c k hk w
  unfold execOp
  simp [ho, hx, hy, Instr.sliceAt, run_underlying hT.1, h]
end Go.Proofs.YtepeloenijlnhaaDoor
/- Contract: the document's own Of. Condition: at most 10^5 sums. -/
namespace Go.Proofs.YtepeloenijlnhaaDoor
open Go.RowKit
/-- R is the set of L. -/
def Srtd (L R : List Su) : Prop := AscU R ∧ ∀ x, x ∈ R ↔ x ∈ L
theorem srtd_same {L R : List Su} {x : Su} (h : Srtd L R) (hx : x ∈ R) : Srtd (L ++ [x]) R := ⟨h.1, fun y => by
  rw [List.mem_append, List.mem_singleton]
  constructor
  · intro hy; exact .inl ((h.2 y).1 hy)
  · rintro (h1 | rfl)
    · exact (h.2 y).2 h1
    · exact hx⟩
theorem before_allU {R : List Su} {x : Su} {k : Nat} (h : AscU R) (hk : k < R.length) (h1 : cmpU R[k] x = -1) : ∀ y ∈ R.take (k + 1), cmpU y x = -1 := by
  intro y hy
  obtain ⟨j, hj, rfl⟩ := List.mem_take_iff_getElem.1 hy
  by_cases e : j = k
  · subst e; exact h1
  · have h2 := List.pairwise_iff_getElem.1 h j k (by omega) hk (by omega)
    exact cmpU_ltle h2 (by omega)
theorem after_moreU {R : List Su} {x : Su} {k : Nat} (hk : k < R.length) (h1 : cmpU R[k] x = 1) (h : ∀ y ∈ R.drop (k + 1), cmpU y x = 1) : ∀ y ∈ R.drop k, cmpU y x = 1 := by
  rw [List.drop_eq_getElem_cons hk]
  intro y hy
  rcases List.mem_cons.1 hy with rfl | hy
  · exact h1
  · exact h y hy
theorem srtd_put {L R : List Su} {x : Su} {k : Nat} (h : Srtd L R) (ha : ∀ y ∈ R.drop k, cmpU y x = 1) (hb : ∀ y ∈ R.take k, cmpU y x = -1) : Srtd (L ++ [x]) (R.take k ++ [x] ++ R.drop k) := by
  have hr : AscU (R.take k ++ R.drop k) := by rw [List.take_append_drop]; exact h.1
  obtain ⟨h1, h2, h3⟩ := List.pairwise_append.1 hr
  refine ⟨List.pairwise_append.2 ⟨List.pairwise_append.2 ⟨h1, by simp, fun y hy z hz => ?_⟩, h2, fun y hy z hz => ?_⟩, fun y => ?_⟩
  · rw [List.mem_singleton.1 hz]; exact hb y hy
  · rcases List.mem_append.1 hy with hy | hy
    · exact h3 y hy z hz
    · rw [List.mem_singleton.1 hy]
      have h4 := ha z hz
      have h5 := cmpU_neg x z
      omega
  · have hm : y ∈ R ↔ y ∈ R.take k ∨ y ∈ R.drop k := by rw [← List.mem_append, List.take_append_drop]
    rw [List.mem_append, List.mem_append, List.mem_append, List.mem_singleton]
    constructor
    · rintro ((h4 | rfl) | h4)
      · exact .inl ((h.2 y).1 (hm.2 (.inl h4)))
      · exact .inr rfl
      · exact .inl ((h.2 y).1 (hm.2 (.inr h4)))
    · rintro (h4 | rfl)
      · rcases hm.1 ((h.2 y).2 h4) with h6 | h6
        · exact .inl (.inl h6)
        · exact .inr h6
      · exact .inl (.inr rfl)
noncomputable def ops9r : Array Oper := regOf Tryd.f40.body 9
set_option maxRecDepth 100000 in
theorem chk9r : triB ops9r [1, 2, 3, 5, 6, 7, 8, 11, 12, 13] 0 4 9 [10, 14, 15] = true := by kernel_rfl
set_option maxHeartbeats 16000000 in
set_option maxRecDepth 100000 in
theorem rof0_any (L : List Su) (q : Option Addr) (c : Nat) (hm : L.length ≤ 100000) (w : World) (hs : Sees w w.heap.size q (rowU L)) :
    Calls Tryd.prog 40 #[.slice q L.length c] w fun e w' => (∃ v, e = .returned v ∧ Us w' v (srt L)) ∧ Below w.heap.size w w' := by
  have HS := Lib.hid hs
  have HNIL := Lib.hid (Us.nil w)
  clear hs
  go_enter Tryd.func40, Tryd.ntmps40
  go_wp2_with fail
  go_loopw [3, 4, 5] (fun v vi _ wr => ∃ (R : List Su) (i : Nat), i ≤ L.length ∧ vi = .int .i64 i ∧ Srtd (L.take i) R ∧ R.length ≤ i ∧ Us wr v R ∧ Below w.heap.size w wr) (fun _ vi _ _ => L.length - (intOf vi).toNat)
  case atStart => exact ⟨[], 0, by omega, rfl, ⟨by simp, by simp⟩, Nat.le_refl _, HNIL.out, Below.refl _ _⟩
  case round =>
    rename_i wr
    obtain ⟨w1, hw1⟩ : ∃ w1 : World, w1 = wr := ⟨_, rfl⟩
    rw [← hw1] at hrel ⊢
    clear hw1
    clear wr
    obtain ⟨R, i, hi, rfl, hsrt, hrl, ⟨qr, cr, rfl, hrc, hqr, htn⟩, hB⟩ := hrel
    have HSRT := Lib.hid hsrt
    have HTN := Lib.hid htn
    have HB := Lib.hid hB
    clear hsrt htn hB
    by_cases hlt : i < L.length
    · obtain ⟨ad, rfl, _, hc⟩ := Ss.el HS.out hlt
      have HTK : Hid (L.take (i + 1) = L.take i ++ [L[i]]) := Lib.hid (by rw [List.take_add_one, List.getElem?_eq_getElem hlt]; rfl)
      generalize L[i] = x at *
      have HCX : Hid (∀ w', Below w.heap.size w w' → ∀ j u, (encU x)[j]? = some u → w'.cell? ((ad.add (i * 32)).add j) = some u) := Lib.hid hc
      have kk : (i : Int) < (L.length : Int) := by omega
      clear hc
      go_wp2_with fail
      go_loopw [5] (fun vk wk => ∃ k : Nat, k ≤ R.length ∧ vk = .int .i64 k ∧ (∀ y ∈ R.drop k, cmpU y x = 1) ∧ Below w1.heap.size w1 wk) (fun vk _ => (intOf vk).toNat)
      case atStart => exact ⟨R.length, Nat.le_refl _, rfl, by simp, Below.refl _ _⟩
      case round =>
        obtain ⟨k, hk, rfl, haft, hbk⟩ := hrel
        have HAFT := Lib.hid haft
        have HBK := Lib.hid hbk
        replace HB := Lib.hid (HB.out.trans (hbk.mono HB.out.size))
        clear haft hbk
        by_cases hk0 : k = 0
        · subst hk0
          have HPUT : Hid (Srtd (L.take (i + 1)) (R.take 0 ++ [x] ++ R.drop 0)) := Lib.hid (by rw [HTK.out]; exact srtd_put HSRT.out HAFT.out (by simp))
          go_wp2_with fail
          refine wp_region_org [(0, true), (1, true), (2, true), (3, true), (4, true), (5, true), (6, true), (7, true), (8, true), (9, true), (10, true), (11, true), (12, false), (13, true), (14, true)] (by kernel_rfl) (by kernel_rfl) (by kernel_rfl) ?_
          replace HB := Lib.hid HB.out.drew
          replace HBK := Lib.hid HBK.out.drew
          generalize wr.drew = wd at *
          simp only [pickOrs, List.getElem?_cons_zero, List.getElem?_cons_succ]
          refine org_pure (v := ?_) (by kernel_rfl) ?_ ?_
          rotate_left
          · intro w' hv; clear hv; go_simp; try with_reducible rfl
          try simp only [Act.put, List.setIfInBounds_toArray, List.set_cons_zero, List.set_cons_succ]
          refine org_pure (v := ?_) (by kernel_rfl) ?_ ?_
          rotate_left
          · intro w' hv; clear hv; go_simp; try with_reducible rfl
          try simp only [Act.put, List.setIfInBounds_toArray, List.set_cons_zero, List.set_cons_succ]
          refine org_pure (v := ?_) (by kernel_rfl) ?_ ?_
          rotate_left
          · intro w' hv; clear hv; go_simp; try with_reducible rfl
          try simp only [Act.put, List.setIfInBounds_toArray, List.set_cons_zero, List.set_cons_succ]
          refine org_skip (by kernel_rfl) ?_
          try simp only [Act.put, List.setIfInBounds_toArray, List.set_cons_zero, List.set_cons_succ]
          refine org_skip (by kernel_rfl) ?_
          try simp only [Act.put, List.setIfInBounds_toArray, List.set_cons_zero, List.set_cons_succ]
          refine org_skip (by kernel_rfl) ?_
          try simp only [Act.put, List.setIfInBounds_toArray, List.set_cons_zero, List.set_cons_succ]
          refine org_skip (by kernel_rfl) ?_
          try simp only [Act.put, List.setIfInBounds_toArray, List.set_cons_zero, List.set_cons_succ]
          refine org_skip (by kernel_rfl) ?_
          try simp only [Act.put, List.setIfInBounds_toArray, List.set_cons_zero, List.set_cons_succ]
          refine org_skip (by kernel_rfl) ?_
          try simp only [Act.put, List.setIfInBounds_toArray, List.set_cons_zero, List.set_cons_succ]
          refine org_skip (by kernel_rfl) ?_
          try simp only [Act.put, List.setIfInBounds_toArray, List.set_cons_zero, List.set_cons_succ]
          refine org_skip (by kernel_rfl) ?_
          try simp only [Act.put, List.setIfInBounds_toArray, List.set_cons_zero, List.set_cons_succ]
          refine org_skip (by kernel_rfl) ?_
          try simp only [Act.put, List.setIfInBounds_toArray, List.set_cons_zero, List.set_cons_succ]
          refine org_pass (by kernel_rfl) ?_
          try simp only [Act.put, List.setIfInBounds_toArray, List.set_cons_zero, List.set_cons_succ]
          refine org_skip (by kernel_rfl) ?_
          try simp only [Act.put, List.setIfInBounds_toArray, List.set_cons_zero, List.set_cons_succ]
          refine org_pure (v := ?_) (by kernel_rfl) ?_ ?_
          rotate_left
          · intro w' hv; clear hv; go_simp; try with_reducible rfl
          try simp only [Act.put, List.setIfInBounds_toArray, List.set_cons_zero, List.set_cons_succ]
          refine org_nil ?_
          go_wp2_with fail
          refine wp_region_org [(0, true), (1, true), (2, true), (3, true), (4, true), (5, true), (6, true), (7, true), (8, true), (9, true), (10, true), (11, true), (12, true), (13, true)] (by kernel_rfl) (by kernel_rfl) (by kernel_rfl) ?_
          replace HB := Lib.hid HB.out.drew
          replace HBK := Lib.hid HBK.out.drew
          generalize wd.drew = we at *
          simp only [pickOrs, List.getElem?_cons_zero, List.getElem?_cons_succ]
          refine org_pure (v := ?_) (by kernel_rfl) ?_ ?_
          rotate_left
          · intro w' hv; clear hv; go_simp; try with_reducible rfl
          try simp only [Act.put, List.setIfInBounds_toArray, List.set_cons_zero, List.set_cons_succ]
          refine org_pure (v := ?_) (by kernel_rfl) ?_ ?_
          rotate_left
          · intro w' hv; clear hv; go_simp; try with_reducible rfl
          try simp only [Act.put, List.setIfInBounds_toArray, List.set_cons_zero, List.set_cons_succ]
          refine org_pure (v := ?_) (by kernel_rfl) ?_ ?_
          rotate_left
          · intro w' hv; clear hv; go_simp; try with_reducible rfl
          try simp only [Act.put, List.setIfInBounds_toArray, List.set_cons_zero, List.set_cons_succ]
          refine org_skip (by kernel_rfl) ?_
          try simp only [Act.put, List.setIfInBounds_toArray, List.set_cons_zero, List.set_cons_succ]
          refine org_skip (by kernel_rfl) ?_
          try simp only [Act.put, List.setIfInBounds_toArray, List.set_cons_zero, List.set_cons_succ]
          refine org_skip (by kernel_rfl) ?_
          try simp only [Act.put, List.setIfInBounds_toArray, List.set_cons_zero, List.set_cons_succ]
          refine org_skip (by kernel_rfl) ?_
          try simp only [Act.put, List.setIfInBounds_toArray, List.set_cons_zero, List.set_cons_succ]
          refine org_skip (by kernel_rfl) ?_
          try simp only [Act.put, List.setIfInBounds_toArray, List.set_cons_zero, List.set_cons_succ]
          refine org_skip (by kernel_rfl) ?_
          try simp only [Act.put, List.setIfInBounds_toArray, List.set_cons_zero, List.set_cons_succ]
          refine org_skip (by kernel_rfl) ?_
          try simp only [Act.put, List.setIfInBounds_toArray, List.set_cons_zero, List.set_cons_succ]
          refine org_skip (by kernel_rfl) ?_
          try simp only [Act.put, List.setIfInBounds_toArray, List.set_cons_zero, List.set_cons_succ]
          refine org_skip (by kernel_rfl) ?_
          try simp only [Act.put, List.setIfInBounds_toArray, List.set_cons_zero, List.set_cons_succ]
          refine org_skip (by kernel_rfl) ?_
          try simp only [Act.put, List.setIfInBounds_toArray, List.set_cons_zero, List.set_cons_succ]
          refine org_pure (v := ?_) (by kernel_rfl) ?_ ?_
          rotate_left
          · intro w' hv; clear hv; go_simp; try with_reducible rfl
          try simp only [Act.put, List.setIfInBounds_toArray, List.set_cons_zero, List.set_cons_succ]
          refine org_nil ?_
          go_wp2_with fail
          refine wp_region_tri [1, 2, 3, 5, 6, 7, 8, 11, 12, 13] 0 4 9 [10, 14, 15] _ _ _ rfl rfl rfl rfl rfl rfl (by decide) (by decide) (by intro d h; cases h; decide) (by intro d h; cases h; decide) (by kernel_rfl) (by kernel_rfl) _ chk9r rfl ?_
          replace HB := Lib.hid HB.out.drew
          replace HBK := Lib.hid HBK.out.drew
          generalize we.drew = wf at *
          simp only [pickPur, List.getElem?_cons_zero, List.getElem?_cons_succ]
          refine pur_step (v := ?_) (by kernel_rfl) ?_ ?_
          rotate_left
          · intro w' hv; clear hv; go_simp; try with_reducible rfl
          try simp only [Act.put, List.setIfInBounds_toArray, List.set_cons_zero, List.set_cons_succ]
          refine pur_step (v := ?_) (by kernel_rfl) ?_ ?_
          rotate_left
          · intro w' hv; clear hv; go_simp; try with_reducible rfl
          try simp only [Act.put, List.setIfInBounds_toArray, List.set_cons_zero, List.set_cons_succ]
          refine pur_step (v := .slice qr 0 cr) (by kernel_rfl) (fun w' hv => ?_) ?_
          · exact slice_headU 49 52 elRef (.tmp 46) (.tmp 47) qr R.length cr 0 rfl rfl rfl (by omega)
          try simp only [Act.put, List.setIfInBounds_toArray, List.set_cons_zero, List.set_cons_succ]
          refine pur_step (v := ?_) (by kernel_rfl) ?_ ?_
          rotate_left
          · intro w' hv; clear hv; go_simp; try with_reducible rfl
          try simp only [Act.put, List.setIfInBounds_toArray, List.set_cons_zero, List.set_cons_succ]
          refine pur_step (v := ?_) (by kernel_rfl) ?_ ?_
          rotate_left
          · intro w' hv; clear hv; go_simp; try with_reducible rfl
          try simp only [Act.put, List.setIfInBounds_toArray, List.set_cons_zero, List.set_cons_succ]
          refine pur_step (v := ?_) (by kernel_rfl) ?_ ?_
          rotate_left
          · intro w' hv; clear hv; go_simp; try with_reducible rfl
          try simp only [Act.put, List.setIfInBounds_toArray, List.set_cons_zero, List.set_cons_succ]
          refine pur_step (by kernel_rfl) (fun w' hv => load_su 52 (.tmp 52) rfl _ rfl elRef.2.1 szRef x ((fun w' hv => HCX.out w' (HB.out.trans (Below.mono hv HB.out.size))) w' hv)) ?_
          try simp only [Act.put, List.setIfInBounds_toArray, List.set_cons_zero, List.set_cons_succ]
          refine pur_step (v := ?_) (by kernel_rfl) ?_ ?_
          rotate_left
          · intro w' hv; clear hv; go_simp; try with_reducible rfl
          try simp only [Act.put, List.setIfInBounds_toArray, List.set_cons_zero, List.set_cons_succ]
          refine pur_step (v := ?_) (by kernel_rfl) ?_ ?_
          rotate_left
          · intro w' hv; clear hv; go_simp; try with_reducible rfl
          try simp only [Act.put, List.setIfInBounds_toArray, List.set_cons_zero, List.set_cons_succ]
          refine pur_step (v := .slice (if cr = 0 then qr else qr.map (·.add (0 * 32))) (R.length - 0) (cr - 0)) (by kernel_rfl) (fun w' hv => ?_) ?_
          · exact slice_tailU 49 52 elRef (.tmp 56) (.tmp 57) qr R.length cr 0 rfl rfl rfl (by omega)
          try simp only [Act.put, List.setIfInBounds_toArray, List.set_cons_zero, List.set_cons_succ]
          refine pur_nil ?_
          have HRS : Hid (Sees wf wf.heap.size qr (rowU R)) := Lib.hid ((HTN.out.keep HBK.out).more HBK.out.size)
          refine tri_goalU 49 52 elRef (.tmp 45) (.tmp 48) (.tmp 53) rfl rfl rfl qr (R.take 0) 0 cr x (by rw [List.length_take]; omega) hqr (by omega) (by rw [← rowU_take]; exact HRS.out.head _) (fun _ => rfl) (fun _ _ => rfl) (fun _ => rfl) (fun _ _ => rfl) rfl (fun _ => rfl) (fun _ _ => rfl) ?_
          rintro v0 v4 v9 w4 hE hown ⟨g9, rfl, hc9⟩
          try simp only [Act.put, List.setIfInBounds_toArray, List.set_cons_zero, List.set_cons_succ]
          refine ch_step rfl _ (leaves_moreU 49 52 elRef (.tmp 49) (.tmp 54) rfl v4 _ rfl hown hE (some ⟨g9, 0, none⟩) [x] 1 1 _ rfl rfl (fun h => by cases h) (Ss.one hc9 hc9.lt) (by rw [List.length_take]; omega)) ?_
          intro v5 w5 hE5 ho5
          try simp only [Act.put, List.setIfInBounds_toArray, List.set_cons_zero, List.set_cons_succ]
          refine ch_step rfl _ (leaves_moreU 49 52 elRef (.tmp 55) (.tmp 58) rfl v5 _ rfl ho5 hE5 (if cr = 0 then qr else qr.map (·.add (0 * 32))) (R.drop 0) (R.length - 0) (cr - 0) wf.heap.size (by rw [List.length_drop]) rfl (fun h => cutU_none hqr h) (Sees.cutU (HRS.out.keep hE5) hrc) (by rw [List.length_append, List.length_take]; simp; omega)) ?_
          intro v6 w6 hE6 ho6
          try simp only [Act.put, List.setIfInBounds_toArray, List.set_cons_zero, List.set_cons_succ]
          refine ch_pure (v := v6) rfl hE6 (by go_simp; try with_reducible rfl) ?_
          try simp only [Act.put, List.setIfInBounds_toArray, List.set_cons_zero, List.set_cons_succ]
          refine ch_nil ?_
          replace HB := Lib.hid (HB.out.trans (hE6.mono HB.out.size))
          have HO6 := Lib.hid (OwnU.us ho6)
          clear hE hown hc9 hE5 ho5 hE6 ho6 HRS HBK
          generalize (if cr = 0 then qr else qr.map (·.add (0 * 32))) = qt
          go_wp2_with fail
          go_roundw
          case rel =>
            have hl : (R.take 0 ++ [x] ++ R.drop 0).length = 0 + 1 + (R.length - 0) := by simp; omega
            exact ⟨R.take 0 ++ [x] ++ R.drop 0, i + 1, by omega, by go_num, HPUT.out, by rw [hl]; omega, HO6.out, HB.out⟩
          case measure => simp [intOf]; omega
        · obtain ⟨j, hkj⟩ : ∃ j, k = j + 1 := ⟨k - 1, by omega⟩
          have hjl : j < R.length := by omega
          obtain ⟨ar, hqe, _, hcr⟩ := Ss.el HTN.out hjl
          subst hqe
          have HYE : Hid (R[j] ∈ R) := Lib.hid (List.getElem_mem hjl)
          have HMORE : Hid (cmpU R[j] x = 1 → (∀ z ∈ R.drop (j + 1), cmpU z x = 1) → ∀ z ∈ R.drop j, cmpU z x = 1) := Lib.hid (fun h1 h2 => after_moreU hjl h1 h2)
          have HBEF : Hid (cmpU R[j] x = -1 → ∀ z ∈ R.take (j + 1), cmpU z x = -1) := Lib.hid (fun h1 => before_allU HSRT.out.1 hjl h1)
          generalize R[j] = y at *
          have HCR : Hid (∀ w', Below w1.heap.size w1 w' → ∀ u v, (encU y)[u]? = some v → w'.cell? ((ar.add (j * 32)).add u) = some v) := Lib.hid hcr
          have HCM := Lib.hid (fun w1 => rcmpS_any y x w1)
          have kj : (j : Int) < (R.length : Int) := by omega
          have kp : (0 : Int) < (k : Int) := by omega
          have kpn : 0 < k := by omega
          have kw : IntKind.i64.wrap ((k : Int) - 1) = (j : Int) := by rw [IntWalk.i64_in _ (by omega)]; omega
          have HAFT3 : Hid (∀ z ∈ R.drop (j + 1), cmpU z x = 1) := Lib.hid (by rw [← hkj]; exact HAFT.out)
          have HKJ := Lib.hid hkj
          have HV := Lib.hid (cmpU_vals y x)
          have HZ := Lib.hid (fun h => (cmpU_zero (x := y) (y := x)).1 h)
          have HZ2 := Lib.hid (fun h => (cmpU_zero (x := y) (y := x)).2 h)
          clear hcr hkj hk0
          generalize cmpU y x = V at *
          by_cases hV : 0 < V
          · have HAFT2 : Hid (∀ z ∈ R.drop j, cmpU z x = 1) := Lib.hid (HMORE.out (by have := HV.out; omega) HAFT3.out)
            have hjr : j ≤ R.length := by omega
            have hjk : j < k := by have := HKJ.out; omega
            go_wp2_with fail
            refine wp_region_org [(0, true), (1, true), (2, true), (3, true), (4, true), (5, true), (6, true), (7, true), (8, true), (9, true), (10, true), (11, true), (12, false), (13, true), (14, true)] (by kernel_rfl) (by kernel_rfl) (by kernel_rfl) ?_
            replace HB := Lib.hid HB.out.drew
            replace HBK := Lib.hid HBK.out.drew
            generalize wr.drew = wd at *
            simp only [pickOrs, List.getElem?_cons_zero, List.getElem?_cons_succ]
            refine org_pure (v := ?_) (by kernel_rfl) ?_ ?_
            rotate_left
            · intro w' hv; clear hv; go_simp; try with_reducible rfl
            try simp only [Act.put, List.setIfInBounds_toArray, List.set_cons_zero, List.set_cons_succ]
            refine org_pure (v := ?_) (by kernel_rfl) ?_ ?_
            rotate_left
            · intro w' hv; clear hv; go_simp; try with_reducible rfl
            try simp only [Act.put, List.setIfInBounds_toArray, List.set_cons_zero, List.set_cons_succ]
            refine org_pure (v := ?_) (by kernel_rfl) ?_ ?_
            rotate_left
            · intro w' hv; clear hv; go_simp; try with_reducible rfl
            try simp only [Act.put, List.setIfInBounds_toArray, List.set_cons_zero, List.set_cons_succ]
            refine org_pure (v := ?_) (by kernel_rfl) ?_ ?_
            rotate_left
            · intro w' hv; clear hv; go_simp; try with_reducible rfl
            try simp only [Act.put, List.setIfInBounds_toArray, List.set_cons_zero, List.set_cons_succ]
            refine org_pure (v := ?_) (by kernel_rfl) ?_ ?_
            rotate_left
            · intro w' hv; clear hv; go_simp; try with_reducible rfl
            try simp only [Act.put, List.setIfInBounds_toArray, List.set_cons_zero, List.set_cons_succ]
            refine org_pure (v := ?_) (by kernel_rfl) ?_ ?_
            rotate_left
            · intro w' hv; clear hv; go_simp; try with_reducible rfl
            try simp only [Act.put, List.setIfInBounds_toArray, List.set_cons_zero, List.set_cons_succ]
            refine org_pure (v := ?_) (by kernel_rfl) ?_ ?_
            rotate_left
            · intro w' hv; clear hv; go_simp; try with_reducible rfl
            try simp only [Act.put, List.setIfInBounds_toArray, List.set_cons_zero, List.set_cons_succ]
            refine org_pure (by kernel_rfl) (fun w' hv => load_su 52 (.tmp 20) rfl _ rfl elRef.2.1 szRef y ((fun w' hv => HCR.out w' (HBK.out.trans (Below.mono hv HBK.out.size))) w' hv)) ?_
            try simp only [Act.put, List.setIfInBounds_toArray, List.set_cons_zero, List.set_cons_succ]
            refine org_pure (v := ?_) (by kernel_rfl) ?_ ?_
            rotate_left
            · intro w' hv; clear hv; go_simp; try with_reducible rfl
            try simp only [Act.put, List.setIfInBounds_toArray, List.set_cons_zero, List.set_cons_succ]
            refine org_pure (v := ?_) (by kernel_rfl) ?_ ?_
            rotate_left
            · intro w' hv; clear hv; go_simp; try with_reducible rfl
            try simp only [Act.put, List.setIfInBounds_toArray, List.set_cons_zero, List.set_cons_succ]
            refine org_pure (v := ?_) (by kernel_rfl) ?_ ?_
            rotate_left
            · intro w' hv; clear hv; go_simp; try with_reducible rfl
            try simp only [Act.put, List.setIfInBounds_toArray, List.set_cons_zero, List.set_cons_succ]
            refine org_pure (by kernel_rfl) (fun w' hv => load_su 52 (.tmp 24) rfl _ rfl elRef.2.1 szRef x ((fun w' hv => HCX.out w' (HB.out.trans (Below.mono hv HB.out.size))) w' hv)) ?_
            try simp only [Act.put, List.setIfInBounds_toArray, List.set_cons_zero, List.set_cons_succ]
            refine org_step (by kernel_rfl) (fun K hK => ?_)
            go_wp2_with fail
            refine (HCM.out _).mono ?_
            rintro e wx ⟨rfl, hb⟩
            have HE := Lib.hid hb
            replace HB := Lib.hid (HB.out.trans (hb.mono HB.out.size))
            replace HBK := Lib.hid (HBK.out.trans (hb.mono HBK.out.size))
            clear hb
            refine hK _ _ ⟨HE.out, ?_⟩
            clear hK HE
            try simp only [Act.put, List.setIfInBounds_toArray, List.set_cons_zero, List.set_cons_succ]
            refine org_pure (v := ?_) (by kernel_rfl) ?_ ?_
            rotate_left
            · intro w' hv; clear hv; go_simp; try with_reducible rfl
            try simp only [Act.put, List.setIfInBounds_toArray, List.set_cons_zero, List.set_cons_succ]
            refine org_pure (v := ?_) (by kernel_rfl) ?_ ?_
            rotate_left
            · intro w' hv; clear hv; go_simp; try with_reducible rfl
            try simp only [Act.put, List.setIfInBounds_toArray, List.set_cons_zero, List.set_cons_succ]
            refine org_nil ?_
            go_wp2_with fail
            go_roundw
            case rel => exact ⟨j, hjr, by go_num, HAFT2.out, HBK.out⟩
            case measure => simp [intOf]; omega
          · by_cases hxy : y = x
            · have HNEW : Hid (Srtd (L.take (i + 1)) R) := Lib.hid (by rw [HTK.out]; exact srtd_same HSRT.out (hxy ▸ HYE.out))
              have HBB := Lib.hid (decide_eq_true hxy)
              clear hxy
              go_wp2_with fail
              refine wp_region_org [(0, true), (1, true), (2, true), (3, true), (4, true), (5, true), (6, true), (7, true), (8, true), (9, true), (10, true), (11, true), (12, false), (13, true), (14, true)] (by kernel_rfl) (by kernel_rfl) (by kernel_rfl) ?_
              replace HB := Lib.hid HB.out.drew
              replace HBK := Lib.hid HBK.out.drew
              generalize wr.drew = wd at *
              simp only [pickOrs, List.getElem?_cons_zero, List.getElem?_cons_succ]
              refine org_pure (v := ?_) (by kernel_rfl) ?_ ?_
              rotate_left
              · intro w' hv; clear hv; go_simp; try with_reducible rfl
              try simp only [Act.put, List.setIfInBounds_toArray, List.set_cons_zero, List.set_cons_succ]
              refine org_pure (v := ?_) (by kernel_rfl) ?_ ?_
              rotate_left
              · intro w' hv; clear hv; go_simp; try with_reducible rfl
              try simp only [Act.put, List.setIfInBounds_toArray, List.set_cons_zero, List.set_cons_succ]
              refine org_pure (v := ?_) (by kernel_rfl) ?_ ?_
              rotate_left
              · intro w' hv; clear hv; go_simp; try with_reducible rfl
              try simp only [Act.put, List.setIfInBounds_toArray, List.set_cons_zero, List.set_cons_succ]
              refine org_pure (v := ?_) (by kernel_rfl) ?_ ?_
              rotate_left
              · intro w' hv; clear hv; go_simp; try with_reducible rfl
              try simp only [Act.put, List.setIfInBounds_toArray, List.set_cons_zero, List.set_cons_succ]
              refine org_pure (v := ?_) (by kernel_rfl) ?_ ?_
              rotate_left
              · intro w' hv; clear hv; go_simp; try with_reducible rfl
              try simp only [Act.put, List.setIfInBounds_toArray, List.set_cons_zero, List.set_cons_succ]
              refine org_pure (v := ?_) (by kernel_rfl) ?_ ?_
              rotate_left
              · intro w' hv; clear hv; go_simp; try with_reducible rfl
              try simp only [Act.put, List.setIfInBounds_toArray, List.set_cons_zero, List.set_cons_succ]
              refine org_pure (v := ?_) (by kernel_rfl) ?_ ?_
              rotate_left
              · intro w' hv; clear hv; go_simp; try with_reducible rfl
              try simp only [Act.put, List.setIfInBounds_toArray, List.set_cons_zero, List.set_cons_succ]
              refine org_pure (by kernel_rfl) (fun w' hv => load_su 52 (.tmp 20) rfl _ rfl elRef.2.1 szRef y ((fun w' hv => HCR.out w' (HBK.out.trans (Below.mono hv HBK.out.size))) w' hv)) ?_
              try simp only [Act.put, List.setIfInBounds_toArray, List.set_cons_zero, List.set_cons_succ]
              refine org_pure (v := ?_) (by kernel_rfl) ?_ ?_
              rotate_left
              · intro w' hv; clear hv; go_simp; try with_reducible rfl
              try simp only [Act.put, List.setIfInBounds_toArray, List.set_cons_zero, List.set_cons_succ]
              refine org_pure (v := ?_) (by kernel_rfl) ?_ ?_
              rotate_left
              · intro w' hv; clear hv; go_simp; try with_reducible rfl
              try simp only [Act.put, List.setIfInBounds_toArray, List.set_cons_zero, List.set_cons_succ]
              refine org_pure (v := ?_) (by kernel_rfl) ?_ ?_
              rotate_left
              · intro w' hv; clear hv; go_simp; try with_reducible rfl
              try simp only [Act.put, List.setIfInBounds_toArray, List.set_cons_zero, List.set_cons_succ]
              refine org_pure (by kernel_rfl) (fun w' hv => load_su 52 (.tmp 24) rfl _ rfl elRef.2.1 szRef x ((fun w' hv => HCX.out w' (HB.out.trans (Below.mono hv HB.out.size))) w' hv)) ?_
              try simp only [Act.put, List.setIfInBounds_toArray, List.set_cons_zero, List.set_cons_succ]
              refine org_step (by kernel_rfl) (fun K hK => ?_)
              go_wp2_with fail
              refine (HCM.out _).mono ?_
              rintro e wx ⟨rfl, hb⟩
              have HE := Lib.hid hb
              replace HB := Lib.hid (HB.out.trans (hb.mono HB.out.size))
              replace HBK := Lib.hid (HBK.out.trans (hb.mono HBK.out.size))
              clear hb
              refine hK _ _ ⟨HE.out, ?_⟩
              clear hK HE
              try simp only [Act.put, List.setIfInBounds_toArray, List.set_cons_zero, List.set_cons_succ]
              refine org_pure (v := ?_) (by kernel_rfl) ?_ ?_
              rotate_left
              · intro w' hv; clear hv; go_simp; try with_reducible rfl
              try simp only [Act.put, List.setIfInBounds_toArray, List.set_cons_zero, List.set_cons_succ]
              refine org_pure (v := ?_) (by kernel_rfl) ?_ ?_
              rotate_left
              · intro w' hv; clear hv; go_simp; try with_reducible rfl
              try simp only [Act.put, List.setIfInBounds_toArray, List.set_cons_zero, List.set_cons_succ]
              refine org_nil ?_
              go_wp2_with fail
              refine wp_region_org [(0, true), (1, true), (2, true), (3, true), (4, true), (5, true), (6, true), (7, true), (8, true), (9, true), (10, true), (11, true), (12, true), (13, true)] (by kernel_rfl) (by kernel_rfl) (by kernel_rfl) ?_
              replace HB := Lib.hid HB.out.drew
              replace HBK := Lib.hid HBK.out.drew
              generalize wx.drew = we at *
              simp only [pickOrs, List.getElem?_cons_zero, List.getElem?_cons_succ]
              refine org_pure (v := ?_) (by kernel_rfl) ?_ ?_
              rotate_left
              · intro w' hv; clear hv; go_simp; try with_reducible rfl
              try simp only [Act.put, List.setIfInBounds_toArray, List.set_cons_zero, List.set_cons_succ]
              refine org_pure (v := ?_) (by kernel_rfl) ?_ ?_
              rotate_left
              · intro w' hv; clear hv; go_simp; try with_reducible rfl
              try simp only [Act.put, List.setIfInBounds_toArray, List.set_cons_zero, List.set_cons_succ]
              refine org_pure (v := ?_) (by kernel_rfl) ?_ ?_
              rotate_left
              · intro w' hv; clear hv; go_simp; try with_reducible rfl
              try simp only [Act.put, List.setIfInBounds_toArray, List.set_cons_zero, List.set_cons_succ]
              refine org_pure (v := ?_) (by kernel_rfl) ?_ ?_
              rotate_left
              · intro w' hv; clear hv; go_simp; try with_reducible rfl
              try simp only [Act.put, List.setIfInBounds_toArray, List.set_cons_zero, List.set_cons_succ]
              refine org_pure (v := ?_) (by kernel_rfl) ?_ ?_
              rotate_left
              · intro w' hv; clear hv; go_simp; try with_reducible rfl
              try simp only [Act.put, List.setIfInBounds_toArray, List.set_cons_zero, List.set_cons_succ]
              refine org_pure (v := ?_) (by kernel_rfl) ?_ ?_
              rotate_left
              · intro w' hv; clear hv; go_simp; try with_reducible rfl
              try simp only [Act.put, List.setIfInBounds_toArray, List.set_cons_zero, List.set_cons_succ]
              refine org_pure (v := ?_) (by kernel_rfl) ?_ ?_
              rotate_left
              · intro w' hv; clear hv; go_simp; try with_reducible rfl
              try simp only [Act.put, List.setIfInBounds_toArray, List.set_cons_zero, List.set_cons_succ]
              refine org_pure (by kernel_rfl) (fun w' hv => load_su 52 (.tmp 37) rfl _ rfl elRef.2.1 szRef y ((fun w' hv => HCR.out w' (HBK.out.trans (Below.mono hv HBK.out.size))) w' hv)) ?_
              try simp only [Act.put, List.setIfInBounds_toArray, List.set_cons_zero, List.set_cons_succ]
              refine org_pure (v := ?_) (by kernel_rfl) ?_ ?_
              rotate_left
              · intro w' hv; clear hv; go_simp; try with_reducible rfl
              try simp only [Act.put, List.setIfInBounds_toArray, List.set_cons_zero, List.set_cons_succ]
              refine org_pure (v := ?_) (by kernel_rfl) ?_ ?_
              rotate_left
              · intro w' hv; clear hv; go_simp; try with_reducible rfl
              try simp only [Act.put, List.setIfInBounds_toArray, List.set_cons_zero, List.set_cons_succ]
              refine org_pure (v := ?_) (by kernel_rfl) ?_ ?_
              rotate_left
              · intro w' hv; clear hv; go_simp; try with_reducible rfl
              try simp only [Act.put, List.setIfInBounds_toArray, List.set_cons_zero, List.set_cons_succ]
              refine org_pure (by kernel_rfl) (fun w' hv => load_su 52 (.tmp 41) rfl _ rfl elRef.2.1 szRef x ((fun w' hv => HCX.out w' (HB.out.trans (Below.mono hv HB.out.size))) w' hv)) ?_
              try simp only [Act.put, List.setIfInBounds_toArray, List.set_cons_zero, List.set_cons_succ]
              refine org_pure (by kernel_rfl) (fun w' hv => eql_su 52 (.tmp 38) (.tmp 42) _ rfl y x rfl rfl elRef.2.1 gdRef) ?_
              try simp only [Act.put, List.setIfInBounds_toArray, List.set_cons_zero, List.set_cons_succ]
              rw [HBB.out]
              refine org_pure (v := ?_) (by kernel_rfl) ?_ ?_
              rotate_left
              · intro w' hv; clear hv; go_simp; try with_reducible rfl
              try simp only [Act.put, List.setIfInBounds_toArray, List.set_cons_zero, List.set_cons_succ]
              refine org_nil ?_
              go_wp2_with fail
              go_roundw
              case rel => exact ⟨R, i + 1, by omega, by go_num, HNEW.out, by omega, ⟨_, cr, rfl, hrc, hqr, (HTN.out.keep HBK.out).more HBK.out.size⟩, HB.out⟩
              case measure => simp [intOf]; omega
            · have HPUT : Hid (Srtd (L.take (i + 1)) (R.take k ++ [x] ++ R.drop k)) := Lib.hid (by
                rw [HTK.out, HKJ.out]
                refine srtd_put HSRT.out HAFT3.out (HBEF.out ?_)
                have h1 := HV.out
                have h2 : ¬ V = 0 := fun e => hxy (HZ.out e)
                omega)
              have HBB := Lib.hid (decide_eq_false hxy)
              clear hxy
              go_wp2_with fail
              refine wp_region_org [(0, true), (1, true), (2, true), (3, true), (4, true), (5, true), (6, true), (7, true), (8, true), (9, true), (10, true), (11, true), (12, false), (13, true), (14, true)] (by kernel_rfl) (by kernel_rfl) (by kernel_rfl) ?_
              replace HB := Lib.hid HB.out.drew
              replace HBK := Lib.hid HBK.out.drew
              generalize wr.drew = wd at *
              simp only [pickOrs, List.getElem?_cons_zero, List.getElem?_cons_succ]
              refine org_pure (v := ?_) (by kernel_rfl) ?_ ?_
              rotate_left
              · intro w' hv; clear hv; go_simp; try with_reducible rfl
              try simp only [Act.put, List.setIfInBounds_toArray, List.set_cons_zero, List.set_cons_succ]
              refine org_pure (v := ?_) (by kernel_rfl) ?_ ?_
              rotate_left
              · intro w' hv; clear hv; go_simp; try with_reducible rfl
              try simp only [Act.put, List.setIfInBounds_toArray, List.set_cons_zero, List.set_cons_succ]
              refine org_pure (v := ?_) (by kernel_rfl) ?_ ?_
              rotate_left
              · intro w' hv; clear hv; go_simp; try with_reducible rfl
              try simp only [Act.put, List.setIfInBounds_toArray, List.set_cons_zero, List.set_cons_succ]
              refine org_pure (v := ?_) (by kernel_rfl) ?_ ?_
              rotate_left
              · intro w' hv; clear hv; go_simp; try with_reducible rfl
              try simp only [Act.put, List.setIfInBounds_toArray, List.set_cons_zero, List.set_cons_succ]
              refine org_pure (v := ?_) (by kernel_rfl) ?_ ?_
              rotate_left
              · intro w' hv; clear hv; go_simp; try with_reducible rfl
              try simp only [Act.put, List.setIfInBounds_toArray, List.set_cons_zero, List.set_cons_succ]
              refine org_pure (v := ?_) (by kernel_rfl) ?_ ?_
              rotate_left
              · intro w' hv; clear hv; go_simp; try with_reducible rfl
              try simp only [Act.put, List.setIfInBounds_toArray, List.set_cons_zero, List.set_cons_succ]
              refine org_pure (v := ?_) (by kernel_rfl) ?_ ?_
              rotate_left
              · intro w' hv; clear hv; go_simp; try with_reducible rfl
              try simp only [Act.put, List.setIfInBounds_toArray, List.set_cons_zero, List.set_cons_succ]
              refine org_pure (by kernel_rfl) (fun w' hv => load_su 52 (.tmp 20) rfl _ rfl elRef.2.1 szRef y ((fun w' hv => HCR.out w' (HBK.out.trans (Below.mono hv HBK.out.size))) w' hv)) ?_
              try simp only [Act.put, List.setIfInBounds_toArray, List.set_cons_zero, List.set_cons_succ]
              refine org_pure (v := ?_) (by kernel_rfl) ?_ ?_
              rotate_left
              · intro w' hv; clear hv; go_simp; try with_reducible rfl
              try simp only [Act.put, List.setIfInBounds_toArray, List.set_cons_zero, List.set_cons_succ]
              refine org_pure (v := ?_) (by kernel_rfl) ?_ ?_
              rotate_left
              · intro w' hv; clear hv; go_simp; try with_reducible rfl
              try simp only [Act.put, List.setIfInBounds_toArray, List.set_cons_zero, List.set_cons_succ]
              refine org_pure (v := ?_) (by kernel_rfl) ?_ ?_
              rotate_left
              · intro w' hv; clear hv; go_simp; try with_reducible rfl
              try simp only [Act.put, List.setIfInBounds_toArray, List.set_cons_zero, List.set_cons_succ]
              refine org_pure (by kernel_rfl) (fun w' hv => load_su 52 (.tmp 24) rfl _ rfl elRef.2.1 szRef x ((fun w' hv => HCX.out w' (HB.out.trans (Below.mono hv HB.out.size))) w' hv)) ?_
              try simp only [Act.put, List.setIfInBounds_toArray, List.set_cons_zero, List.set_cons_succ]
              refine org_step (by kernel_rfl) (fun K hK => ?_)
              go_wp2_with fail
              refine (HCM.out _).mono ?_
              rintro e wx ⟨rfl, hb⟩
              have HE := Lib.hid hb
              replace HB := Lib.hid (HB.out.trans (hb.mono HB.out.size))
              replace HBK := Lib.hid (HBK.out.trans (hb.mono HBK.out.size))
              clear hb
              refine hK _ _ ⟨HE.out, ?_⟩
              clear hK HE
              try simp only [Act.put, List.setIfInBounds_toArray, List.set_cons_zero, List.set_cons_succ]
              refine org_pure (v := ?_) (by kernel_rfl) ?_ ?_
              rotate_left
              · intro w' hv; clear hv; go_simp; try with_reducible rfl
              try simp only [Act.put, List.setIfInBounds_toArray, List.set_cons_zero, List.set_cons_succ]
              refine org_pure (v := ?_) (by kernel_rfl) ?_ ?_
              rotate_left
              · intro w' hv; clear hv; go_simp; try with_reducible rfl
              try simp only [Act.put, List.setIfInBounds_toArray, List.set_cons_zero, List.set_cons_succ]
              refine org_nil ?_
              go_wp2_with fail
              refine wp_region_org [(0, true), (1, true), (2, true), (3, true), (4, true), (5, true), (6, true), (7, true), (8, true), (9, true), (10, true), (11, true), (12, true), (13, true)] (by kernel_rfl) (by kernel_rfl) (by kernel_rfl) ?_
              replace HB := Lib.hid HB.out.drew
              replace HBK := Lib.hid HBK.out.drew
              generalize wx.drew = we at *
              simp only [pickOrs, List.getElem?_cons_zero, List.getElem?_cons_succ]
              refine org_pure (v := ?_) (by kernel_rfl) ?_ ?_
              rotate_left
              · intro w' hv; clear hv; go_simp; try with_reducible rfl
              try simp only [Act.put, List.setIfInBounds_toArray, List.set_cons_zero, List.set_cons_succ]
              refine org_pure (v := ?_) (by kernel_rfl) ?_ ?_
              rotate_left
              · intro w' hv; clear hv; go_simp; try with_reducible rfl
              try simp only [Act.put, List.setIfInBounds_toArray, List.set_cons_zero, List.set_cons_succ]
              refine org_pure (v := ?_) (by kernel_rfl) ?_ ?_
              rotate_left
              · intro w' hv; clear hv; go_simp; try with_reducible rfl
              try simp only [Act.put, List.setIfInBounds_toArray, List.set_cons_zero, List.set_cons_succ]
              refine org_pure (v := ?_) (by kernel_rfl) ?_ ?_
              rotate_left
              · intro w' hv; clear hv; go_simp; try with_reducible rfl
              try simp only [Act.put, List.setIfInBounds_toArray, List.set_cons_zero, List.set_cons_succ]
              refine org_pure (v := ?_) (by kernel_rfl) ?_ ?_
              rotate_left
              · intro w' hv; clear hv; go_simp; try with_reducible rfl
              try simp only [Act.put, List.setIfInBounds_toArray, List.set_cons_zero, List.set_cons_succ]
              refine org_pure (v := ?_) (by kernel_rfl) ?_ ?_
              rotate_left
              · intro w' hv; clear hv; go_simp; try with_reducible rfl
              try simp only [Act.put, List.setIfInBounds_toArray, List.set_cons_zero, List.set_cons_succ]
              refine org_pure (v := ?_) (by kernel_rfl) ?_ ?_
              rotate_left
              · intro w' hv; clear hv; go_simp; try with_reducible rfl
              try simp only [Act.put, List.setIfInBounds_toArray, List.set_cons_zero, List.set_cons_succ]
              refine org_pure (by kernel_rfl) (fun w' hv => load_su 52 (.tmp 37) rfl _ rfl elRef.2.1 szRef y ((fun w' hv => HCR.out w' (HBK.out.trans (Below.mono hv HBK.out.size))) w' hv)) ?_
              try simp only [Act.put, List.setIfInBounds_toArray, List.set_cons_zero, List.set_cons_succ]
              refine org_pure (v := ?_) (by kernel_rfl) ?_ ?_
              rotate_left
              · intro w' hv; clear hv; go_simp; try with_reducible rfl
              try simp only [Act.put, List.setIfInBounds_toArray, List.set_cons_zero, List.set_cons_succ]
              refine org_pure (v := ?_) (by kernel_rfl) ?_ ?_
              rotate_left
              · intro w' hv; clear hv; go_simp; try with_reducible rfl
              try simp only [Act.put, List.setIfInBounds_toArray, List.set_cons_zero, List.set_cons_succ]
              refine org_pure (v := ?_) (by kernel_rfl) ?_ ?_
              rotate_left
              · intro w' hv; clear hv; go_simp; try with_reducible rfl
              try simp only [Act.put, List.setIfInBounds_toArray, List.set_cons_zero, List.set_cons_succ]
              refine org_pure (by kernel_rfl) (fun w' hv => load_su 52 (.tmp 41) rfl _ rfl elRef.2.1 szRef x ((fun w' hv => HCX.out w' (HB.out.trans (Below.mono hv HB.out.size))) w' hv)) ?_
              try simp only [Act.put, List.setIfInBounds_toArray, List.set_cons_zero, List.set_cons_succ]
              refine org_pure (by kernel_rfl) (fun w' hv => eql_su 52 (.tmp 38) (.tmp 42) _ rfl y x rfl rfl elRef.2.1 gdRef) ?_
              try simp only [Act.put, List.setIfInBounds_toArray, List.set_cons_zero, List.set_cons_succ]
              rw [HBB.out]
              refine org_pure (v := ?_) (by kernel_rfl) ?_ ?_
              rotate_left
              · intro w' hv; clear hv; go_simp; try with_reducible rfl
              try simp only [Act.put, List.setIfInBounds_toArray, List.set_cons_zero, List.set_cons_succ]
              refine org_nil ?_
              go_wp2_with fail
              refine wp_region_tri [1, 2, 3, 5, 6, 7, 8, 11, 12, 13] 0 4 9 [10, 14, 15] _ _ _ rfl rfl rfl rfl rfl rfl (by decide) (by decide) (by intro d h; cases h; decide) (by intro d h; cases h; decide) (by kernel_rfl) (by kernel_rfl) _ chk9r rfl ?_
              replace HB := Lib.hid HB.out.drew
              replace HBK := Lib.hid HBK.out.drew
              generalize we.drew = wf at *
              simp only [pickPur, List.getElem?_cons_zero, List.getElem?_cons_succ]
              refine pur_step (v := ?_) (by kernel_rfl) ?_ ?_
              rotate_left
              · intro w' hv; clear hv; go_simp; try with_reducible rfl
              try simp only [Act.put, List.setIfInBounds_toArray, List.set_cons_zero, List.set_cons_succ]
              refine pur_step (v := ?_) (by kernel_rfl) ?_ ?_
              rotate_left
              · intro w' hv; clear hv; go_simp; try with_reducible rfl
              try simp only [Act.put, List.setIfInBounds_toArray, List.set_cons_zero, List.set_cons_succ]
              refine pur_step (v := .slice (some ar) k cr) (by kernel_rfl) (fun w' hv => ?_) ?_
              · exact slice_headU 49 52 elRef (.tmp 46) (.tmp 47) (some ar) R.length cr k rfl rfl rfl (by omega)
              try simp only [Act.put, List.setIfInBounds_toArray, List.set_cons_zero, List.set_cons_succ]
              refine pur_step (v := ?_) (by kernel_rfl) ?_ ?_
              rotate_left
              · intro w' hv; clear hv; go_simp; try with_reducible rfl
              try simp only [Act.put, List.setIfInBounds_toArray, List.set_cons_zero, List.set_cons_succ]
              refine pur_step (v := ?_) (by kernel_rfl) ?_ ?_
              rotate_left
              · intro w' hv; clear hv; go_simp; try with_reducible rfl
              try simp only [Act.put, List.setIfInBounds_toArray, List.set_cons_zero, List.set_cons_succ]
              refine pur_step (v := ?_) (by kernel_rfl) ?_ ?_
              rotate_left
              · intro w' hv; clear hv; go_simp; try with_reducible rfl
              try simp only [Act.put, List.setIfInBounds_toArray, List.set_cons_zero, List.set_cons_succ]
              refine pur_step (by kernel_rfl) (fun w' hv => load_su 52 (.tmp 52) rfl _ rfl elRef.2.1 szRef x ((fun w' hv => HCX.out w' (HB.out.trans (Below.mono hv HB.out.size))) w' hv)) ?_
              try simp only [Act.put, List.setIfInBounds_toArray, List.set_cons_zero, List.set_cons_succ]
              refine pur_step (v := ?_) (by kernel_rfl) ?_ ?_
              rotate_left
              · intro w' hv; clear hv; go_simp; try with_reducible rfl
              try simp only [Act.put, List.setIfInBounds_toArray, List.set_cons_zero, List.set_cons_succ]
              refine pur_step (v := ?_) (by kernel_rfl) ?_ ?_
              rotate_left
              · intro w' hv; clear hv; go_simp; try with_reducible rfl
              try simp only [Act.put, List.setIfInBounds_toArray, List.set_cons_zero, List.set_cons_succ]
              refine pur_step (v := .slice (if cr = k then (some ar) else (some ar).map (·.add (k * 32))) (R.length - k) (cr - k)) (by kernel_rfl) (fun w' hv => ?_) ?_
              · exact slice_tailU 49 52 elRef (.tmp 56) (.tmp 57) (some ar) R.length cr k rfl rfl rfl (by omega)
              try simp only [Act.put, List.setIfInBounds_toArray, List.set_cons_zero, List.set_cons_succ]
              refine pur_nil ?_
              have HRS : Hid (Sees wf wf.heap.size (some ar) (rowU R)) := Lib.hid ((HTN.out.keep HBK.out).more HBK.out.size)
              refine tri_goalU 49 52 elRef (.tmp 45) (.tmp 48) (.tmp 53) rfl rfl rfl (some ar) (R.take k) k cr x (by rw [List.length_take]; omega) hqr (by omega) (by rw [← rowU_take]; exact HRS.out.head _) (fun _ => rfl) (fun _ _ => rfl) (fun _ => rfl) (fun _ _ => rfl) rfl (fun _ => rfl) (fun _ _ => rfl) ?_
              rintro v0 v4 v9 w4 hE hown ⟨g9, rfl, hc9⟩
              try simp only [Act.put, List.setIfInBounds_toArray, List.set_cons_zero, List.set_cons_succ]
              refine ch_step rfl _ (leaves_moreU 49 52 elRef (.tmp 49) (.tmp 54) rfl v4 _ rfl hown hE (some ⟨g9, 0, none⟩) [x] 1 1 _ rfl rfl (fun h => by cases h) (Ss.one hc9 hc9.lt) (by rw [List.length_take]; omega)) ?_
              intro v5 w5 hE5 ho5
              try simp only [Act.put, List.setIfInBounds_toArray, List.set_cons_zero, List.set_cons_succ]
              refine ch_step rfl _ (leaves_moreU 49 52 elRef (.tmp 55) (.tmp 58) rfl v5 _ rfl ho5 hE5 (if cr = k then (some ar) else (some ar).map (·.add (k * 32))) (R.drop k) (R.length - k) (cr - k) wf.heap.size (by rw [List.length_drop]) rfl (fun h => cutU_none hqr h) (Sees.cutU (HRS.out.keep hE5) hrc) (by rw [List.length_append, List.length_take]; simp; omega)) ?_
              intro v6 w6 hE6 ho6
              try simp only [Act.put, List.setIfInBounds_toArray, List.set_cons_zero, List.set_cons_succ]
              refine ch_pure (v := v6) rfl hE6 (by go_simp; try with_reducible rfl) ?_
              try simp only [Act.put, List.setIfInBounds_toArray, List.set_cons_zero, List.set_cons_succ]
              refine ch_nil ?_
              replace HB := Lib.hid (HB.out.trans (hE6.mono HB.out.size))
              have HO6 := Lib.hid (OwnU.us ho6)
              clear hE hown hc9 hE5 ho5 hE6 ho6 HRS HBK
              generalize (if cr = k then (some ar) else (some ar).map (·.add (k * 32))) = qt
              go_wp2_with fail
              go_roundw
              case rel =>
                have hl : (R.take k ++ [x] ++ R.drop k).length = k + 1 + (R.length - k) := by simp; omega
                exact ⟨R.take k ++ [x] ++ R.drop k, i + 1, by omega, by go_num, HPUT.out, by rw [hl]; omega, HO6.out, HB.out⟩
              case measure => simp [intOf]; omega
    · have hil : i = L.length := by omega
      subst hil
      rw [List.take_length] at HSRT
      have kk : ¬ (L.length : Int) < (L.length : Int) := by omega
      have HE := Lib.hid (srt_of HSRT.out.1 HSRT.out.2)
      go_wp2_with fail
      go_ret
      refine ⟨⟨_, rfl, ?_⟩, HB.out⟩
      rw [← HE.out]
      exact ⟨qr, cr, rfl, hrc, hqr, HTN.out⟩
end Go.Proofs.YtepeloenijlnhaaDoor
