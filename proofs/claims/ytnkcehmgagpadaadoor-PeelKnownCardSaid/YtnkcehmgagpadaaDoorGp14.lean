import Derived.Test.YtnkcehmgagpadaaDoorSha
import Derived.Test.YtnkcehmgagpadaaDoorMem
import Derived.Deep.RegionHeld3
import Derived.Test.YtnkcehmgagpadaaDoorProg
import Derived.Stop.BytesEq
import Derived.Sort.Grow
import Derived.Laws.Rows
import Derived.Tactics
import Derived.KernelRfl
import Derived.Deep.DeepCutAuto
import Derived.Deep.Cut
import Derived.Deep.QuietTactic
import Derived.IntWalk
import Derived.LoopIn
import Derived.LoopNIn
import Derived.OwnWalk
import Derived.OwnWalkIn
import Derived.Laws.AppendOwn
import Derived.Laws.OwnMore
import Derived.Great.BuildSlice
/- What stands under the texts on sets, at a seat that has package sum's. No condition. -/
/- A region that draws its order, walked in one order that is named: an operation that yields the same in every world may be taken first; another one where it alone may come up. No condition. -/
namespace Go.Proofs.YtnkcehmgagpadaaDoor

section
variable {P : Program} {ops : Array Oper} {Q : Exit → Act → World → Prop}

/-- The operations by number; true: it yields the same in whatever world. -/
def wpOrd (P : Program) (ops : Array Oper) (Q : Exit → Act → World → Prop) : List (Nat × Bool) → Act → World → Prop
  | [], a, w => Q .normal a w
  | (i, true) :: r, a, w => ∃ o v, ops[i]? = some o ∧ YieldsIf P ops (fun _ => True) o v a ∧ wpOrd P ops Q r (a.put o.dst v) w
  | (i, false) :: r, a, w => wpOp P ops Q i (wpOrd P ops Q r) a w

def ordB (md : Region.Mode) (ops : Array Oper) : List (Nat × Bool) → Array Bool → Bool
  | [], listed => (Region.ready md ops listed).isEmpty
  | (i, true) :: r, listed => Region.free md ops listed i && ((Region.ready md ops listed).contains i && ordB md ops r (listed.setIfInBounds i true))
  | (i, false) :: r, listed => decide (Region.ready md ops listed = [i]) && ordB md ops r (listed.setIfInBounds i true)

theorem wpAnyH_of_ord {md : Region.Mode} (hs : Region.noSelect ops = true) (hQ : ∀ c a d v w, Q (.panic c) (a.put d v) w → Q (.panic c) a w) :
    ∀ (l : List (Nat × Bool)) (fuel : Nat) (listed : Array Bool) (a : Act) (w : World), l.length ≤ fuel → ordB md ops l listed = true → wpOrd P ops Q l a w →
      wpAnyH P md ops Q (fun _ => True) fuel listed a w
  | [], fuel, listed, a, w, _, hB, h => wpAnyH_done (by simpa [ordB] using hB) h fuel
  | (i, b) :: r, 0, _, _, _, hl, _, _ => absurd hl (by simp)
  | (i, true) :: r, fuel + 1, listed, a, w, hl, hB, h => by
    obtain ⟨o, v, ho, hy, hr⟩ := h
    simp only [ordB, Bool.and_eq_true] at hB
    exact wpAnyH_take ho hs hB.1 hB.2.1 (fun c a w => hQ c a _ v w) hy trivial (wpAnyH_of_ord hs hQ r fuel _ _ _ (by simpa using hl) hB.2.2 hr)
  | (i, false) :: r, fuel + 1, listed, a, w, hl, hB, h => by
    simp only [ordB, Bool.and_eq_true, decide_eq_true_eq] at hB
    refine wpAnyH_all hB.1 (by simp) (fun j hj => ?_)
    have hj : j = i := by simpa using hj
    subst hj
    exact wpOp_mono (fun a' w' h' => ⟨trivial, wpAnyH_of_ord hs hQ r fuel _ _ _ (by simpa using hl) hB.2 h'⟩) h

/-- The same with the operations themselves in their places. -/
def wpOrdL (P : Program) (ops : Array Oper) (Q : Exit → Act → World → Prop) : List (Oper × Bool) → Act → World → Prop
  | [], a, w => Q .normal a w
  | (o, true) :: r, a, w => ∃ v, YieldsIf P ops (fun _ => True) o v a ∧ wpOrdL P ops Q r (a.put o.dst v) w
  | (o, false) :: r, a, w => if Region.wanted o (yielded ops a.tmps) then o.wp P a w (wpOrdL P ops Q r) Q ∨ (o.asks P a w ∧ LetsOut Q) else wpOrdL P ops Q r (a.put o.dst undef) w
def pickOps (l : List Oper) : List (Nat × Bool) → List (Oper × Bool)
  | [] => []
  | (i, b) :: r => match l[i]? with
    | some o => (o, b) :: pickOps l r
    | none => pickOps l r
theorem wpOrd_of_L (ops : Array Oper) : ∀ (l : List (Nat × Bool)) (a : Act) (w : World), (l.all fun x => decide (x.1 < ops.size)) = true →
    wpOrdL P ops Q (pickOps ops.toList l) a w → wpOrd P ops Q l a w
  | [], _, _, _, h => h
  | (i, b) :: r, a, w, hl, h => by
    simp only [List.all_cons, Bool.and_eq_true, decide_eq_true_eq] at hl
    have ho : ops.toList[i]? = some ops[i] := by simp [hl.1]
    have ho' : ops[i]? = some ops[i] := by simp [hl.1]
    rw [pickOps, ho] at h
    cases b with
    | true =>
      obtain ⟨v, hy, hr⟩ := h
      exact ⟨_, v, ho', hy, wpOrd_of_L ops r _ _ hl.2 hr⟩
    | false =>
      show wpOp P ops Q i (wpOrd P ops Q r) a w
      have h2 : wpOp P ops Q i (wpOrdL P ops Q (pickOps ops.toList r)) a w := by unfold wpOp; rw [ho']; exact h
      exact wpOp_mono (fun a' w' h' => wpOrd_of_L ops r _ _ hl.2 h') h2
theorem ord_pure {o : Oper} {r : List (Oper × Bool)} {a : Act} {w : World} {v : Value} (hw : Region.wanted o (yielded ops a.tmps) = true)
    (hy : ∀ w', (execOp a.eval o).run P w' = .ok (.value v) w') (h : wpOrdL P ops Q r (a.put o.dst v) w) : wpOrdL P ops Q ((o, true) :: r) a w :=
  ⟨v, .inl ⟨hw, fun w' _ => hy w'⟩, h⟩
theorem ord_step {o : Oper} {r : List (Oper × Bool)} {a : Act} {w : World} (hg : o.guard = none)
    (h : ∀ K : Act → World → Prop, (∀ a w, wpOrdL P ops Q r a w → K a w) → o.wp P a w K Q) : wpOrdL P ops Q ((o, false) :: r) a w := by
  have := h _ (fun _ _ h => h)
  show if _ then _ else _
  rw [if_pos (by simp [Region.wanted, hg])]
  exact .inl this
/-- The region is shown not to panic. -/
theorem wp_region_ord {id : Nat} {a : Act} {w : World} {lo : List Oper} (l : List (Nat × Bool)) (hm : P.follows .mixedOrders = true) (hs : Region.noSelect lo.toArray = true)
    (hB : (decide (l.length ≤ lo.toArray.size) && (ordB .any lo.toArray l (Array.replicate lo.toArray.size false) && l.all fun x => decide (x.1 < lo.toArray.size))) = true)
    (h : wpOrdL P lo.toArray (NoPanic Q) (pickOps lo l) a w.drew) : (Code.region id lo.toArray true).wp P Q a w := by
  simp only [Bool.and_eq_true, decide_eq_true_eq] at hB
  exact wp_region_noPanic (wp_region_held hm (wpAnyH_of_ord hs (fun _ _ _ _ _ h => h) l _ _ _ _ hB.1 hB.2.1 (wpOrd_of_L _ _ _ _ hB.2.2 h)))
theorem ord_nil {a : Act} {w : World} (h : Q .normal a w) : wpOrdL P ops (NoPanic Q) [] a w := h
end
end Go.Proofs.YtnkcehmgagpadaaDoor
/- Sums as lists of thirty-two bytes: their order, that they are told apart; sum.Sum.Cmp as slices.SortFunc asks it. Condition: thirty-two bytes each. -/
namespace Go.Proofs.YtnkcehmgagpadaaDoor
open Go.RowKit
def strB (l : List (BitVec 8)) : ByteArray := ⟨(l.map UInt8.ofBitVec).toArray⟩
def cmpL : List (BitVec 8) → List (BitVec 8) → Int
  | a :: x, b :: y => if B a < B b then -1 else if B b < B a then 1 else cmpL x y
  | _, _ => 0
theorem cmpL_prefix (p x y : List (BitVec 8)) : cmpL (p ++ x) (p ++ y) = cmpL x y := by
  induction p with
  | nil => rfl
  | cons a p ih => simp [cmpL, ih]
theorem cmpL_self (x : List (BitVec 8)) : cmpL x x = 0 := by
  have := cmpL_prefix x [] []
  simpa [cmpL] using this
theorem split_at (x y : List (BitVec 8)) (k : Nat) (hx : k < x.length) (hy : k < y.length) (h : x.take k = y.take k) : cmpL x y = cmpL (at8 x k :: x.drop (k + 1)) (at8 y k :: y.drop (k + 1)) := by
  have e1 : x = x.take k ++ (at8 x k :: x.drop (k + 1)) := by
    conv => lhs; rw [← List.take_append_drop k x, List.drop_eq_getElem_cons hx]
    simp [at8, List.getD_eq_getElem?_getD, List.getElem?_eq_getElem hx]
  have e2 : y = x.take k ++ (at8 y k :: y.drop (k + 1)) := by
    conv => lhs; rw [← List.take_append_drop k y, List.drop_eq_getElem_cons hy, ← h]
    simp [at8, List.getD_eq_getElem?_getD, List.getElem?_eq_getElem hy]
  conv => lhs; rw [e1, e2, cmpL_prefix]
theorem take_next (x y : List (BitVec 8)) (k : Nat) (hx : k < x.length) (hy : k < y.length) (h : x.take k = y.take k) (he : at8 x k = at8 y k) : x.take (k + 1) = y.take (k + 1) := by
  have he' : x[k] = y[k] := by simpa [at8, List.getD_eq_getElem?_getD, List.getElem?_eq_getElem hx, List.getElem?_eq_getElem hy] using he
  rw [List.take_succ_eq_append_getElem hx, List.take_succ_eq_append_getElem hy, h, he']

theorem cmpL_vals : ∀ (x y : List (BitVec 8)), cmpL x y = -1 ∨ cmpL x y = 0 ∨ cmpL x y = 1
  | [], _ => by simp [cmpL]
  | _ :: _, [] => by simp [cmpL]
  | a :: x, b :: y => by
    have := cmpL_vals x y
    unfold cmpL
    split
    · exact .inl rfl
    · split
      · exact .inr (.inr rfl)
      · exact this
theorem cmpL_trans : ∀ (x y z : List (BitVec 8)), x.length = y.length → y.length = z.length → (cmpL x y ≤ 0 → cmpL y z ≤ 0 → cmpL x z ≤ 0) ∧ (cmpL x y < 0 → cmpL y z ≤ 0 → cmpL x z < 0)
  | [], _, _, _, _ => by simp [cmpL]
  | a :: x, b :: y, c :: z, h1, h2 => by
    have ih := cmpL_trans x y z (by simpa using h1) (by simpa using h2)
    unfold cmpL
    by_cases h1 : B a < B b
    · by_cases h2 : B b < B c
      · have h3 : B a < B c := by omega
        simp [h1, h2, h3]
      · by_cases h4 : B c < B b
        · simp [h1, h2, h4]
        · have h3 : B a < B c := by omega
          simp [h1, h3]
    · by_cases h5 : B b < B a
      · simp [h1, h5]
      · by_cases h2 : B b < B c
        · have h3 : B a < B c := by omega
          simp [h1, h5, h2, h3]
        · by_cases h4 : B c < B b
          · simp [h1, h5, h2, h4]
          · have h3 : ¬ B a < B c := by omega
            have h6 : ¬ B c < B a := by omega
            simpa only [h1, h5, h2, h4, h3, h6, if_false] using ih
  | _ :: _, [], _, h1, _ => by simp at h1
  | _ :: _, _ :: _, [], _, h2 => by simp at h2

theorem cmpL_zero : ∀ {x y : List (BitVec 8)}, x.length = y.length → (cmpL x y = 0 ↔ x = y)
  | [], [], _ => by simp [cmpL]
  | a :: x, b :: y, h => by
    have ih := cmpL_zero (x := x) (y := y) (by simpa using h)
    unfold cmpL
    by_cases h1 : B a < B b
    · rw [if_pos h1]; constructor
      · intro h; cases h
      · intro h; injection h with h2; subst h2; omega
    · rw [if_neg h1]
      by_cases h2 : B b < B a
      · rw [if_pos h2]; constructor
        · intro h; cases h
        · intro h; injection h with h3; subst h3; omega
      · rw [if_neg h2, ih]
        have : a = b := B_inj (by omega)
        subst this; simp
  | [], _ :: _, h => by simp at h
  | _ :: _, [], h => by simp at h
theorem cmpL_neg : ∀ (x y : List (BitVec 8)), x.length = y.length → cmpL y x = - cmpL x y
  | [], [], _ => rfl
  | a :: x, b :: y, h => by
    have ih := cmpL_neg x y (by simpa using h)
    unfold cmpL
    by_cases h1 : B a < B b
    · rw [if_pos h1, if_neg (by omega), if_pos h1]; rfl
    · rw [if_neg h1]
      by_cases h2 : B b < B a
      · rw [if_pos h2, if_neg h1, if_pos h2]
      · rw [if_neg h2, if_neg h2, if_neg h1, ih]
  | [], _ :: _, h => by simp at h
  | _ :: _, [], h => by simp at h
theorem u8v_cellU (l : List (BitVec 8)) : l.map u8v = (l.map UInt8.ofBitVec).map Extern.Stop.cell := by
  rw [List.map_map]; apply List.map_congr_left; intro x _
  simp [u8v, B, Extern.Stop.cell]
theorem beq_bytesU (a b : List (BitVec 8)) : (a.map UInt8.ofBitVec == b.map UInt8.ofBitVec) = decide (a = b) := by
  rw [Bool.eq_iff_iff, beq_iff_eq, decide_eq_true_iff]
  constructor
  · intro h
    have h2 := congrArg (List.map UInt8.toBitVec) h
    rw [List.map_map, List.map_map] at h2
    have e : (UInt8.toBitVec ∘ UInt8.ofBitVec) = id := by funext x; rfl
    rw [e, List.map_id, List.map_id] at h2
    exact h2
  · rintro rfl; rfl
theorem u8_sizeU (w : World) : (sizeOf 5).run Tryd.prog w = .ok 1 w := by kernel_rfl
theorem arr_eqlU (T : TypeId) (hT : Tryd.prog.underlying T = some (.array 32 5)) (a b : List (BitVec 8)) (ha : a.length = 32) (hb : b.length = 32) (w : World) :
    (binOp .eql T (.agg (a.map u8v).toArray) (.agg (b.map u8v).toArray)).run Tryd.prog w = .ok (.bool (decide (a = b))) w := by
  rw [u8v_cellU, u8v_cellU, run_eql_bytes w T 5 32 hT Tryd.underlying5 u8_sizeU _ _ (by simpa using ha) (by simpa using hb), beq_bytesU]
theorem add_zero_off (g j : Nat) : (Addr.add ⟨g, 0, none⟩ j) = ⟨g, j, none⟩ := by unfold Addr.add; split <;> simp_all
/-- The bytes as Go's string or slice of them. -/
theorem strB_size (x : List (BitVec 8)) : (strB x).size = x.length := by simp [strB, ByteArray.size]
theorem strB_get (x : List (BitVec 8)) (i : Nat) (h : i < x.length) : (strB x)[i]! = UInt8.ofBitVec (at8 x i) := by
  rw [getElem!_pos (strB x) i (by rw [strB_size]; exact h)]
  show (strB x).data[i]'_ = _
  simp [strB, at8, List.getD_eq_getElem?_getD, List.getElem?_eq_getElem h]
theorem B_lt_iff (p q : BitVec 8) : UInt8.ofBitVec p < UInt8.ofBitVec q ↔ B p < B q := by
  rw [UInt8.lt_iff_toNat_lt]; unfold B; show p.toNat < q.toNat ↔ _; omega
theorem cmp_strB (x y : List (BitVec 8)) (h : x.length = y.length) : Extern.BytealgCompare.cmp (strB x) (strB y) = cmpL x y := by
  unfold Extern.BytealgCompare.cmp
  rw [strB_size, strB_size, ← h, Nat.min_self]
  have hne : ∀ i, i < x.length → (((strB x)[i]! != (strB y)[i]!) = true ↔ at8 x i ≠ at8 y i) := fun i hi => by
    rw [strB_get x i hi, strB_get y i (by omega), bne_iff_ne, ne_eq, UInt8.ofBitVec.injEq]
  cases hf : (List.range x.length).find? fun i => (strB x)[i]! != (strB y)[i]! with
  | none =>
    have hxy : x = y := by
      refine List.ext_getElem h (fun i h1 h2 => ?_)
      have := List.find?_eq_none.1 hf i (List.mem_range.2 h1)
      rw [hne i h1] at this
      simpa [at8, List.getD_eq_getElem?_getD, List.getElem?_eq_getElem h1, List.getElem?_eq_getElem h2] using this
    subst hxy
    simp [cmpL_self]
  | some i =>
    obtain ⟨h1, h2, h3⟩ := List.find?_range_eq_some.1 hf
    have hi := List.mem_range.1 h2
    rw [hne i hi] at h1
    have ht : ∀ k, k ≤ i → x.take k = y.take k := fun k => by
      induction k with
      | zero => intro _; rfl
      | succ k ih =>
        intro hk
        have hq := h3 k (by omega)
        refine take_next x y k (by omega) (by omega) (ih (by omega)) ?_
        have := hne k (by omega)
        refine Classical.byContradiction fun hc => ?_
        simp [this.2 hc] at hq
    rw [split_at x y i hi (by omega) (ht i (Nat.le_refl _))]
    simp only [cmpL]
    rw [strB_get x i hi, strB_get y i (by omega)]
    have hB : B (at8 x i) ≠ B (at8 y i) := fun hc => h1 (B_inj hc)
    by_cases hl : B (at8 x i) < B (at8 y i)
    · rw [if_pos hl, if_pos ((B_lt_iff _ _).2 hl)]
    · rw [if_neg hl, if_neg (fun hc => hl ((B_lt_iff _ _).1 hc)), if_pos (by omega)]

theorem load_bytes (w : World) : ∀ (l : List (BitVec 8)) (a : Addr) (acc : ByteArray), (∀ j u, (l.map u8v)[j]? = some u → w.cell? (a.add j) = some u) →
    (Extern.Bytes.loadBytes a l.length acc).run Tryd.prog w = .ok ⟨acc.data ++ (l.map UInt8.ofBitVec).toArray⟩ w
  | [], a, acc, _ => by simp [Extern.Bytes.loadBytes]
  | x :: l, a, acc, h => by
    have h0 : w.cell? a = some (.int .u8 (B x)) := by
      have := h 0 (u8v x) rfl
      simpa [Addr.add, u8v] using this
    have ih := load_bytes w l (a.add 1) (acc.push (B x).toNat.toUInt8) (fun j y hy => by
      have := h (j + 1) y (by simpa using hy)
      rw [add_add, Nat.add_comm]; exact this)
    have e : (B x).toNat.toUInt8 = UInt8.ofBitVec x := by
      unfold B; rw [Int.toNat_natCast]
      exact UInt8.toNat_inj.1 (by simp)
    simp only [List.length_cons, Extern.Bytes.loadBytes, Sem.run_bind, run_load, h0, Result.andThen]
    rw [ih, e]
    simp [ByteArray.push]

theorem run_cmp (x y : List (BitVec 8)) (h : x.length = y.length) (a b : Addr) (c d : Nat) (w : World)
    (ha : ∀ j u, (x.map u8v)[j]? = some u → w.cell? (a.add j) = some u) (hb : ∀ j u, (y.map u8v)[j]? = some u → w.cell? (b.add j) = some u) :
    (callFunc 90 #[.slice (some a) x.length c, .slice (some b) y.length d]).run Tryd.prog w = .ok (.value (.int .i64 (cmpL x y))) w := by
  rw [run_callFunc_extern Tryd.func90 (by kernel_rfl) (by kernel_rfl) (by kernel_rfl) (e := Extern.BytealgCompare.compare) (by kernel_rfl)]
  have e : (Extern.BytealgCompare.compare #[.slice (some a) x.length c, .slice (some b) y.length d]).run Tryd.prog w = .ok (.int .i64 (cmpL x y)) w := by
    show (do pure (goInt (Extern.BytealgCompare.cmp (← Extern.Bytes.loadBytes a x.length .empty) (← Extern.Bytes.loadBytes b y.length .empty))) : Sem Value).run Tryd.prog w = _
    rw [Sem.run_bind, load_bytes w x a _ ha]
    simp only [Result.andThen]
    rw [Sem.run_bind, load_bytes w y b _ hb]
    simp only [Result.andThen, Sem.run_pure]
    have := cmp_strB x y h
    unfold strB at this
    simpa [goInt] using this
  rw [e]; rfl

theorem bcmp_any (x y : List (BitVec 8)) (h : x.length = y.length) (a b : Addr) (c d : Nat) (w : World)
    (ha : ∀ j u, (x.map u8v)[j]? = some u → w.cell? (a.add j) = some u) (hb : ∀ j u, (y.map u8v)[j]? = some u → w.cell? (b.add j) = some u) :
    Calls Tryd.prog 73 #[.slice (some a) x.length c, .slice (some b) y.length d] w fun e w' => e = .returned (.int .i64 (cmpL x y)) ∧ w = w' := by
  have hr := run_cmp x y h a b c d w ha hb
  clear ha hb h
  go_enter Tryd.func73, Tryd.ntmps73
  go_wp2_with fail
  go_ret
  exact ⟨rfl, rfl⟩

theorem two_grown (w : World) (o1 o2 : Obj) : ((w.alloc o1).alloc o2).drew = Sort.grow (w.drewN 1) #[o1, o2] := by
  rw [Sort.alloc_eq_grow, Sort.alloc_eq_grow, Sort.grow_grow]; rfl
set_option maxHeartbeats 1000000 in
theorem cmpg_any (x y : List (BitVec 8)) (hx : x.length = 32) (hy : y.length = 32) (w : World) :
    Calls Tryd.prog 58 #[.agg (x.map u8v).toArray, .agg (y.map u8v).toArray] w fun e w' => e = .returned (.int .i64 (cmpL x y)) ∧ (∃ q os, w' = Sort.grow (w.drewN q) os) := by
  obtain ⟨cx, hcx⟩ : ∃ cx, cx = x.map u8v := ⟨_, rfl⟩
  obtain ⟨cy, hcy⟩ : ∃ cy, cy = y.map u8v := ⟨_, rfl⟩
  rw [← hcx, ← hcy]
  have Hcx := Lib.hid hcx
  have Hcy := Lib.hid hcy
  have Hx := Lib.hid hx
  have Hy := Lib.hid hy
  clear hcx hcy hx hy
  go_enter Tryd.func58, Tryd.ntmps58
  go_upto_region 1 with fail
  generalize hw0 : (w.alloc _).alloc _ = w0
  have h2 : Has w0 w.heap.size 42 (x.map u8v) := by
    subst hw0; rw [← Hcx.out]; exact (Has.made' _ _ _ _ rfl).alloc _
  have h3 : Has w0 (w.heap.size + 1) 42 (y.map u8v) := by
    subst hw0; rw [← Hcy.out]; exact Has.made1 _ _ _ _ _ rfl
  have HB : Hid (∃ q os, w0.drew = Sort.grow (w.drewN q) os) := Lib.hid ⟨_, _, by subst hw0; exact two_grown _ _ _⟩
  clear hw0
  refine wp_region_ord [(0, true), (1, true), (2, false), (3, true)] (by kernel_rfl) (by kernel_rfl) (by kernel_rfl) ?_
  simp only [pickOps, List.getElem?_cons_zero, List.getElem?_cons_succ]
  (repeat (refine ord_pure (v := ?_) (by rfl) ?_ ?_; rotate_left; (· intro w'; go_simp; try with_reducible rfl); try simp only [Act.put, List.setIfInBounds_toArray, List.set_cons_zero, List.set_cons_succ]))
  refine ord_step (by rfl) (fun K hK => ?_)
  go_wp2_with fail
  have hc := bcmp_any x y (by rw [Hx.out, Hy.out]) ⟨w.heap.size, 0, none⟩ ⟨w.heap.size + 1, 0, none⟩ 32 32 w0.drew
    (fun j u hu => by rw [add_zero_off]; exact h2.cellv hu) (fun j u hu => by rw [add_zero_off]; exact h3.cellv hu)
  rw [Hx.out, Hy.out] at hc
  refine hc.mono ?_
  rintro e w3 ⟨rfl, rfl⟩
  clear hc
  go_wp2_with fail
  (repeat (refine ord_pure (v := ?_) (by rfl) ?_ ?_; rotate_left; (· intro w'; go_simp; try with_reducible rfl); try simp only [Act.put, List.setIfInBounds_toArray, List.set_cons_zero, List.set_cons_succ]))
  refine ord_nil ?_
  go_wp2_with fail
  go_ret
  exact ⟨rfl, HB.out⟩
theorem below_grow (w : World) (q : Nat) (os : Array Obj) : Below w.heap.size w (Sort.grow (w.drewN q) os) :=
  ⟨rfl, rfl, rfl, by show w.heap.size ≤ (w.heap ++ os).size; simp, fun k hk => by
    show (w.heap ++ os)[k]? = _
    rw [Array.getElem?_append_left hk]⟩
theorem cmp_any (x y : List (BitVec 8)) (hx : x.length = 32) (hy : y.length = 32) (w : World) :
    Calls Tryd.prog 58 #[.agg (x.map u8v).toArray, .agg (y.map u8v).toArray] w fun e w' => e = .returned (.int .i64 (cmpL x y)) ∧ Below w.heap.size w w' :=
  (cmpg_any x y hx hy w).mono fun _ _ ⟨h1, q, os, h2⟩ => ⟨h1, h2 ▸ below_grow w q os⟩
end Go.Proofs.YtnkcehmgagpadaaDoor
