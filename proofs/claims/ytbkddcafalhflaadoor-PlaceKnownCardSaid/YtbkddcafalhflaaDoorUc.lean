/- Sums as lists of thirty-two bytes: their order, that they are told apart; sum.Sum.Cmp as slices.SortFunc asks it. Condition: thirty-two bytes each. -/
import Derived.Test.YtbkddcafalhflaaDoorProg
import Derived.Test.YtbkddcafalhflaaDoorUbas
import Derived.Test.YtbkddcafalhflaaDoorOrd
import Derived.Stop.BytesEq
import Derived.Sort.Grow
import Derived.Laws.Rows
import Derived.Tactics
import Derived.KernelRfl
import Derived.Deep.DeepCutAuto
import Derived.Deep.Cut
import Derived.Deep.QuietTactic
import Derived.IntWalk
import Derived.LoopIn
import Derived.LoopNIn
import Derived.OwnWalk
import Derived.OwnWalkIn
import Derived.Laws.AppendOwn
import Derived.Laws.OwnMore
import Derived.Great.BuildSlice
namespace Go.Proofs.YtbkddcafalhflaaDoor
open Go.RowKit
def strB (l : List (BitVec 8)) : ByteArray := ⟨(l.map UInt8.ofBitVec).toArray⟩
def cmpL : List (BitVec 8) → List (BitVec 8) → Int
  | a :: x, b :: y => if B a < B b then -1 else if B b < B a then 1 else cmpL x y
  | _, _ => 0
theorem cmpL_prefix (p x y : List (BitVec 8)) : cmpL (p ++ x) (p ++ y) = cmpL x y := by
  induction p with
  | nil => rfl
  | cons a p ih => simp [cmpL, ih]
theorem cmpL_self (x : List (BitVec 8)) : cmpL x x = 0 := by
  have := cmpL_prefix x [] []
  simpa [cmpL] using this
theorem split_at (x y : List (BitVec 8)) (k : Nat) (hx : k < x.length) (hy : k < y.length) (h : x.take k = y.take k) : cmpL x y = cmpL (at8 x k :: x.drop (k + 1)) (at8 y k :: y.drop (k + 1)) := by
  have e1 : x = x.take k ++ (at8 x k :: x.drop (k + 1)) := by
    conv => lhs; rw [← List.take_append_drop k x, List.drop_eq_getElem_cons hx]
    simp [at8, List.getD_eq_getElem?_getD, List.getElem?_eq_getElem hx]
  have e2 : y = x.take k ++ (at8 y k :: y.drop (k + 1)) := by
    conv => lhs; rw [← List.take_append_drop k y, List.drop_eq_getElem_cons hy, ← h]
    simp [at8, List.getD_eq_getElem?_getD, List.getElem?_eq_getElem hy]
  conv => lhs; rw [e1, e2, cmpL_prefix]
theorem take_next (x y : List (BitVec 8)) (k : Nat) (hx : k < x.length) (hy : k < y.length) (h : x.take k = y.take k) (he : at8 x k = at8 y k) : x.take (k + 1) = y.take (k + 1) := by
  have he' : x[k] = y[k] := by simpa [at8, List.getD_eq_getElem?_getD, List.getElem?_eq_getElem hx, List.getElem?_eq_getElem hy] using he
  rw [List.take_succ_eq_append_getElem hx, List.take_succ_eq_append_getElem hy, h, he']

theorem cmpL_vals : ∀ (x y : List (BitVec 8)), cmpL x y = -1 ∨ cmpL x y = 0 ∨ cmpL x y = 1
  | [], _ => by simp [cmpL]
  | _ :: _, [] => by simp [cmpL]
  | a :: x, b :: y => by
    have := cmpL_vals x y
    unfold cmpL
    split
    · exact .inl rfl
    · split
      · exact .inr (.inr rfl)
      · exact this
theorem cmpL_trans : ∀ (x y z : List (BitVec 8)), x.length = y.length → y.length = z.length → (cmpL x y ≤ 0 → cmpL y z ≤ 0 → cmpL x z ≤ 0) ∧ (cmpL x y < 0 → cmpL y z ≤ 0 → cmpL x z < 0)
  | [], _, _, _, _ => by simp [cmpL]
  | a :: x, b :: y, c :: z, h1, h2 => by
    have ih := cmpL_trans x y z (by simpa using h1) (by simpa using h2)
    unfold cmpL
    by_cases h1 : B a < B b
    · by_cases h2 : B b < B c
      · have h3 : B a < B c := by omega
        simp [h1, h2, h3]
      · by_cases h4 : B c < B b
        · simp [h1, h2, h4]
        · have h3 : B a < B c := by omega
          simp [h1, h3]
    · by_cases h5 : B b < B a
      · simp [h1, h5]
      · by_cases h2 : B b < B c
        · have h3 : B a < B c := by omega
          simp [h1, h5, h2, h3]
        · by_cases h4 : B c < B b
          · simp [h1, h5, h2, h4]
          · have h3 : ¬ B a < B c := by omega
            have h6 : ¬ B c < B a := by omega
            simpa only [h1, h5, h2, h4, h3, h6, if_false] using ih
  | _ :: _, [], _, h1, _ => by simp at h1
  | _ :: _, _ :: _, [], _, h2 => by simp at h2

theorem cmpL_zero : ∀ {x y : List (BitVec 8)}, x.length = y.length → (cmpL x y = 0 ↔ x = y)
  | [], [], _ => by simp [cmpL]
  | a :: x, b :: y, h => by
    have ih := cmpL_zero (x := x) (y := y) (by simpa using h)
    unfold cmpL
    by_cases h1 : B a < B b
    · rw [if_pos h1]; constructor
      · intro h; cases h
      · intro h; injection h with h2; subst h2; omega
    · rw [if_neg h1]
      by_cases h2 : B b < B a
      · rw [if_pos h2]; constructor
        · intro h; cases h
        · intro h; injection h with h3; subst h3; omega
      · rw [if_neg h2, ih]
        have : a = b := B_inj (by omega)
        subst this; simp
  | [], _ :: _, h => by simp at h
  | _ :: _, [], h => by simp at h
theorem cmpL_neg : ∀ (x y : List (BitVec 8)), x.length = y.length → cmpL y x = - cmpL x y
  | [], [], _ => rfl
  | a :: x, b :: y, h => by
    have ih := cmpL_neg x y (by simpa using h)
    unfold cmpL
    by_cases h1 : B a < B b
    · rw [if_pos h1, if_neg (by omega), if_pos h1]; rfl
    · rw [if_neg h1]
      by_cases h2 : B b < B a
      · rw [if_pos h2, if_neg h1, if_pos h2]
      · rw [if_neg h2, if_neg h2, if_neg h1, ih]
  | [], _ :: _, h => by simp at h
  | _ :: _, [], h => by simp at h
theorem u8v_cellU (l : List (BitVec 8)) : l.map u8v = (l.map UInt8.ofBitVec).map Extern.Stop.cell := by
  rw [List.map_map]; apply List.map_congr_left; intro x _
  simp [u8v, B, Extern.Stop.cell]
theorem beq_bytesU (a b : List (BitVec 8)) : (a.map UInt8.ofBitVec == b.map UInt8.ofBitVec) = decide (a = b) := by
  rw [Bool.eq_iff_iff, beq_iff_eq, decide_eq_true_iff]
  constructor
  · intro h
    have h2 := congrArg (List.map UInt8.toBitVec) h
    rw [List.map_map, List.map_map] at h2
    have e : (UInt8.toBitVec ∘ UInt8.ofBitVec) = id := by funext x; rfl
    rw [e, List.map_id, List.map_id] at h2
    exact h2
  · rintro rfl; rfl
theorem u8_sizeU (w : World) : (sizeOf 5).run Tryd.prog w = .ok 1 w := by kernel_rfl
theorem arr_eqlU (T : TypeId) (hT : Tryd.prog.underlying T = some (.array 32 5)) (a b : List (BitVec 8)) (ha : a.length = 32) (hb : b.length = 32) (w : World) :
    (binOp .eql T (.agg (a.map u8v).toArray) (.agg (b.map u8v).toArray)).run Tryd.prog w = .ok (.bool (decide (a = b))) w := by
  rw [u8v_cellU, u8v_cellU, run_eql_bytes w T 5 32 hT Tryd.underlying5 u8_sizeU _ _ (by simpa using ha) (by simpa using hb), beq_bytesU]
theorem add_zero_off (g j : Nat) : (Addr.add ⟨g, 0, none⟩ j) = ⟨g, j, none⟩ := by unfold Addr.add; split <;> simp_all
/-- The bytes as Go's string or slice of them. -/
theorem strB_size (x : List (BitVec 8)) : (strB x).size = x.length := by simp [strB, ByteArray.size]
theorem strB_get (x : List (BitVec 8)) (i : Nat) (h : i < x.length) : (strB x)[i]! = UInt8.ofBitVec (at8 x i) := by
  rw [getElem!_pos (strB x) i (by rw [strB_size]; exact h)]
  show (strB x).data[i]'_ = _
  simp [strB, at8, List.getD_eq_getElem?_getD, List.getElem?_eq_getElem h]
theorem B_lt_iff (p q : BitVec 8) : UInt8.ofBitVec p < UInt8.ofBitVec q ↔ B p < B q := by
  rw [UInt8.lt_iff_toNat_lt]; unfold B; show p.toNat < q.toNat ↔ _; omega
theorem cmp_strB (x y : List (BitVec 8)) (h : x.length = y.length) : Extern.BytealgCompare.cmp (strB x) (strB y) = cmpL x y := by
  unfold Extern.BytealgCompare.cmp
  rw [strB_size, strB_size, ← h, Nat.min_self]
  have hne : ∀ i, i < x.length → (((strB x)[i]! != (strB y)[i]!) = true ↔ at8 x i ≠ at8 y i) := fun i hi => by
    rw [strB_get x i hi, strB_get y i (by omega), bne_iff_ne, ne_eq, UInt8.ofBitVec.injEq]
  cases hf : (List.range x.length).find? fun i => (strB x)[i]! != (strB y)[i]! with
  | none =>
    have hxy : x = y := by
      refine List.ext_getElem h (fun i h1 h2 => ?_)
      have := List.find?_eq_none.1 hf i (List.mem_range.2 h1)
      rw [hne i h1] at this
      simpa [at8, List.getD_eq_getElem?_getD, List.getElem?_eq_getElem h1, List.getElem?_eq_getElem h2] using this
    subst hxy
    simp [cmpL_self]
  | some i =>
    obtain ⟨h1, h2, h3⟩ := List.find?_range_eq_some.1 hf
    have hi := List.mem_range.1 h2
    rw [hne i hi] at h1
    have ht : ∀ k, k ≤ i → x.take k = y.take k := fun k => by
      induction k with
      | zero => intro _; rfl
      | succ k ih =>
        intro hk
        have hq := h3 k (by omega)
        refine take_next x y k (by omega) (by omega) (ih (by omega)) ?_
        have := hne k (by omega)
        refine Classical.byContradiction fun hc => ?_
        simp [this.2 hc] at hq
    rw [split_at x y i hi (by omega) (ht i (Nat.le_refl _))]
    simp only [cmpL]
    rw [strB_get x i hi, strB_get y i (by omega)]
    have hB : B (at8 x i) ≠ B (at8 y i) := fun hc => h1 (B_inj hc)
    by_cases hl : B (at8 x i) < B (at8 y i)
    · rw [if_pos hl, if_pos ((B_lt_iff _ _).2 hl)]
    · rw [if_neg hl, if_neg (fun hc => hl ((B_lt_iff _ _).1 hc)), if_pos (by omega)]

theorem load_bytes (w : World) : ∀ (l : List (BitVec 8)) (a : Addr) (acc : ByteArray), (∀ j u, (l.map u8v)[j]? = some u → w.cell? (a.add j) = some u) →
    (Extern.Bytes.loadBytes a l.length acc).run Tryd.prog w = .ok ⟨acc.data ++ (l.map UInt8.ofBitVec).toArray⟩ w
  | [], a, acc, _ => by simp [Extern.Bytes.loadBytes]
  | x :: l, a, acc, h => by
    have h0 : w.cell? a = some (.int .u8 (B x)) := by
      have := h 0 (u8v x) rfl
      simpa [Addr.add, u8v] using this
    have ih := load_bytes w l (a.add 1) (acc.push (B x).toNat.toUInt8) (fun j y hy => by
      have := h (j + 1) y (by simpa using hy)
      rw [add_add, Nat.add_comm]; exact this)
    have e : (B x).toNat.toUInt8 = UInt8.ofBitVec x := by
      unfold B; rw [Int.toNat_natCast]
      exact UInt8.toNat_inj.1 (by simp)
    simp only [List.length_cons, Extern.Bytes.loadBytes, Sem.run_bind, run_load, h0, Result.andThen]
    rw [ih, e]
    simp [ByteArray.push]

theorem two_grown (w : World) (o1 o2 : Obj) : ((w.alloc o1).alloc o2).drew = Sort.grow (w.drewN 1) #[o1, o2] := by
  rw [Sort.alloc_eq_grow, Sort.alloc_eq_grow, Sort.grow_grow]; rfl
theorem below_grow (w : World) (q : Nat) (os : Array Obj) : Below w.heap.size w (Sort.grow (w.drewN q) os) :=
  ⟨rfl, rfl, rfl, by show w.heap.size ≤ (w.heap ++ os).size; simp, fun k hk => by
    show (w.heap ++ os)[k]? = _
    rw [Array.getElem?_append_left hk]⟩
end Go.Proofs.YtbkddcafalhflaaDoor
