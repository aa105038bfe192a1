/- Contracts: sum.Sum.Cmp, the document's own Cmp. Condition: thirty-two bytes each. -/
import Derived.Test.YtgaphplndpdhaaaDoorRef
namespace Go.Proofs.YtgaphplndpdhaaaDoor
open Go.RowKit
def cmpL : List (BitVec 8) → List (BitVec 8) → Int
  | a :: x, b :: y => if B a < B b then -1 else if B b < B a then 1 else cmpL x y
  | _, _ => 0
theorem cmpL_prefix (p x y : List (BitVec 8)) : cmpL (p ++ x) (p ++ y) = cmpL x y := by
  induction p with
  | nil => rfl
  | cons a p ih => simp [cmpL, ih]
theorem cmpL_self (x : List (BitVec 8)) : cmpL x x = 0 := by
  have := cmpL_prefix x [] []
  simpa [cmpL] using this
theorem split_at (x y : List (BitVec 8)) (k : Nat) (hx : k < x.length) (hy : k < y.length) (h : x.take k = y.take k) : cmpL x y = cmpL (at8 x k :: x.drop (k + 1)) (at8 y k :: y.drop (k + 1)) := by
  have e1 : x = x.take k ++ (at8 x k :: x.drop (k + 1)) := by
    conv => lhs; rw [← List.take_append_drop k x, List.drop_eq_getElem_cons hx]
    simp [at8, List.getD_eq_getElem?_getD, List.getElem?_eq_getElem hx]
  have e2 : y = x.take k ++ (at8 y k :: y.drop (k + 1)) := by
    conv => lhs; rw [← List.take_append_drop k y, List.drop_eq_getElem_cons hy, ← h]
    simp [at8, List.getD_eq_getElem?_getD, List.getElem?_eq_getElem hy]
  conv => lhs; rw [e1, e2, cmpL_prefix]
theorem take_next (x y : List (BitVec 8)) (k : Nat) (hx : k < x.length) (hy : k < y.length) (h : x.take k = y.take k) (he : at8 x k = at8 y k) : x.take (k + 1) = y.take (k + 1) := by
  have he' : x[k] = y[k] := by simpa [at8, List.getD_eq_getElem?_getD, List.getElem?_eq_getElem hx, List.getElem?_eq_getElem hy] using he
  rw [List.take_succ_eq_append_getElem hx, List.take_succ_eq_append_getElem hy, h, he']

set_option maxHeartbeats 1000000 in
theorem rcmp_any (x y : List (BitVec 8)) (hx : x.length = 32) (hy : y.length = 32) (w : World) :
    Calls Tryd.prog 12 #[.agg (x.map u8v).toArray, .agg (y.map u8v).toArray] w fun e w' => e = .returned (.int .i64 (cmpL x y)) ∧ Below w.heap.size w w' := by
  obtain ⟨cx, hcx⟩ : ∃ cx, cx = x.map u8v := ⟨_, rfl⟩
  obtain ⟨cy, hcy⟩ : ∃ cy, cy = y.map u8v := ⟨_, rfl⟩
  rw [← hcx, ← hcy]
  have Hcx := Lib.hid hcx
  have Hcy := Lib.hid hcy
  have Hx := Lib.hid hx
  have Hy := Lib.hid hy
  clear hcx hcy hx hy
  go_enter Tryd.func12, Tryd.ntmps12
  go_wp2_with fail
  generalize hw0 : (w.alloc _).alloc _ = w0
  have h2 : Has w0 w.heap.size 27 (x.map u8v) := by
    subst hw0; rw [← Hcx.out]; exact (Has.made' _ _ _ _ rfl).alloc _
  have h3 : Has w0 (w.heap.size + 1) 27 (y.map u8v) := by
    subst hw0; rw [← Hcy.out]; exact Has.made1 _ _ _ _ _ rfl
  have hB : Below w.heap.size w w0 := by
    subst hw0; exact ((Below.refl _ _).alloc (Nat.le_refl _) _).alloc (by simp) _
  clear hw0
  go_loopw [5] (fun i wr => ∃ k : Nat, k ≤ 32 ∧ i = .int .i64 k ∧ x.take k = y.take k ∧ Has wr w.heap.size 27 (x.map u8v) ∧ Has wr (w.heap.size + 1) 27 (y.map u8v) ∧ Below w.heap.size w wr)
    (fun i _ => 32 - (intOf i).toNat)
  case atStart => exact ⟨0, by omega, rfl, rfl, h2, h3, hB⟩
  case round =>
    clear h2 h3 hB
    rename_i wr
    obtain ⟨k, hk, rfl, htk, h2, h3, hB⟩ := hrel
    by_cases hlt : k < 32
    · have cs := h2.cellv (at8_of x k (by rw [Hx.out]; exact hlt))
      have co := h3.cellv (at8_of y k (by rw [Hy.out]; exact hlt))
      have hsp := split_at x y k (by rw [Hx.out]; exact hlt) (by rw [Hy.out]; exact hlt) htk
      have htn := fun he => take_next x y k (by rw [Hx.out]; exact hlt) (by rw [Hy.out]; exact hlt) htk he
      have k1 : (k : Int) < 32 := by omega
      have Hsp := Lib.hid hsp
      have Htn := Lib.hid htn
      clear hsp htn htk
      generalize at8 x k = p at *
      generalize at8 y k = q at *
      by_cases hpq : B p < B q
      · have hr : cmpL x y = -1 := by rw [Hsp.out, cmpL, if_pos hpq]
        have Hr := Lib.hid hr
        clear hr
        go_wp2_with fail
        go_quiet (fail)
        go_wp2_with fail
        go_ret
        exact ⟨congrArg (fun n => Ending.returned (.int .i64 n)) Hr.out.symm, below_drewN hB _⟩
      · by_cases hqp : B q < B p
        · have hr : cmpL x y = 1 := by rw [Hsp.out, cmpL, if_neg hpq, if_pos hqp]
          have Hr := Lib.hid hr
          clear hr
          go_wp2_with fail
          go_quiet (fail)
          go_wp2_with fail
          go_quiet (fail)
          go_wp2_with fail
          go_ret
          exact ⟨congrArg (fun n => Ending.returned (.int .i64 n)) Hr.out.symm, below_drewN (below_drewN hB _) _⟩
        · have he : p = q := B_inj (by omega)
          have Ht := Lib.hid (Htn.out he)
          go_wp2_with fail
          go_quiet (fail)
          go_wp2_with fail
          go_quiet (fail)
          go_wp2_with fail
          go_roundw
          case rel => exact ⟨k + 1, by omega, by go_num, Ht.out, h2.drewN _, h3.drewN _, below_drewN hB _⟩
          case measure => simp [intOf]; omega
    · have : k = 32 := by omega
      subst this
      have hxy : x = y := by
        rw [List.take_of_length_le (by rw [Hx.out]; exact Nat.le_refl _), List.take_of_length_le (by rw [Hy.out]; exact Nat.le_refl _)] at htk
        exact htk
      have Hr := Lib.hid (show cmpL x y = 0 by rw [hxy, cmpL_self])
      clear hxy htk
      go_wp2_with fail
      go_ret
      exact ⟨congrArg (fun n => Ending.returned (.int .i64 n)) Hr.out.symm, hB⟩

theorem add_zero_off (g j : Nat) : (Addr.add ⟨g, 0, none⟩ j) = ⟨g, j, none⟩ := by unfold Addr.add; split <;> simp_all
/-- The bytes as Go's string or slice of them. -/
theorem strB_size (x : List (BitVec 8)) : (strB x).size = x.length := by simp [strB, ByteArray.size]
theorem strB_get (x : List (BitVec 8)) (i : Nat) (h : i < x.length) : (strB x)[i]! = UInt8.ofBitVec (at8 x i) := by
  rw [getElem!_pos (strB x) i (by rw [strB_size]; exact h)]
  show (strB x).data[i]'_ = _
  simp [strB, at8, List.getD_eq_getElem?_getD, List.getElem?_eq_getElem h]
theorem B_lt_iff (p q : BitVec 8) : UInt8.ofBitVec p < UInt8.ofBitVec q ↔ B p < B q := by
  rw [UInt8.lt_iff_toNat_lt]; unfold B; show p.toNat < q.toNat ↔ _; omega
theorem cmp_strB (x y : List (BitVec 8)) (h : x.length = y.length) : Extern.BytealgCompare.cmp (strB x) (strB y) = cmpL x y := by
  unfold Extern.BytealgCompare.cmp
  rw [strB_size, strB_size, ← h, Nat.min_self]
  have hne : ∀ i, i < x.length → (((strB x)[i]! != (strB y)[i]!) = true ↔ at8 x i ≠ at8 y i) := fun i hi => by
    rw [strB_get x i hi, strB_get y i (by omega), bne_iff_ne, ne_eq, UInt8.ofBitVec.injEq]
  cases hf : (List.range x.length).find? fun i => (strB x)[i]! != (strB y)[i]! with
  | none =>
    have hxy : x = y := by
      refine List.ext_getElem h (fun i h1 h2 => ?_)
      have := List.find?_eq_none.1 hf i (List.mem_range.2 h1)
      rw [hne i h1] at this
      simpa [at8, List.getD_eq_getElem?_getD, List.getElem?_eq_getElem h1, List.getElem?_eq_getElem h2] using this
    subst hxy
    simp [cmpL_self]
  | some i =>
    obtain ⟨h1, h2, h3⟩ := List.find?_range_eq_some.1 hf
    have hi := List.mem_range.1 h2
    rw [hne i hi] at h1
    have ht : ∀ k, k ≤ i → x.take k = y.take k := fun k => by
      induction k with
      | zero => intro _; rfl
      | succ k ih =>
        intro hk
        have hq := h3 k (by omega)
        refine take_next x y k (by omega) (by omega) (ih (by omega)) ?_
        have := hne k (by omega)
        refine Classical.byContradiction fun hc => ?_
        simp [this.2 hc] at hq
    rw [split_at x y i hi (by omega) (ht i (Nat.le_refl _))]
    simp only [cmpL]
    rw [strB_get x i hi, strB_get y i (by omega)]
    have hB : B (at8 x i) ≠ B (at8 y i) := fun hc => h1 (B_inj hc)
    by_cases hl : B (at8 x i) < B (at8 y i)
    · rw [if_pos hl, if_pos ((B_lt_iff _ _).2 hl)]
    · rw [if_neg hl, if_neg (fun hc => hl ((B_lt_iff _ _).1 hc)), if_pos (by omega)]

theorem load_bytes (w : World) : ∀ (l : List (BitVec 8)) (a : Addr) (acc : ByteArray), (∀ j u, (l.map u8v)[j]? = some u → w.cell? (a.add j) = some u) →
    (Extern.Bytes.loadBytes a l.length acc).run Tryd.prog w = .ok ⟨acc.data ++ (l.map UInt8.ofBitVec).toArray⟩ w
  | [], a, acc, _ => by simp [Extern.Bytes.loadBytes]
  | x :: l, a, acc, h => by
    have h0 : w.cell? a = some (.int .u8 (B x)) := by
      have := h 0 (u8v x) rfl
      simpa [Addr.add, u8v] using this
    have ih := load_bytes w l (a.add 1) (acc.push (B x).toNat.toUInt8) (fun j y hy => by
      have := h (j + 1) y (by simpa using hy)
      rw [add_add, Nat.add_comm]; exact this)
    have e : (B x).toNat.toUInt8 = UInt8.ofBitVec x := by
      unfold B; rw [Int.toNat_natCast]
      exact UInt8.toNat_inj.1 (by simp)
    simp only [List.length_cons, Extern.Bytes.loadBytes, Sem.run_bind, run_load, h0, Result.andThen]
    rw [ih, e]
    simp [ByteArray.push]

theorem run_cmp (x y : List (BitVec 8)) (h : x.length = y.length) (a b : Addr) (c d : Nat) (w : World)
    (ha : ∀ j u, (x.map u8v)[j]? = some u → w.cell? (a.add j) = some u) (hb : ∀ j u, (y.map u8v)[j]? = some u → w.cell? (b.add j) = some u) :
    (callFunc 29 #[.slice (some a) x.length c, .slice (some b) y.length d]).run Tryd.prog w = .ok (.value (.int .i64 (cmpL x y))) w := by
  rw [run_callFunc_extern Tryd.func29 (by kernel_rfl) (by kernel_rfl) (by kernel_rfl) (e := Extern.BytealgCompare.compare) (by kernel_rfl)]
  have e : (Extern.BytealgCompare.compare #[.slice (some a) x.length c, .slice (some b) y.length d]).run Tryd.prog w = .ok (.int .i64 (cmpL x y)) w := by
    show (do pure (goInt (Extern.BytealgCompare.cmp (← Extern.Bytes.loadBytes a x.length .empty) (← Extern.Bytes.loadBytes b y.length .empty))) : Sem Value).run Tryd.prog w = _
    rw [Sem.run_bind, load_bytes w x a _ ha]
    simp only [Result.andThen]
    rw [Sem.run_bind, load_bytes w y b _ hb]
    simp only [Result.andThen, Sem.run_pure]
    have := cmp_strB x y h
    unfold strB at this
    simpa [goInt] using this
  rw [e]; rfl

theorem bcmp_any (x y : List (BitVec 8)) (h : x.length = y.length) (a b : Addr) (c d : Nat) (w : World)
    (ha : ∀ j u, (x.map u8v)[j]? = some u → w.cell? (a.add j) = some u) (hb : ∀ j u, (y.map u8v)[j]? = some u → w.cell? (b.add j) = some u) :
    Calls Tryd.prog 24 #[.slice (some a) x.length c, .slice (some b) y.length d] w fun e w' => e = .returned (.int .i64 (cmpL x y)) ∧ w = w' := by
  have hr := run_cmp x y h a b c d w ha hb
  clear ha hb h
  go_enter Tryd.func24, Tryd.ntmps24
  go_wp2_with fail
  go_ret
  exact ⟨rfl, rfl⟩

set_option maxHeartbeats 1000000 in
theorem cmp_any (x y : List (BitVec 8)) (hx : x.length = 32) (hy : y.length = 32) (w : World) :
    Calls Tryd.prog 11 #[.agg (x.map u8v).toArray, .agg (y.map u8v).toArray] w fun e w' => e = .returned (.int .i64 (cmpL x y)) ∧ Below w.heap.size w w' := by
  obtain ⟨cx, hcx⟩ : ∃ cx, cx = x.map u8v := ⟨_, rfl⟩
  obtain ⟨cy, hcy⟩ : ∃ cy, cy = y.map u8v := ⟨_, rfl⟩
  rw [← hcx, ← hcy]
  have Hcx := Lib.hid hcx
  have Hcy := Lib.hid hcy
  have Hx := Lib.hid hx
  have Hy := Lib.hid hy
  clear hcx hcy hx hy
  go_enter Tryd.func11, Tryd.ntmps11
  go_upto_region 1 with fail
  generalize hw0 : (w.alloc _).alloc _ = w0
  have h2 : Has w0 w.heap.size 25 (x.map u8v) := by
    subst hw0; rw [← Hcx.out]; exact (Has.made' _ _ _ _ rfl).alloc _
  have h3 : Has w0 (w.heap.size + 1) 25 (y.map u8v) := by
    subst hw0; rw [← Hcy.out]; exact Has.made1 _ _ _ _ _ rfl
  have hB : Below w.heap.size w w0 := by
    subst hw0; exact ((Below.refl _ _).alloc (Nat.le_refl _) _).alloc (by simp) _
  clear hw0
  refine wp_region_ord [(0, true), (1, true), (2, false), (3, true)] (by kernel_rfl) (by kernel_rfl) (by kernel_rfl) ?_
  simp only [pickOps, List.getElem?_cons_zero, List.getElem?_cons_succ]
  (repeat (refine ord_pure (v := ?_) (by rfl) ?_ ?_; rotate_left; (· intro w'; go_simp; try with_reducible rfl); try simp only [Act.put, List.setIfInBounds_toArray, List.set_cons_zero, List.set_cons_succ]))
  refine ord_step (by rfl) (fun K hK => ?_)
  go_wp2_with fail
  have hc := bcmp_any x y (by rw [Hx.out, Hy.out]) ⟨w.heap.size, 0, none⟩ ⟨w.heap.size + 1, 0, none⟩ 32 32 w0.drew
    (fun j u hu => by rw [add_zero_off]; exact h2.cellv hu) (fun j u hu => by rw [add_zero_off]; exact h3.cellv hu)
  rw [Hx.out, Hy.out] at hc
  refine hc.mono ?_
  rintro e w3 ⟨rfl, rfl⟩
  clear hc
  go_wp2_with fail
  (repeat (refine ord_pure (v := ?_) (by rfl) ?_ ?_; rotate_left; (· intro w'; go_simp; try with_reducible rfl); try simp only [Act.put, List.setIfInBounds_toArray, List.set_cons_zero, List.set_cons_succ]))
  refine ord_nil ?_
  go_wp2_with fail
  go_ret
  exact ⟨rfl, hB.drew⟩
end Go.Proofs.YtgaphplndpdhaaaDoor
