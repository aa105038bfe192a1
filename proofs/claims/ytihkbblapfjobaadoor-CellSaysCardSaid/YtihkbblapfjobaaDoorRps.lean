/- Contracts: the document's own PutSum, Xor. Condition: at most 10^6 bytes ahead, in a row of the call's own. -/
import Derived.Test.YtihkbblapfjobaaDoorWi
import Derived.Test.YtihkbblapfjobaaDoorByts
import Derived.Test.YtihkbblapfjobaaDoorRof
namespace Go.Proofs.YtihkbblapfjobaaDoor
open Go.RowKit
/-- The bytes so far, in a row of the call's own. -/
def OwB (w : World) (b : Nat) (v : Value) (X : List (BitVec 8)) : Prop := w.ownsRow b 5 1 v X.length (X.map u8v)
theorem OwB.next {w : World} {b : Nat} {v : Value} {X : List (BitVec 8)} {y : BitVec 8} (h : w.ownsRow b 5 1 v (X.length + [y].length) (X.map u8v ++ [y].map u8v)) : OwB w b v (X ++ [y]) := by
  unfold OwB; rw [List.length_append, List.map_append]; exact h
/-- A box of another type stays where a row of bytes grows. -/
theorem Has.grown {w w' : World} {g base n : Nat} {t : TypeId} {l xs : List Value} {v : Value} (h : Has w g t l) (ht : t ≠ 5) (ho : w.ownsRow base 5 1 v n xs) (hg : w.grownBy w' v.ownBlock) : Has w' g t l := by
  have hne : some g ≠ v.ownBlock := by
    rcases ho.2 with ⟨rfl, _⟩ | ⟨k, cap, cur, rfl, _, hk, _⟩
    · simp [Value.ownBlock]
    · intro e
      simp only [Value.ownBlock, Option.some.injEq] at e
      subst e
      have h1 := Option.some.inj (h.symm.trans hk)
      injection h1 with _ h2 _
      exact ht h2
  exact (hg.5 g h.lt (fun e => hne e)).trans h
theorem wpList_append_seesG {ops : Array Oper} {rest : List Oper} {o : Oper} {a : Act} {w : World} {Q : Exit → Act → World → Prop} (hgd : o.guard = none) (s x : Operand)
    (ho : o.op = .call { callee := .builtin .append, args := #[s, x], argTypes := #[26, 26] })
    (base : Nat) (v : Value) (n : Nat) (xs : List Value) (hs : a.eval s = v) (hown : w.ownsRow base 5 1 v n xs)
    (ad : Addr) (l : List (BitVec 8)) (cap : Nat) (hx : a.eval x = .slice (some ad) l.length cap) (hl : ∀ j u, (l.map u8v)[j]? = some u → w.cell? (ad.add j) = some u)
    (hbytes : n + l.length ≤ 140737488355328) (hbase : base ≤ w.heap.size)
    (h : ∀ v' w', w'.ownsRow base 5 1 v' (n + l.length) (xs ++ l.map u8v) → w.grownBy w' v.ownBlock → wpList Tryd.prog ops Q rest (a.put o.dst v') w') : wpList Tryd.prog ops Q (o :: rest) a w := by
  obtain ⟨i0, hi, hz0, hz1, hz2⟩ := info_parts u8_info
  refine wpList_append_own w hgd s x 26 ho base 5 i0 (.int .u8 0) 1 1 Tryd.underlying26 hi hz0 hz1 hz2 rfl (by decide) v n xs hs hown ad l.length cap (l.map u8v) hx (by simp) hl (fun u hu => ?_) (by unfold maxLen; omega) (by omega) hbase (fun v' w' h1 h2 _ => h v' w' h1 h2)
  obtain ⟨y, _, rfl⟩ := List.mem_map.1 hu
  rfl
theorem u8v_lit (w : World) (y : BitVec 8) : ∀ j u, ([y].map u8v)[j]? = some u → (w.alloc (.cells #[.int .u8 (B y)] 5)).cell? ((⟨w.heap.size, 0, none⟩ : Addr).add j) = some u := fun j u hu => by
  have h : Has (w.alloc (.cells #[.int .u8 (B y)] 5)) w.heap.size 5 ([y].map u8v) := Has.made' _ _ _ _ rfl
  rw [add_lit', Nat.zero_add]
  exact h.cellv hu
set_option maxHeartbeats 8000000 in
set_option maxRecDepth 100000 in
theorem putSum_any (x : Su) (p : List (BitVec 8)) (v : Value) (base : Nat) (w w0 : World) (hB : Below base w w0) (hb : base ≤ w0.heap.size) (ho : OwB w0 base v p) (hl : p.length ≤ 1000000) :
    Calls Tryd.prog 48 #[v, .agg (encU x).toArray] w0 fun e w' => (∃ v', e = .returned v' ∧ OwB w' base v' (p ++ x.1)) ∧ Below base w w' := by
  have HO : Hid (OwB (w0.alloc (.cells (encU x).toArray 35)) base v p) := Lib.hid (ho.alloc _)
  have HX : Hid (Has (w0.alloc (.cells (encU x).toArray 35)) w0.heap.size 35 (encU x)) := Lib.hid (Has.made' w0 _ _ _ rfl)
  have HB : Hid (Below base w (w0.alloc (.cells (encU x).toArray 35))) := Lib.hid (hB.alloc hb _)
  have HZ : Hid (base ≤ (w0.alloc (.cells (encU x).toArray 35)).heap.size) := Lib.hid (by simp; omega)
  have HPL := Lib.hid hl
  clear ho hl hB hb
  go_enter Tryd.func48, Tryd.ntmps48
  go_upto_region 1 with fail
  generalize w0.alloc (.cells (encU x).toArray 35) = w1 at *
  generalize w0.heap.size = g at *
  go_wp2_with fail
  go_loopw [0, 5] (fun vb vk wr => ∃ k : Nat, k ≤ 32 ∧ vk = .int .i64 k ∧ OwB wr base vb (p ++ x.1.take k) ∧ Has wr g 35 (encU x) ∧ base ≤ wr.heap.size ∧ Below base w wr) (fun _ vk _ => 32 - (intOf vk).toNat)
  case atStart => exact ⟨0, by omega, rfl, by rw [List.take_zero, List.append_nil]; exact HO.out, HX.out, HZ.out, HB.out⟩
  case round =>
    clear HO HX HZ HB
    rename_i wr
    obtain ⟨k, hk, rfl, ho, hx, hz, hB⟩ := hrel
    have HO := Lib.hid ho
    have HX := Lib.hid hx
    have HB := Lib.hid hB
    have HZ := Lib.hid hz
    by_cases hk2 : k < 32
    · have hkx : k < x.1.length := by rw [x.2]; exact hk2
      have HTK2 : Hid (x.1.take (k + 1) = x.1.take k ++ [x.1[k]]) := Lib.hid (List.take_succ_eq_append_getElem hkx)
      have cx := hx.cellv (i := k) (v := u8v x.1[k]) (by unfold encU; rw [List.getElem?_map, List.getElem?_eq_getElem hkx]; rfl)
      have HLX : Hid ((p ++ x.1.take k).length ≤ 1000032) := Lib.hid (by rw [List.length_append, List.length_take]; have := HPL.out; omega)
      generalize x.1[k] = y at *
      have k2 : (k : Int) < 32 := by omega
      unfold u8v at cx
      have HOA : Hid (OwB (wr.alloc (.cells #[.int .u8 (B y)] 5)) base _ (p ++ x.1.take k)) := Lib.hid (ho.alloc _)
      have HXA := Lib.hid (hx.alloc (.cells #[.int .u8 (B y)] 5))
      have HBA := Lib.hid (hB.alloc hz (.cells #[.int .u8 (B y)] 5))
      have HLY := Lib.hid (u8v_lit wr y)
      have HZA : Hid (base ≤ (wr.alloc (.cells #[.int .u8 (B y)] 5)).heap.size) := Lib.hid (by simp; omega)
      generalize hZE : p ++ x.1.take k = Z at *
      have HZE := Lib.hid hZE
      clear hZE
      clear ho hx hB hz HO
      go_wp2_with (at_builtin; refine wpList_append_seesG rfl _ _ rfl base _ _ _ rfl HOA.out ⟨wr.heap.size, 0, none⟩ [y] 1 rfl HLY.out (by have := HLX.out; simp; omega) HZA.out ?_; intro v3 w3 g1 g2; have HN := Lib.hid (OwB.next g1); have HX3 := Lib.hid (HXA.out.grown (by decide) HOA.out g2); have HB3 := Lib.hid (HBA.out.grown g2 HZA.out (fun k hk => own_base HOA.out k hk)); have HZ3 := Lib.hid (Nat.le_trans HZA.out g2.4); clear g1 g2)
      go_roundw
      case rel => exact ⟨k + 1, by omega, by go_num, by rw [HTK2.out, ← List.append_assoc, HZE.out]; exact HN.out, HX3.out, HZ3.out, HB3.out⟩
      case measure => simp [intOf]; omega
    · have hk32 : k = 32 := by omega
      subst hk32
      have hfull : x.1.take 32 = x.1 := List.take_of_length_le (by rw [x.2]; exact Nat.le_refl _)
      rw [hfull] at HO
      clear ho hx hB hz hfull hk2
      go_wp2_with fail
      go_ret
      exact ⟨⟨_, rfl, HO.out⟩, HB.out⟩
theorem rsum_info : (Tryd.prog.info? 35).map (·.size) = some 32 := by kernel_rfl
section
attribute [local go_sem] B_xor
set_option maxHeartbeats 1000000 in
set_option maxRecDepth 100000 in
theorem rxor_any (x y : List (BitVec 8)) (hx : x.length = 32) (hy : y.length = 32) (w : World) :
    Calls Tryd.prog 49 #[.agg (x.map u8v).toArray, .agg (y.map u8v).toArray] w fun e w' => e = .returned (.agg ((xorL x y).map u8v).toArray) ∧ Below w.heap.size w w' := by
  obtain ⟨cx, hcx⟩ : ∃ cx, cx = x.map u8v := ⟨_, rfl⟩
  obtain ⟨cy, hcy⟩ : ∃ cy, cy = y.map u8v := ⟨_, rfl⟩
  rw [← hcx, ← hcy]
  have Hcx := Lib.hid hcx
  have Hcy := Lib.hid hcy
  have Hx := Lib.hid hx
  have Hy := Lib.hid hy
  clear hcx hcy hx hy
  go_enter Tryd.func49, Tryd.ntmps49
  go_wp2_with fail
  generalize hw0 : ((w.alloc _).alloc _).alloc _ = w0
  have h2 : Has w0 w.heap.size 35 ((xorTo x y 0).map u8v) := by
    subst hw0; rw [xorTo_zero, ← Hcx.out]; exact ((Has.made' _ _ _ _ rfl).alloc _).alloc _
  have h3 : Has w0 (w.heap.size + 1) 35 (y.map u8v) := by
    subst hw0; rw [← Hcy.out]; exact (Has.made1 _ _ _ _ _ rfl).alloc _
  have h4 : Has w0 (w.heap.size + 2) 35 (brow 32 []) := by
    subst hw0; rw [brow_nil]
    have := Has.made' ((w.alloc (.cells cx.toArray 35)).alloc (.cells cy.toArray 35)) 35 _ (List.replicate 32 (.int .u8 0)) rfl
    simpa using this
  have hB : Below w.heap.size w w0 := by
    subst hw0; exact (((Below.refl _ _).alloc (Nat.le_refl _) _).alloc (by simp) _).alloc (by simp; omega) _
  clear hw0
  go_loopw [5] (fun i wr => ∃ k : Nat, k ≤ 32 ∧ i = .int .i64 k ∧ Has wr w.heap.size 35 ((xorTo x y k).map u8v) ∧ Has wr (w.heap.size + 1) 35 (y.map u8v) ∧ Has wr (w.heap.size + 2) 35 (brow 32 []) ∧ Below w.heap.size w wr)
    (fun i _ => 32 - (intOf i).toNat)
  case atStart => exact ⟨0, by omega, rfl, h2, h3, h4, hB⟩
  case round =>
    clear h2 h3 h4 hB
    rename_i wr
    obtain ⟨k, hk, rfl, h2, h3, h4, hB⟩ := hrel
    by_cases hlt : k < 32
    · have hxy : x.length = y.length := Hx.out.trans Hy.out.symm
      have cs := h2.cellv (at8_of _ k (by rw [xorTo_length _ _ _ hxy, Hx.out]; exact hlt))
      rw [xorTo_at _ _ _ hxy (by rw [Hx.out]; exact hlt)] at cs
      have co := h3.cellv (at8_of _ k (by rw [Hy.out]; exact hlt))
      have fs := h2.free k
      have hput := xorTo_put x y k hxy (by rw [Hx.out]; exact hlt)
      have Hput := Lib.hid hput
      have k1 : (k : Int) < 32 := by omega
      clear hxy hput
      go_wp2_with fail
      go_still_tail 9, (by kernel_rfl)
      go_wp2_with fail
      go_roundw
      case rel =>
        refine ⟨k + 1, by omega, by go_num, ?_, (h3.off (by simp) _).drew, (h4.off (by simp) _).drew, (hB.setCell (by simp) _).drew⟩
        have := (h2.put k (u8v (at8 x k ^^^ at8 y k))).drew
        rw [← List.map_set, Hput.out] at this
        exact this
      case measure => simp [intOf]; omega
    · have : k = 32 := by omega
      subst this
      rw [xorTo_full x y Hx.out Hy.out] at h2
      have hlen : ((xorL x y).map u8v).length = 32 := by rw [List.length_map, xorL_length _ _ Hx.out Hy.out]
      have HSZ : Hid ((Tryd.prog.info? 35).map (·.size) = some ((xorL x y).map u8v).toArray.size) := Lib.hid (by rw [rsum_info]; simp [← hlen])
      have HSB : Hid ((brow 32 []).toArray.size = ((xorL x y).map u8v).toArray.size) := Lib.hid (by simp [brow, xorL_length _ _ Hx.out Hy.out])
      clear hlen
      go_wp2_with (first
        | (refine wpList_load_row rfl 35 _ rfl w.heap.size rfl 35 _ (0, 0) _ h2 Tryd.underlying35 rfl HSZ.out ?_)
        | (refine wpList_store_row rfl 35 _ _ rfl (w.heap.size + 2) _ rfl rfl 35 _ h4 HSZ.out HSB.out (u8v_one _) ?_))
      refine bodyPost_ret (v := .agg ((xorL x y).map u8v).toArray) ?_ rfl ⟨rfl, below_row hB (by omega) _⟩
      refine results_cell_row rfl _ _ (w.heap.size + 2) 35 _ (0, 0) _ rfl ?_ Tryd.underlying35 rfl HSZ.out
      exact h4.rowl _
end
end Go.Proofs.YtihkbblapfjobaaDoor
