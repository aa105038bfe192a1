/- Contracts: the document's own PutSum, Xor. Condition: at most 10^6 bytes ahead, in a row of the call's own. -/
import Derived.Test.YtepeloenijlnhaaDoorGp2
import Derived.Test.YtepeloenijlnhaaDoorGp8
import Derived.Test.YtepeloenijlnhaaDoorRof
import Derived.Test.YtepeloenijlnhaaDoorSq
import Derived.Test.YtepeloenijlnhaaDoorWord
import Derived.Test.YtepeloenijlnhaaDoorGp1
namespace Go.Proofs.YtepeloenijlnhaaDoor
open Go.RowKit
/-- The bytes so far, in a row of the call's own. -/
def OwB (w : World) (b : Nat) (v : Value) (X : List (BitVec 8)) : Prop := w.ownsRow b 5 1 v X.length (X.map u8v)
theorem OwB.next {w : World} {b : Nat} {v : Value} {X : List (BitVec 8)} {y : BitVec 8} (h : w.ownsRow b 5 1 v (X.length + [y].length) (X.map u8v ++ [y].map u8v)) : OwB w b v (X ++ [y]) := by
  unfold OwB; rw [List.length_append, List.map_append]; exact h
/-- A box of another type stays where a row of bytes grows. -/
theorem Has.grown {w w' : World} {g base n : Nat} {t : TypeId} {l xs : List Value} {v : Value} (h : Has w g t l) (ht : t ≠ 5) (ho : w.ownsRow base 5 1 v n xs) (hg : w.grownBy w' v.ownBlock) : Has w' g t l := by
  have hne : some g ≠ v.ownBlock := by
    rcases ho.2 with ⟨rfl, _⟩ | ⟨k, cap, cur, rfl, _, hk, _⟩
    · simp [Value.ownBlock]
    · intro e
      simp only [Value.ownBlock, Option.some.injEq] at e
      subst e
      have h1 := Option.some.inj (h.symm.trans hk)
      injection h1 with _ h2 _
      exact ht h2
  exact (hg.5 g h.lt (fun e => hne e)).trans h
theorem wpList_append_seesG {ops : Array Oper} {rest : List Oper} {o : Oper} {a : Act} {w : World} {Q : Exit → Act → World → Prop} (hgd : o.guard = none) (s x : Operand)
    (ho : o.op = .call { callee := .builtin .append, args := #[s, x], argTypes := #[83, 83] })
    (base : Nat) (v : Value) (n : Nat) (xs : List Value) (hs : a.eval s = v) (hown : w.ownsRow base 5 1 v n xs)
    (ad : Addr) (l : List (BitVec 8)) (cap : Nat) (hx : a.eval x = .slice (some ad) l.length cap) (hl : ∀ j u, (l.map u8v)[j]? = some u → w.cell? (ad.add j) = some u)
    (hbytes : n + l.length ≤ 140737488355328) (hbase : base ≤ w.heap.size)
    (h : ∀ v' w', w'.ownsRow base 5 1 v' (n + l.length) (xs ++ l.map u8v) → w.grownBy w' v.ownBlock → wpList Tryd.prog ops Q rest (a.put o.dst v') w') : wpList Tryd.prog ops Q (o :: rest) a w := by
  obtain ⟨i0, hi, hz0, hz1, hz2⟩ := info_parts u8_info
  refine wpList_append_own w hgd s x 83 ho base 5 i0 (.int .u8 0) 1 1 Tryd.underlying83 hi hz0 hz1 hz2 rfl (by decide) v n xs hs hown ad l.length cap (l.map u8v) hx (by simp) hl (fun u hu => ?_) (by unfold maxLen; omega) (by omega) hbase (fun v' w' h1 h2 _ => h v' w' h1 h2)
  obtain ⟨y, _, rfl⟩ := List.mem_map.1 hu
  rfl
theorem u8v_lit (w : World) (y : BitVec 8) : ∀ j u, ([y].map u8v)[j]? = some u → (w.alloc (.cells #[.int .u8 (B y)] 5)).cell? ((⟨w.heap.size, 0, none⟩ : Addr).add j) = some u := fun j u hu => by
  have h : Has (w.alloc (.cells #[.int .u8 (B y)] 5)) w.heap.size 5 ([y].map u8v) := Has.made' _ _ _ _ rfl
  rw [add_lit', Nat.zero_add]
  exact h.cellv hu
set_option maxHeartbeats 8000000 in
set_option maxRecDepth 100000 in
theorem putSum_any (x : Su) (p : List (BitVec 8)) (v : Value) (base : Nat) (w w0 : World) (hB : Below base w w0) (hb : base ≤ w0.heap.size) (ho : OwB w0 base v p) (hl : p.length ≤ 1000000) :
    Calls Tryd.prog 59 #[v, .agg (encU x).toArray] w0 fun e w' => (∃ v', e = .returned v' ∧ OwB w' base v' (p ++ x.1)) ∧ Below base w w' := by
  have HO : Hid (OwB (w0.alloc (.cells (encU x).toArray 52)) base v p) := Lib.hid (ho.alloc _)
  have HX : Hid (Has (w0.alloc (.cells (encU x).toArray 52)) w0.heap.size 52 (encU x)) := Lib.hid (Has.made' w0 _ _ _ rfl)
  have HB : Hid (Below base w (w0.alloc (.cells (encU x).toArray 52))) := Lib.hid (hB.alloc hb _)
  have HZ : Hid (base ≤ (w0.alloc (.cells (encU x).toArray 52)).heap.size) := Lib.hid (by simp; omega)
  have HPL := Lib.hid hl
  clear ho hl hB hb
  go_enter Tryd.func59, Tryd.ntmps59
  go_upto_region 1 with fail
  generalize w0.alloc (.cells (encU x).toArray 52) = w1 at *
  generalize w0.heap.size = g at *
  go_wp2_with fail
  go_loopw [0, 5] (fun vb vk wr => ∃ k : Nat, k ≤ 32 ∧ vk = .int .i64 k ∧ OwB wr base vb (p ++ x.1.take k) ∧ Has wr g 52 (encU x) ∧ base ≤ wr.heap.size ∧ Below base w wr) (fun _ vk _ => 32 - (intOf vk).toNat)
  case atStart => exact ⟨0, by omega, rfl, by rw [List.take_zero, List.append_nil]; exact HO.out, HX.out, HZ.out, HB.out⟩
  case round =>
    clear HO HX HZ HB
    rename_i wr
    obtain ⟨k, hk, rfl, ho, hx, hz, hB⟩ := hrel
    have HO := Lib.hid ho
    have HX := Lib.hid hx
    have HB := Lib.hid hB
    have HZ := Lib.hid hz
    by_cases hk2 : k < 32
    · have hkx : k < x.1.length := by rw [x.2]; exact hk2
      have HTK2 : Hid (x.1.take (k + 1) = x.1.take k ++ [x.1[k]]) := Lib.hid (List.take_succ_eq_append_getElem hkx)
      have cx := hx.cellv (i := k) (v := u8v x.1[k]) (by unfold encU; rw [List.getElem?_map, List.getElem?_eq_getElem hkx]; rfl)
      have HLX : Hid ((p ++ x.1.take k).length ≤ 1000032) := Lib.hid (by rw [List.length_append, List.length_take]; have := HPL.out; omega)
      generalize x.1[k] = y at *
      have k2 : (k : Int) < 32 := by omega
      unfold u8v at cx
      have HOA : Hid (OwB (wr.alloc (.cells #[.int .u8 (B y)] 5)) base _ (p ++ x.1.take k)) := Lib.hid (ho.alloc _)
      have HXA := Lib.hid (hx.alloc (.cells #[.int .u8 (B y)] 5))
      have HBA := Lib.hid (hB.alloc hz (.cells #[.int .u8 (B y)] 5))
      have HLY := Lib.hid (u8v_lit wr y)
      have HZA : Hid (base ≤ (wr.alloc (.cells #[.int .u8 (B y)] 5)).heap.size) := Lib.hid (by simp; omega)
      generalize hZE : p ++ x.1.take k = Z at *
      have HZE := Lib.hid hZE
      clear hZE
      clear ho hx hB hz HO
      go_wp2_with (at_builtin; refine wpList_append_seesG rfl _ _ rfl base _ _ _ rfl HOA.out ⟨wr.heap.size, 0, none⟩ [y] 1 rfl HLY.out (by have := HLX.out; simp; omega) HZA.out ?_; intro v3 w3 g1 g2; have HN := Lib.hid (OwB.next g1); have HX3 := Lib.hid (HXA.out.grown (by decide) HOA.out g2); have HB3 := Lib.hid (HBA.out.grown g2 HZA.out (fun k hk => own_base HOA.out k hk)); have HZ3 := Lib.hid (Nat.le_trans HZA.out g2.4); clear g1 g2)
      go_roundw
      case rel => exact ⟨k + 1, by omega, by go_num, by rw [HTK2.out, ← List.append_assoc, HZE.out]; exact HN.out, HX3.out, HZ3.out, HB3.out⟩
      case measure => simp [intOf]; omega
    · have hk32 : k = 32 := by omega
      subst hk32
      have hfull : x.1.take 32 = x.1 := List.take_of_length_le (by rw [x.2]; exact Nat.le_refl _)
      rw [hfull] at HO
      clear ho hx hB hz hfull hk2
      go_wp2_with fail
      go_ret
      exact ⟨⟨_, rfl, HO.out⟩, HB.out⟩
theorem rsum_info : (Tryd.prog.info? 52).map (·.size) = some 32 := by kernel_rfl
section
attribute [local go_sem] B_xor
set_option maxHeartbeats 1000000 in
set_option maxRecDepth 100000 in
theorem rxor_any (x y : List (BitVec 8)) (hx : x.length = 32) (hy : y.length = 32) (w : World) :
    Calls Tryd.prog 57 #[.agg (x.map u8v).toArray, .agg (y.map u8v).toArray] w fun e w' => e = .returned (.agg ((xorL x y).map u8v).toArray) ∧ Below w.heap.size w w' := by
  obtain ⟨cx, hcx⟩ : ∃ cx, cx = x.map u8v := ⟨_, rfl⟩
  obtain ⟨cy, hcy⟩ : ∃ cy, cy = y.map u8v := ⟨_, rfl⟩
  rw [← hcx, ← hcy]
  have Hcx := Lib.hid hcx
  have Hcy := Lib.hid hcy
  have Hx := Lib.hid hx
  have Hy := Lib.hid hy
  clear hcx hcy hx hy
  go_enter Tryd.func57, Tryd.ntmps57
  go_wp2_with fail
  generalize hw0 : ((w.alloc _).alloc _).alloc _ = w0
  have h2 : Has w0 w.heap.size 52 ((xorTo x y 0).map u8v) := by
    subst hw0; rw [xorTo_zero, ← Hcx.out]; exact ((Has.made' _ _ _ _ rfl).alloc _).alloc _
  have h3 : Has w0 (w.heap.size + 1) 52 (y.map u8v) := by
    subst hw0; rw [← Hcy.out]; exact (Has.made1 _ _ _ _ _ rfl).alloc _
  have h4 : Has w0 (w.heap.size + 2) 52 (brow 32 []) := by
    subst hw0; rw [brow_nil]
    have := Has.made' ((w.alloc (.cells cx.toArray 52)).alloc (.cells cy.toArray 52)) 52 _ (List.replicate 32 (.int .u8 0)) rfl
    simpa using this
  have hB : Below w.heap.size w w0 := by
    subst hw0; exact (((Below.refl _ _).alloc (Nat.le_refl _) _).alloc (by simp) _).alloc (by simp; omega) _
  clear hw0
  go_loopw [5] (fun i wr => ∃ k : Nat, k ≤ 32 ∧ i = .int .i64 k ∧ Has wr w.heap.size 52 ((xorTo x y k).map u8v) ∧ Has wr (w.heap.size + 1) 52 (y.map u8v) ∧ Has wr (w.heap.size + 2) 52 (brow 32 []) ∧ Below w.heap.size w wr)
    (fun i _ => 32 - (intOf i).toNat)
  case atStart => exact ⟨0, by omega, rfl, h2, h3, h4, hB⟩
  case round =>
    clear h2 h3 h4 hB
    rename_i wr
    obtain ⟨k, hk, rfl, h2, h3, h4, hB⟩ := hrel
    by_cases hlt : k < 32
    · have hxy : x.length = y.length := Hx.out.trans Hy.out.symm
      have cs := h2.cellv (at8_of _ k (by rw [xorTo_length _ _ _ hxy, Hx.out]; exact hlt))
      rw [xorTo_at _ _ _ hxy (by rw [Hx.out]; exact hlt)] at cs
      have co := h3.cellv (at8_of _ k (by rw [Hy.out]; exact hlt))
      have fs := h2.free k
      have hput := xorTo_put x y k hxy (by rw [Hx.out]; exact hlt)
      have Hput := Lib.hid hput
      have k1 : (k : Int) < 32 := by omega
      clear hxy hput
      go_wp2_with fail
      go_still_tail 9, (by kernel_rfl)
      go_wp2_with fail
      go_roundw
      case rel =>
        refine ⟨k + 1, by omega, by go_num, ?_, (h3.off (by simp) _).drew, (h4.off (by simp) _).drew, (hB.setCell (by simp) _).drew⟩
        have := (h2.put k (u8v (at8 x k ^^^ at8 y k))).drew
        rw [← List.map_set, Hput.out] at this
        exact this
      case measure => simp [intOf]; omega
    · have : k = 32 := by omega
      subst this
      rw [xorTo_full x y Hx.out Hy.out] at h2
      have hlen : ((xorL x y).map u8v).length = 32 := by rw [List.length_map, xorL_length _ _ Hx.out Hy.out]
      have HSZ : Hid ((Tryd.prog.info? 52).map (·.size) = some ((xorL x y).map u8v).toArray.size) := Lib.hid (by rw [rsum_info]; simp [← hlen])
      have HSB : Hid ((brow 32 []).toArray.size = ((xorL x y).map u8v).toArray.size) := Lib.hid (by simp [brow, xorL_length _ _ Hx.out Hy.out])
      clear hlen
      go_wp2_with (first
        | (refine wpList_load_row rfl 52 _ rfl w.heap.size rfl 52 _ (0, 0) _ h2 Tryd.underlying52 rfl HSZ.out ?_)
        | (refine wpList_store_row rfl 52 _ _ rfl (w.heap.size + 2) _ rfl rfl 52 _ h4 HSZ.out HSB.out (u8v_one _) ?_))
      refine bodyPost_ret (v := .agg ((xorL x y).map u8v).toArray) ?_ rfl ⟨rfl, below_row hB (by omega) _⟩
      refine results_cell_row rfl _ _ (w.heap.size + 2) 52 _ (0, 0) _ rfl ?_ Tryd.underlying52 rfl HSZ.out
      exact h4.rowl _
end
end Go.Proofs.YtepeloenijlnhaaDoor
/- Contracts: the document's own Check, PutCell, MinusCell, Pure; the law's cellOf. No condition. -/
namespace Go.Proofs.YtepeloenijlnhaaDoor
open Go.RowKit
theorem lp_call {ops : Array Oper} {rest : List Oper} {o : Oper} {a : Act} {w : World} {Q : Exit → Act → World → Prop} (hw : Region.wanted o (yielded ops a.tmps) = true) (g : FuncId) (xs : Array Operand) (ts : Array TypeId) (hop : o.op = .call { callee := .value (.func g), args := xs, argTypes := ts })
  (us : Array Value) (hx : xs.map a.eval = us) (hcf : ∀ w, (callFunc g us).run Tryd.prog w = .ok (.enter g us) w) {R : Ending → World → Prop} (hc : Calls Tryd.prog g us w R) (h : ∀ e w', R e w' → ∃ v, e = .returned v ∧ wpList Tryd.prog ops Q rest (a.put o.dst v) w') : wpList Tryd.prog ops Q (o :: rest) a w :=
 lp_step hw fun K hK => by
  unfold Oper.wp
  have he : (execOp a.eval o).run Tryd.prog w = .ok (.enter g us) w := by
   unfold execOp
   have hf : a.eval (.func g) = .func (.func g) #[] #[] := rfl
   simp [hop, resolve, invoke, hx, hf, Deferred.ofValue, hcf]
  rw [he, Oper.upon_enter]
  refine Calls.mono hc ?_
  intro e w' hr
  obtain ⟨v, rfl, hk⟩ := h e w' hr
  exact hK _ _ hk
theorem OwB.made (w : World) (x : List (BitVec 8)) (n : Nat) (hn : x.length = n) (hm : n ≤ 1000) : OwB (w.alloc (.cells (x.map u8v).toArray 5)) w.heap.size (.slice (some ⟨w.heap.size, 0, none⟩) n n) x := by
 subst hn
 exact ⟨by simp, .inr ⟨w.heap.size, x.length, (x.map u8v).toArray, rfl, Nat.le_refl _, heap_alloc_new _ _, Nat.le_refl _, by unfold maxLen; omega, by simp, by rw [Nat.mul_one]; exact List.take_of_length_le (by simp)⟩⟩
theorem rof_ow {w : World} {b : Nat} {v : Value} {x : List (BitVec 8)} (h : OwB w b v x) (hx : x.length ≤ 1000000) : Calls Tryd.prog 58 #[v] w fun e w' => e = .returned (.agg (encU (shaU x)).toArray) ∧ Below w.heap.size w w' := by
 obtain ⟨q, c, rfl, _, hq, hs⟩ := Bs.own h
 exact rof_any x q c w hs hq (by omega)
theorem xorR_any (x y : Su) (w : World) : Calls Tryd.prog 57 #[.agg (encU x).toArray, .agg (encU y).toArray] w fun e w' => (∃ v, e = .returned v ∧ v = .agg (encU (xorS x y)).toArray) ∧ Below w.heap.size w w' :=
 Calls.mono (rxor_any x.1 y.1 x.2 y.2 w) fun _ _ h => ⟨⟨_, h.1, rfl⟩, h.2⟩
set_option maxHeartbeats 4000000 in
set_option maxRecDepth 100000 in
theorem rchk_b (x : Su) (w w0 : World) (hB : Below w.heap.size w w0) : Calls Tryd.prog 61 #[.agg (encU x).toArray] w0 fun e w' => (∃ v, e = .returned v ∧ v = .agg (encU (chkS x)).toArray) ∧ Below w.heap.size w w' := by
 go_enter Tryd.func61, Tryd.ntmps61
 have HB := Lib.hid hB
 clear hB
 go_upto_region 0 with fail
 refine wp_region_lit ?_
 try simp only [Act.put, List.setIfInBounds_toArray, List.set_cons_zero, List.set_cons_succ]
 refine lp_step rfl (fun K hK => wp_box_row 52 (.tmp 0) rfl (.agg (encU x).toArray) rfl (hK _ _ ?_))
 try simp only [Act.put, List.setIfInBounds_toArray, List.set_cons_zero, List.set_cons_succ]
 show wpList _ _ _ _ _ (w0.alloc (.cells (encU x).toArray 52))
 have HST : Hid (Below w0.heap.size w0 (w0.alloc (.cells (encU x).toArray 52))) := Lib.hid ((Below.refl _ _).alloc (Nat.le_refl _) _)
 have HX1 : Hid (Has (w0.alloc (.cells (encU x).toArray 52)) w0.heap.size 52 (encU x)) := Lib.hid (Has.made' _ _ _ _ rfl)
 have HGg1 : Hid (w.heap.size ≤ w0.heap.size) := Lib.hid HB.out.size
 replace HB := Lib.hid (HB.out.trans (HST.out.mono HB.out.size))
 clear HST
 generalize w0.alloc (.cells (encU x).toArray 52) = w1 at *
 generalize w0.heap.size = g1 at *
 refine lp_step rfl (fun K hK => wp_alloc_row 52 rfl (.agg (encU zS).toArray) (fun w => by kernel_rfl) (hK _ _ ?_))
 try simp only [Act.put, List.setIfInBounds_toArray, List.set_cons_zero, List.set_cons_succ]
 show wpList _ _ _ _ _ (w1.alloc (.cells (encU zS).toArray 52))
 have HST : Hid (Below w1.heap.size w1 (w1.alloc (.cells (encU zS).toArray 52))) := Lib.hid ((Below.refl _ _).alloc (Nat.le_refl _) _)
 have HX2 : Hid (Has (w1.alloc (.cells (encU zS).toArray 52)) w1.heap.size 52 (encU zS)) := Lib.hid (Has.made' _ _ _ _ rfl)
 replace HX1 := Lib.hid (HX1.out.keepB HST.out)
 have HGg2 : Hid (w.heap.size ≤ w1.heap.size) := Lib.hid HB.out.size
 replace HB := Lib.hid (HB.out.trans (HST.out.mono HB.out.size))
 clear HST
 generalize w1.alloc (.cells (encU zS).toArray 52) = w2 at *
 generalize w1.heap.size = g2 at *
 refine wpList_nil ?_
 go_upto_region 1 with fail
 refine wp_region_lit ?_
 try simp only [Act.put, List.setIfInBounds_toArray, List.set_cons_zero, List.set_cons_succ]
 refine lp_step rfl (fun K hK => wp_lit8 1 _ rfl ((t67.map u8v).toArray) (by decide) (by decide) (by kernel_rfl) (hK _ _ ?_))
 try simp only [Act.put, List.setIfInBounds_toArray, List.set_cons_zero, List.set_cons_succ]
 have HO := Lib.hid (OwB.made w2 t67 1 rfl (by decide))
 have HS3 : Hid (Below w2.heap.size w2 (w2.alloc (.cells (t67.map u8v).toArray 5))) := Lib.hid ((Below.refl _ _).alloc (Nat.le_refl _) _)
 have HZ3 : Hid (w2.heap.size ≤ (w2.alloc (.cells (t67.map u8v).toArray 5)).heap.size) := Lib.hid HS3.out.size
 have HX3 := Lib.hid (HX1.out.keepB HS3.out)
 generalize w2.alloc (.cells (t67.map u8v).toArray 5) = w3 at *
 refine lp_pure rfl (ex_loadR 52 (.tmp 1) rfl ⟨g1, 0, none⟩ rfl (fun _ => by kernel_rfl) (encU x) (by rw [encU_len]; kernel_rfl) (HX3.out.part (encU x) 0 (encU_all' x))) ?_
 try simp only [Act.put, List.setIfInBounds_toArray, List.set_cons_zero, List.set_cons_succ]
 refine lp_call rfl 59 #[.tmp 3, .tmp 4] _ rfl #[.slice (some ⟨w2.heap.size, 0, none⟩) 1 1, .agg (encU x).toArray] (by kernel_rfl) (fun w => by kernel_rfl) (putSum_any x t67 _ w2.heap.size w2 w3 HS3.out HZ3.out HO.out (by decide)) ?_
 rintro e w4 ⟨⟨v4, rfl, ho4⟩, hb4⟩
 refine ⟨v4, rfl, ?_⟩
 try simp only [Act.put, List.setIfInBounds_toArray, List.set_cons_zero, List.set_cons_succ]
 refine lp_call rfl 58 #[.tmp 5] _ rfl #[v4] (by kernel_rfl) (fun w => by kernel_rfl) (rof_ow ho4 (by rw [List.length_append, x.2]; decide)) ?_
 rintro e w5 ⟨rfl, hb5⟩
 refine ⟨_, rfl, ?_⟩
 try simp only [Act.put, List.setIfInBounds_toArray, List.set_cons_zero, List.set_cons_succ]
 have hb6 := hb4.trans (hb5.mono hb4.size)
 have HX5 := Lib.hid (HX2.out.keepB hb6)
 replace HB := Lib.hid (HB.out.trans (hb6.mono HB.out.size))
 clear hb4 hb5 hb6 ho4
 refine wpList_store_row rfl 52 (.tmp 2) (.tmp 6) rfl g2 (encU (chkS x)).toArray rfl rfl 52 (encU zS).toArray HX5.out (by rw [List.size_toArray, encU_len]; kernel_rfl) (by simp only [List.size_toArray, encU_len]) (encU_all _) ?_
 simp only [Act.put]
 refine wpList_nil ?_
 have HP : Hid (Has (w5.setRow g2 (encU (chkS x)).toArray) g2 52 (encU (chkS x))) := Lib.hid (HX5.out.rowl _)
 have HF := Lib.hid (below_row HB.out HGg2.out (encU (chkS x)).toArray)
 go_wp2_with fail
 (try simp only [Exit.inBlock, Exit.then])
 refine bodyPost_ret (v := .agg (encU (chkS x)).toArray) ?_ rfl ⟨⟨_, rfl, rfl⟩, HF.out⟩
 exact results_cell_row rfl _ _ g2 52 _ (0, 0) _ rfl HP.out Tryd.underlying52 rfl (by rw [List.size_toArray, encU_len]; kernel_rfl)
theorem rchk_any (x : Su) (w : World) : Calls Tryd.prog 61 #[.agg (encU x).toArray] w fun e w' => (∃ v, e = .returned v ∧ v = .agg (encU (chkS x)).toArray) ∧ Below w.heap.size w w' := rchk_b x w w (Below.refl _ _)
def waitRp1 (i : Nat) : List Nat := ([[], [0], [], [1, 2], [], [4], [], [5, 6], [], [8], [], [10], [9, 11], [3, 7, 12], [0, 1, 2, 3, 4, 5, 6, 7, 8, 9, 10, 11, 12, 13]] : List (List Nat)).getD i []
def slotsRp1 : List (Nat × Nat) := [(7, 0), (8, 1), (9, 2), (10, 3), (11, 4), (12, 5), (13, 6), (14, 7), (15, 8), (16, 9), (17, 10), (18, 11), (19, 12), (20, 13)]
theorem sbRp1 : slotsB slotsRp1 = true := by kernel_rfl
theorem chkRp1 : flwB slotsRp1 waitRp1 14 (regOf Tryd.f44.body 1) = true := by kernel_rfl
set_option maxHeartbeats 4000000 in
set_option maxRecDepth 100000 in
theorem rput_b (c : Ce) (x : Su) (n : Int) (w w0 : World) (hB : Below w.heap.size w w0) : Calls Tryd.prog 44 #[aggC c, .agg (encU x).toArray, .int .i64 n] w0 fun e w' => (∃ v, e = .returned v ∧ v = aggC (withC c n x (chkS x))) ∧ Below w.heap.size w w' := by
 go_enter Tryd.func44, Tryd.ntmps44
 have HB := Lib.hid hB
 clear hB
 go_upto_region 0 with fail
 refine wp_region_lit ?_
 try simp only [Act.put, List.setIfInBounds_toArray, List.set_cons_zero, List.set_cons_succ]
 refine lp_step rfl (fun K hK => wp_box_row 73 (.tmp 0) rfl (aggC c) rfl (hK _ _ ?_))
 try simp only [Act.put, List.setIfInBounds_toArray, List.set_cons_zero, List.set_cons_succ]
 show wpList _ _ _ _ _ (w0.alloc (.cells (encC c).toArray 73))
 have HST : Hid (Below w0.heap.size w0 (w0.alloc (.cells (encC c).toArray 73))) := Lib.hid ((Below.refl _ _).alloc (Nat.le_refl _) _)
 have HX1 : Hid (Has (w0.alloc (.cells (encC c).toArray 73)) w0.heap.size 73 (encC c)) := Lib.hid (Has.made' _ _ _ _ rfl)
 have HGg1 : Hid (w.heap.size ≤ w0.heap.size) := Lib.hid HB.out.size
 replace HB := Lib.hid (HB.out.trans (HST.out.mono HB.out.size))
 clear HST
 generalize w0.alloc (.cells (encC c).toArray 73) = w1 at *
 generalize w0.heap.size = g1 at *
 refine lp_step rfl (fun K hK => wp_box_row 52 (.tmp 1) rfl (.agg (encU x).toArray) rfl (hK _ _ ?_))
 try simp only [Act.put, List.setIfInBounds_toArray, List.set_cons_zero, List.set_cons_succ]
 show wpList _ _ _ _ _ (w1.alloc (.cells (encU x).toArray 52))
 have HST : Hid (Below w1.heap.size w1 (w1.alloc (.cells (encU x).toArray 52))) := Lib.hid ((Below.refl _ _).alloc (Nat.le_refl _) _)
 have HX2 : Hid (Has (w1.alloc (.cells (encU x).toArray 52)) w1.heap.size 52 (encU x)) := Lib.hid (Has.made' _ _ _ _ rfl)
 replace HX1 := Lib.hid (HX1.out.keepB HST.out)
 have HGg2 : Hid (w.heap.size ≤ w1.heap.size) := Lib.hid HB.out.size
 replace HB := Lib.hid (HB.out.trans (HST.out.mono HB.out.size))
 clear HST
 generalize w1.alloc (.cells (encU x).toArray 52) = w2 at *
 generalize w1.heap.size = g2 at *
 refine lp_step rfl (fun K hK => wp_alloc_row 73 rfl (aggC zC) (fun w => by kernel_rfl) (hK _ _ ?_))
 try simp only [Act.put, List.setIfInBounds_toArray, List.set_cons_zero, List.set_cons_succ]
 show wpList _ _ _ _ _ (w2.alloc (.cells (encC zC).toArray 73))
 have HST : Hid (Below w2.heap.size w2 (w2.alloc (.cells (encC zC).toArray 73))) := Lib.hid ((Below.refl _ _).alloc (Nat.le_refl _) _)
 have HX3 : Hid (Has (w2.alloc (.cells (encC zC).toArray 73)) w2.heap.size 73 (encC zC)) := Lib.hid (Has.made' _ _ _ _ rfl)
 replace HX1 := Lib.hid (HX1.out.keepB HST.out)
 replace HX2 := Lib.hid (HX2.out.keepB HST.out)
 have HGg3 : Hid (w.heap.size ≤ w2.heap.size) := Lib.hid HB.out.size
 replace HB := Lib.hid (HB.out.trans (HST.out.mono HB.out.size))
 clear HST
 generalize w2.alloc (.cells (encC zC).toArray 73) = w3 at *
 generalize w2.heap.size = g3 at *
 refine wpList_nil ?_
 go_upto_region 1 with fail
 have HST : Hid (Below w3.heap.size w3 w3.drew) := Lib.hid (Below.refl _ _).drew
 replace HX1 := Lib.hid (HX1.out.keepB HST.out)
 replace HX2 := Lib.hid (HX2.out.keepB HST.out)
 replace HX3 := Lib.hid (HX3.out.keepB HST.out)
 replace HB := Lib.hid (HB.out.trans (HST.out.mono HB.out.size))
 clear HST
 refine wp_act (fun a0 ha0 => ?_)
 have zsz : a0.tmps.size = 21 := by rw [ha0]; rfl
 have z3 : a0.eval (.tmp 3) = .pointer (some ⟨g1, 0, none⟩) := by rw [ha0]; rfl
 have z2 : a0.eval (.tmp 2) = .int .i64 n := by rw [ha0]; rfl
 have z4 : a0.eval (.tmp 4) = .pointer (some ⟨g2, 0, none⟩) := by rw [ha0]; rfl
 refine wrD [] slotsRp1 waitRp1 [Fct.val Flz 0 (.pointer (some ⟨g1, 0, none⟩)), Fct.val Flz 1 (.int .i64 (c.1)), Fct.val Flz 2 (.int .i64 n), Fct.val Flz 3 (.int .i64 (IntKind.i64.wrap ((c.1) + n))), Fct.val Flz 4 (.pointer (some ⟨g1, 1, none⟩)), Fct.val Flz 5 (.agg (encU c.2.1).toArray), Fct.val Flz 6 (.agg (encU x).toArray), Fct.val Flz 7 (.agg (encU (xorS c.2.1 x)).toArray), Fct.val Flz 8 (.pointer (some ⟨g1, 33, none⟩)), Fct.val Flz 9 (.agg (encU c.2.2).toArray), Fct.val Flz 10 (.agg (encU x).toArray), Fct.val Flz 11 (.agg (encU (chkS x)).toArray), Fct.val Flz 12 (.agg (encU (xorS c.2.2 (chkS x))).toArray), Fct.val Flz 13 (aggC ((IntKind.i64.wrap ((c.1) + n), xorS c.2.1 x, xorS c.2.2 (chkS x))))] (fun w' => Below w3.drew.heap.size w3.drew w') _ 14 1 chkRp1 (by kernel_rfl) (by kernel_rfl) (by kernel_rfl) (by kernel_rfl) (by decide) (Below.refl _ _) ?_ ?_
 ·refine lt_s (lt_s (lt_s (lt_s (lt_s (lt_s (lt_s (lt_s (lt_s (lt_s (lt_s (lt_s (lt_s (lt_s (lt_0) ?_) ?_) ?_) ?_) ?_) ?_) ?_) ?_) ?_) ?_) ?_) ?_) ?_) ?_
  ·intro f w1 hS hf aA hA
   have r3 : aA.eval (.tmp 3) = .pointer (some ⟨g1, 0, none⟩) := pO 3 hA (by kernel_rfl) z3
   exact fV rfl rfl (.pointer (some ⟨g1, 0, none⟩)) (fld0R (.tmp 3) rfl g1 r3) hS uS
  ·intro f w1 hS hf aA hA
   have r7 : aA.eval (.tmp 7) = .pointer (some ⟨g1, 0, none⟩) := pA 7 0 hA sbRp1 (by kernel_rfl) zsz rfl (hf 0 (by decide))
   exact fV rfl rfl (.int .i64 (c.1)) (ex_load1 2 (.tmp 7) rfl ⟨g1, 0, none⟩ r7 (fun _ => by kernel_rfl) ((HX1.out.keepB hS).cellv (encC_0 c))) hS uS
  ·intro f w1 hS hf aA hA
   have r2 : aA.eval (.tmp 2) = .int .i64 n := pO 2 hA (by kernel_rfl) z2
   exact fV rfl rfl (.int .i64 n) (ex_move (.tmp 2) rfl r2) hS uS
  ·intro f w1 hS hf aA hA
   have r8 : aA.eval (.tmp 8) = .int .i64 (c.1) := pA 8 1 hA sbRp1 (by kernel_rfl) zsz rfl (hf 1 (by decide))
   have r9 : aA.eval (.tmp 9) = .int .i64 n := pA 9 2 hA sbRp1 (by kernel_rfl) zsz rfl (hf 2 (by decide))
   exact fV rfl rfl (.int .i64 (IntKind.i64.wrap ((c.1) + n))) (ex_int .add _ _ (.tmp 8) (.tmp 9) rfl .i64 c.1 n r8 r9 (.int .i64 (IntKind.i64.wrap ((c.1) + n))) (fun _ => rfl)) hS uS
  ·intro f w1 hS hf aA hA
   have r3 : aA.eval (.tmp 3) = .pointer (some ⟨g1, 0, none⟩) := pO 3 hA (by kernel_rfl) z3
   exact fV rfl rfl (.pointer (some ⟨g1, 1, none⟩)) (fld1R (.tmp 3) rfl g1 r3) hS uS
  ·intro f w1 hS hf aA hA
   have r11 : aA.eval (.tmp 11) = .pointer (some ⟨g1, 1, none⟩) := pA 11 4 hA sbRp1 (by kernel_rfl) zsz rfl (hf 4 (by decide))
   exact fV rfl rfl (.agg (encU c.2.1).toArray) (ex_loadR 52 (.tmp 11) rfl ⟨g1, 1, none⟩ r11 (fun _ => by kernel_rfl) (encU c.2.1) (by rw [encU_len]; kernel_rfl) ((HX1.out.keepB hS).part (encU c.2.1) 1 (encC_key c))) hS uS
  ·intro f w1 hS hf aA hA
   have r4 : aA.eval (.tmp 4) = .pointer (some ⟨g2, 0, none⟩) := pO 4 hA (by kernel_rfl) z4
   exact fV rfl rfl (.agg (encU x).toArray) (ex_loadR 52 (.tmp 4) rfl ⟨g2, 0, none⟩ r4 (fun _ => by kernel_rfl) (encU x) (by rw [encU_len]; kernel_rfl) ((HX2.out.keepB hS).part (encU x) 0 (encU_all' x))) hS uS
  ·intro f w1 hS hf aA hA
   have r12 : aA.eval (.tmp 12) = .agg (encU c.2.1).toArray := pA 12 5 hA sbRp1 (by kernel_rfl) zsz rfl (hf 5 (by decide))
   have r13 : aA.eval (.tmp 13) = .agg (encU x).toArray := pA 13 6 hA sbRp1 (by kernel_rfl) zsz rfl (hf 6 (by decide))
   exact fC rfl rfl 57 #[(.tmp 12), (.tmp 13)] _ rfl #[.agg (encU c.2.1).toArray, .agg (encU x).toArray] (mp2 r12 r13) (fun w => by kernel_rfl) _ (xorR_any c.2.1 x w1) hS (fun _ _ h => uS.trans h)
  ·intro f w1 hS hf aA hA
   have r3 : aA.eval (.tmp 3) = .pointer (some ⟨g1, 0, none⟩) := pO 3 hA (by kernel_rfl) z3
   exact fV rfl rfl (.pointer (some ⟨g1, 33, none⟩)) (fld2R (.tmp 3) rfl g1 r3) hS uS
  ·intro f w1 hS hf aA hA
   have r15 : aA.eval (.tmp 15) = .pointer (some ⟨g1, 33, none⟩) := pA 15 8 hA sbRp1 (by kernel_rfl) zsz rfl (hf 8 (by decide))
   exact fV rfl rfl (.agg (encU c.2.2).toArray) (ex_loadR 52 (.tmp 15) rfl ⟨g1, 33, none⟩ r15 (fun _ => by kernel_rfl) (encU c.2.2) (by rw [encU_len]; kernel_rfl) ((HX1.out.keepB hS).part (encU c.2.2) 33 (encC_chk c))) hS uS
  ·intro f w1 hS hf aA hA
   have r4 : aA.eval (.tmp 4) = .pointer (some ⟨g2, 0, none⟩) := pO 4 hA (by kernel_rfl) z4
   exact fV rfl rfl (.agg (encU x).toArray) (ex_loadR 52 (.tmp 4) rfl ⟨g2, 0, none⟩ r4 (fun _ => by kernel_rfl) (encU x) (by rw [encU_len]; kernel_rfl) ((HX2.out.keepB hS).part (encU x) 0 (encU_all' x))) hS uS
  ·intro f w1 hS hf aA hA
   have r17 : aA.eval (.tmp 17) = .agg (encU x).toArray := pA 17 10 hA sbRp1 (by kernel_rfl) zsz rfl (hf 10 (by decide))
   exact fC rfl rfl 61 #[(.tmp 17)] _ rfl #[.agg (encU x).toArray] (mp1 r17) (fun w => by kernel_rfl) _ (rchk_any x w1) hS (fun _ _ h => uS.trans h)
  ·intro f w1 hS hf aA hA
   have r16 : aA.eval (.tmp 16) = .agg (encU c.2.2).toArray := pA 16 9 hA sbRp1 (by kernel_rfl) zsz rfl (hf 9 (by decide))
   have r18 : aA.eval (.tmp 18) = .agg (encU (chkS x)).toArray := pA 18 11 hA sbRp1 (by kernel_rfl) zsz rfl (hf 11 (by decide))
   exact fC rfl rfl 57 #[(.tmp 16), (.tmp 18)] _ rfl #[.agg (encU c.2.2).toArray, .agg (encU (chkS x)).toArray] (mp2 r16 r18) (fun w => by kernel_rfl) _ (xorR_any c.2.2 (chkS x) w1) hS (fun _ _ h => uS.trans h)
  ·intro f w1 hS hf aA hA
   have r10 : aA.eval (.tmp 10) = .int .i64 (IntKind.i64.wrap ((c.1) + n)) := pA 10 3 hA sbRp1 (by kernel_rfl) zsz rfl (hf 3 (by decide))
   have r14 : aA.eval (.tmp 14) = .agg (encU (xorS c.2.1 x)).toArray := pA 14 7 hA sbRp1 (by kernel_rfl) zsz rfl (hf 7 (by decide))
   have r19 : aA.eval (.tmp 19) = .agg (encU (xorS c.2.2 (chkS x))).toArray := pA 19 12 hA sbRp1 (by kernel_rfl) zsz rfl (hf 12 (by decide))
   exact fV rfl rfl (aggC ((IntKind.i64.wrap ((c.1) + n), xorS c.2.1 x, xorS c.2.2 (chkS x)))) (ex_build 73 _ rfl (encC ((IntKind.i64.wrap ((c.1) + n), xorS c.2.1 x, xorS c.2.2 (chkS x)))).toArray [(0, .int .i64 (IntKind.i64.wrap ((c.1) + n))), (1, .agg (encU (xorS c.2.1 x)).toArray), (2, .agg (encU (xorS c.2.2 (chkS x))).toArray)] (by simp only [List.map_toArray, List.map_cons, List.map_nil, r10, r14, r19]) (builtR3 (IntKind.i64.wrap ((c.1) + n)) (xorS c.2.1 x) (xorS c.2.2 (chkS x)))) hS uS
 intro f w1 hS hf hap
 have h0 : f 0 = .pointer (some ⟨g1, 0, none⟩) := hf 0 (by decide)
 have h1 : f 1 = .int .i64 (c.1) := hf 1 (by decide)
 have h2 : f 2 = .int .i64 n := hf 2 (by decide)
 have h3 : f 3 = .int .i64 (IntKind.i64.wrap ((c.1) + n)) := hf 3 (by decide)
 have h4 : f 4 = .pointer (some ⟨g1, 1, none⟩) := hf 4 (by decide)
 have h5 : f 5 = .agg (encU c.2.1).toArray := hf 5 (by decide)
 have h6 : f 6 = .agg (encU x).toArray := hf 6 (by decide)
 have h7 : f 7 = .agg (encU (xorS c.2.1 x)).toArray := hf 7 (by decide)
 have h8 : f 8 = .pointer (some ⟨g1, 33, none⟩) := hf 8 (by decide)
 have h9 : f 9 = .agg (encU c.2.2).toArray := hf 9 (by decide)
 have h10 : f 10 = .agg (encU x).toArray := hf 10 (by decide)
 have h11 : f 11 = .agg (encU (chkS x)).toArray := hf 11 (by decide)
 have h12 : f 12 = .agg (encU (xorS c.2.2 (chkS x))).toArray := hf 12 (by decide)
 have h13 : f 13 = aggC ((IntKind.i64.wrap ((c.1) + n), xorS c.2.1 x, xorS c.2.2 (chkS x))) := hf 13 (by decide)
 clear hf hap
 clear zsz z3 z2 z4
 subst ha0
 simp only [slotsRp1, putAll, h0, h1, h2, h3, h4, h5, h6, h7, h8, h9, h10, h11, h12, h13, Act.put, List.setIfInBounds_toArray, List.set_cons_zero, List.set_cons_succ]
 clear h0 h1 h2 h3 h4 h5 h6 h7 h8 h9 h10 h11 h12 h13
 refine tl_store rfl (by kernel_rfl) 73 (.tmp 6) (.tmp 20) rfl g3 (encC (withC c n x (chkS x))) _ rfl rfl _ (HX3.out.keepB hS) (by rw [encC_len]; kernel_rfl) (by simp only [encC_len]) (encC_ones _) ?_
 intro w9 hp hbl hot
 refine tl_nilN ?_
 have HP := Lib.hid hp
 have HF := Lib.hid ((HB.out.trans (hS.mono HB.out.size)).trans (hbl _ HGg3.out))
 clear hp hbl hot hS
 go_wp2_with fail
 (try simp only [Exit.inBlock, Exit.then])
 refine bodyPost_ret (v := .agg (encC (withC c n x (chkS x))).toArray) ?_ rfl ⟨⟨_, rfl, rfl⟩, HF.out⟩
 exact results_cell_row rfl _ _ g3 73 _ (0, 0) _ rfl HP.out Tryd.underlying73 rfl (by rw [List.size_toArray, encC_len]; kernel_rfl)
theorem rput_any (c : Ce) (x : Su) (n : Int) (w : World) : Calls Tryd.prog 44 #[aggC c, .agg (encU x).toArray, .int .i64 n] w fun e w' => (∃ v, e = .returned v ∧ v = aggC (withC c n x (chkS x))) ∧ Below w.heap.size w w' := rput_b c x n w w (Below.refl _ _)
/-- As the document reckons it. -/
theorem minusC_eq (a b : Ce) : (IntKind.i64.wrap (a.1 - b.1), xorS a.2.1 b.2.1, xorS a.2.2 b.2.2) = minusC a b := by
 unfold minusC withC
 rw [wrap_sub]
def waitRm1 (i : Nat) : List Nat := ([[], [0], [], [2], [1, 3], [], [5], [], [7], [6, 8], [], [10], [], [12], [11, 13], [4, 9, 14], [0, 1, 2, 3, 4, 5, 6, 7, 8, 9, 10, 11, 12, 13, 14, 15]] : List (List Nat)).getD i []
def slotsRm1 : List (Nat × Nat) := [(5, 0), (6, 1), (7, 2), (8, 3), (9, 4), (10, 5), (11, 6), (12, 7), (13, 8), (14, 9), (15, 10), (16, 11), (17, 12), (18, 13), (19, 14), (20, 15)]
theorem sbRm1 : slotsB slotsRm1 = true := by kernel_rfl
theorem chkRm1 : flwB slotsRm1 waitRm1 16 (regOf Tryd.f42.body 1) = true := by kernel_rfl
set_option maxHeartbeats 4000000 in
set_option maxRecDepth 100000 in
theorem rminus_b (a : Ce) (b : Ce) (w w0 : World) (hB : Below w.heap.size w w0) : Calls Tryd.prog 42 #[aggC a, aggC b] w0 fun e w' => (∃ v, e = .returned v ∧ v = aggC (minusC a b)) ∧ Below w.heap.size w w' := by
 go_enter Tryd.func42, Tryd.ntmps42
 have HB := Lib.hid hB
 clear hB
 go_upto_region 0 with fail
 refine wp_region_lit ?_
 try simp only [Act.put, List.setIfInBounds_toArray, List.set_cons_zero, List.set_cons_succ]
 refine lp_step rfl (fun K hK => wp_box_row 73 (.tmp 0) rfl (aggC a) rfl (hK _ _ ?_))
 try simp only [Act.put, List.setIfInBounds_toArray, List.set_cons_zero, List.set_cons_succ]
 show wpList _ _ _ _ _ (w0.alloc (.cells (encC a).toArray 73))
 have HST : Hid (Below w0.heap.size w0 (w0.alloc (.cells (encC a).toArray 73))) := Lib.hid ((Below.refl _ _).alloc (Nat.le_refl _) _)
 have HX1 : Hid (Has (w0.alloc (.cells (encC a).toArray 73)) w0.heap.size 73 (encC a)) := Lib.hid (Has.made' _ _ _ _ rfl)
 have HGg1 : Hid (w.heap.size ≤ w0.heap.size) := Lib.hid HB.out.size
 replace HB := Lib.hid (HB.out.trans (HST.out.mono HB.out.size))
 clear HST
 generalize w0.alloc (.cells (encC a).toArray 73) = w1 at *
 generalize w0.heap.size = g1 at *
 refine lp_step rfl (fun K hK => wp_box_row 73 (.tmp 1) rfl (aggC b) rfl (hK _ _ ?_))
 try simp only [Act.put, List.setIfInBounds_toArray, List.set_cons_zero, List.set_cons_succ]
 show wpList _ _ _ _ _ (w1.alloc (.cells (encC b).toArray 73))
 have HST : Hid (Below w1.heap.size w1 (w1.alloc (.cells (encC b).toArray 73))) := Lib.hid ((Below.refl _ _).alloc (Nat.le_refl _) _)
 have HX2 : Hid (Has (w1.alloc (.cells (encC b).toArray 73)) w1.heap.size 73 (encC b)) := Lib.hid (Has.made' _ _ _ _ rfl)
 replace HX1 := Lib.hid (HX1.out.keepB HST.out)
 have HGg2 : Hid (w.heap.size ≤ w1.heap.size) := Lib.hid HB.out.size
 replace HB := Lib.hid (HB.out.trans (HST.out.mono HB.out.size))
 clear HST
 generalize w1.alloc (.cells (encC b).toArray 73) = w2 at *
 generalize w1.heap.size = g2 at *
 refine lp_step rfl (fun K hK => wp_alloc_row 73 rfl (aggC zC) (fun w => by kernel_rfl) (hK _ _ ?_))
 try simp only [Act.put, List.setIfInBounds_toArray, List.set_cons_zero, List.set_cons_succ]
 show wpList _ _ _ _ _ (w2.alloc (.cells (encC zC).toArray 73))
 have HST : Hid (Below w2.heap.size w2 (w2.alloc (.cells (encC zC).toArray 73))) := Lib.hid ((Below.refl _ _).alloc (Nat.le_refl _) _)
 have HX3 : Hid (Has (w2.alloc (.cells (encC zC).toArray 73)) w2.heap.size 73 (encC zC)) := Lib.hid (Has.made' _ _ _ _ rfl)
 replace HX1 := Lib.hid (HX1.out.keepB HST.out)
 replace HX2 := Lib.hid (HX2.out.keepB HST.out)
 have HGg3 : Hid (w.heap.size ≤ w2.heap.size) := Lib.hid HB.out.size
 replace HB := Lib.hid (HB.out.trans (HST.out.mono HB.out.size))
 clear HST
 generalize w2.alloc (.cells (encC zC).toArray 73) = w3 at *
 generalize w2.heap.size = g3 at *
 refine wpList_nil ?_
 go_upto_region 1 with fail
 have HST : Hid (Below w3.heap.size w3 w3.drew) := Lib.hid (Below.refl _ _).drew
 replace HX1 := Lib.hid (HX1.out.keepB HST.out)
 replace HX2 := Lib.hid (HX2.out.keepB HST.out)
 replace HX3 := Lib.hid (HX3.out.keepB HST.out)
 replace HB := Lib.hid (HB.out.trans (HST.out.mono HB.out.size))
 clear HST
 refine wp_act (fun a0 ha0 => ?_)
 have zsz : a0.tmps.size = 21 := by rw [ha0]; rfl
 have z2 : a0.eval (.tmp 2) = .pointer (some ⟨g1, 0, none⟩) := by rw [ha0]; rfl
 have z3 : a0.eval (.tmp 3) = .pointer (some ⟨g2, 0, none⟩) := by rw [ha0]; rfl
 refine wrD [] slotsRm1 waitRm1 [Fct.val Flz 0 (.pointer (some ⟨g1, 0, none⟩)), Fct.val Flz 1 (.int .i64 (a.1)), Fct.val Flz 2 (.pointer (some ⟨g2, 0, none⟩)), Fct.val Flz 3 (.int .i64 (b.1)), Fct.val Flz 4 (.int .i64 (IntKind.i64.wrap ((a.1) - (b.1)))), Fct.val Flz 5 (.pointer (some ⟨g1, 1, none⟩)), Fct.val Flz 6 (.agg (encU a.2.1).toArray), Fct.val Flz 7 (.pointer (some ⟨g2, 1, none⟩)), Fct.val Flz 8 (.agg (encU b.2.1).toArray), Fct.val Flz 9 (.agg (encU (xorS a.2.1 b.2.1)).toArray), Fct.val Flz 10 (.pointer (some ⟨g1, 33, none⟩)), Fct.val Flz 11 (.agg (encU a.2.2).toArray), Fct.val Flz 12 (.pointer (some ⟨g2, 33, none⟩)), Fct.val Flz 13 (.agg (encU b.2.2).toArray), Fct.val Flz 14 (.agg (encU (xorS a.2.2 b.2.2)).toArray), Fct.val Flz 15 (aggC ((IntKind.i64.wrap ((a.1) - (b.1)), xorS a.2.1 b.2.1, xorS a.2.2 b.2.2)))] (fun w' => Below w3.drew.heap.size w3.drew w') _ 16 1 chkRm1 (by kernel_rfl) (by kernel_rfl) (by kernel_rfl) (by kernel_rfl) (by decide) (Below.refl _ _) ?_ ?_
 ·refine lt_s (lt_s (lt_s (lt_s (lt_s (lt_s (lt_s (lt_s (lt_s (lt_s (lt_s (lt_s (lt_s (lt_s (lt_s (lt_s (lt_0) ?_) ?_) ?_) ?_) ?_) ?_) ?_) ?_) ?_) ?_) ?_) ?_) ?_) ?_) ?_) ?_
  ·intro f w1 hS hf aA hA
   have r2 : aA.eval (.tmp 2) = .pointer (some ⟨g1, 0, none⟩) := pO 2 hA (by kernel_rfl) z2
   exact fV rfl rfl (.pointer (some ⟨g1, 0, none⟩)) (fld0R (.tmp 2) rfl g1 r2) hS uS
  ·intro f w1 hS hf aA hA
   have r5 : aA.eval (.tmp 5) = .pointer (some ⟨g1, 0, none⟩) := pA 5 0 hA sbRm1 (by kernel_rfl) zsz rfl (hf 0 (by decide))
   exact fV rfl rfl (.int .i64 (a.1)) (ex_load1 2 (.tmp 5) rfl ⟨g1, 0, none⟩ r5 (fun _ => by kernel_rfl) ((HX1.out.keepB hS).cellv (encC_0 a))) hS uS
  ·intro f w1 hS hf aA hA
   have r3 : aA.eval (.tmp 3) = .pointer (some ⟨g2, 0, none⟩) := pO 3 hA (by kernel_rfl) z3
   exact fV rfl rfl (.pointer (some ⟨g2, 0, none⟩)) (fld0R (.tmp 3) rfl g2 r3) hS uS
  ·intro f w1 hS hf aA hA
   have r7 : aA.eval (.tmp 7) = .pointer (some ⟨g2, 0, none⟩) := pA 7 2 hA sbRm1 (by kernel_rfl) zsz rfl (hf 2 (by decide))
   exact fV rfl rfl (.int .i64 (b.1)) (ex_load1 2 (.tmp 7) rfl ⟨g2, 0, none⟩ r7 (fun _ => by kernel_rfl) ((HX2.out.keepB hS).cellv (encC_0 b))) hS uS
  ·intro f w1 hS hf aA hA
   have r6 : aA.eval (.tmp 6) = .int .i64 (a.1) := pA 6 1 hA sbRm1 (by kernel_rfl) zsz rfl (hf 1 (by decide))
   have r8 : aA.eval (.tmp 8) = .int .i64 (b.1) := pA 8 3 hA sbRm1 (by kernel_rfl) zsz rfl (hf 3 (by decide))
   exact fV rfl rfl (.int .i64 (IntKind.i64.wrap ((a.1) - (b.1)))) (ex_int .sub _ _ (.tmp 6) (.tmp 8) rfl .i64 a.1 b.1 r6 r8 (.int .i64 (IntKind.i64.wrap ((a.1) - (b.1)))) (fun _ => rfl)) hS uS
  ·intro f w1 hS hf aA hA
   have r2 : aA.eval (.tmp 2) = .pointer (some ⟨g1, 0, none⟩) := pO 2 hA (by kernel_rfl) z2
   exact fV rfl rfl (.pointer (some ⟨g1, 1, none⟩)) (fld1R (.tmp 2) rfl g1 r2) hS uS
  ·intro f w1 hS hf aA hA
   have r10 : aA.eval (.tmp 10) = .pointer (some ⟨g1, 1, none⟩) := pA 10 5 hA sbRm1 (by kernel_rfl) zsz rfl (hf 5 (by decide))
   exact fV rfl rfl (.agg (encU a.2.1).toArray) (ex_loadR 52 (.tmp 10) rfl ⟨g1, 1, none⟩ r10 (fun _ => by kernel_rfl) (encU a.2.1) (by rw [encU_len]; kernel_rfl) ((HX1.out.keepB hS).part (encU a.2.1) 1 (encC_key a))) hS uS
  ·intro f w1 hS hf aA hA
   have r3 : aA.eval (.tmp 3) = .pointer (some ⟨g2, 0, none⟩) := pO 3 hA (by kernel_rfl) z3
   exact fV rfl rfl (.pointer (some ⟨g2, 1, none⟩)) (fld1R (.tmp 3) rfl g2 r3) hS uS
  ·intro f w1 hS hf aA hA
   have r12 : aA.eval (.tmp 12) = .pointer (some ⟨g2, 1, none⟩) := pA 12 7 hA sbRm1 (by kernel_rfl) zsz rfl (hf 7 (by decide))
   exact fV rfl rfl (.agg (encU b.2.1).toArray) (ex_loadR 52 (.tmp 12) rfl ⟨g2, 1, none⟩ r12 (fun _ => by kernel_rfl) (encU b.2.1) (by rw [encU_len]; kernel_rfl) ((HX2.out.keepB hS).part (encU b.2.1) 1 (encC_key b))) hS uS
  ·intro f w1 hS hf aA hA
   have r11 : aA.eval (.tmp 11) = .agg (encU a.2.1).toArray := pA 11 6 hA sbRm1 (by kernel_rfl) zsz rfl (hf 6 (by decide))
   have r13 : aA.eval (.tmp 13) = .agg (encU b.2.1).toArray := pA 13 8 hA sbRm1 (by kernel_rfl) zsz rfl (hf 8 (by decide))
   exact fC rfl rfl 57 #[(.tmp 11), (.tmp 13)] _ rfl #[.agg (encU a.2.1).toArray, .agg (encU b.2.1).toArray] (mp2 r11 r13) (fun w => by kernel_rfl) _ (xorR_any a.2.1 b.2.1 w1) hS (fun _ _ h => uS.trans h)
  ·intro f w1 hS hf aA hA
   have r2 : aA.eval (.tmp 2) = .pointer (some ⟨g1, 0, none⟩) := pO 2 hA (by kernel_rfl) z2
   exact fV rfl rfl (.pointer (some ⟨g1, 33, none⟩)) (fld2R (.tmp 2) rfl g1 r2) hS uS
  ·intro f w1 hS hf aA hA
   have r15 : aA.eval (.tmp 15) = .pointer (some ⟨g1, 33, none⟩) := pA 15 10 hA sbRm1 (by kernel_rfl) zsz rfl (hf 10 (by decide))
   exact fV rfl rfl (.agg (encU a.2.2).toArray) (ex_loadR 52 (.tmp 15) rfl ⟨g1, 33, none⟩ r15 (fun _ => by kernel_rfl) (encU a.2.2) (by rw [encU_len]; kernel_rfl) ((HX1.out.keepB hS).part (encU a.2.2) 33 (encC_chk a))) hS uS
  ·intro f w1 hS hf aA hA
   have r3 : aA.eval (.tmp 3) = .pointer (some ⟨g2, 0, none⟩) := pO 3 hA (by kernel_rfl) z3
   exact fV rfl rfl (.pointer (some ⟨g2, 33, none⟩)) (fld2R (.tmp 3) rfl g2 r3) hS uS
  ·intro f w1 hS hf aA hA
   have r17 : aA.eval (.tmp 17) = .pointer (some ⟨g2, 33, none⟩) := pA 17 12 hA sbRm1 (by kernel_rfl) zsz rfl (hf 12 (by decide))
   exact fV rfl rfl (.agg (encU b.2.2).toArray) (ex_loadR 52 (.tmp 17) rfl ⟨g2, 33, none⟩ r17 (fun _ => by kernel_rfl) (encU b.2.2) (by rw [encU_len]; kernel_rfl) ((HX2.out.keepB hS).part (encU b.2.2) 33 (encC_chk b))) hS uS
  ·intro f w1 hS hf aA hA
   have r16 : aA.eval (.tmp 16) = .agg (encU a.2.2).toArray := pA 16 11 hA sbRm1 (by kernel_rfl) zsz rfl (hf 11 (by decide))
   have r18 : aA.eval (.tmp 18) = .agg (encU b.2.2).toArray := pA 18 13 hA sbRm1 (by kernel_rfl) zsz rfl (hf 13 (by decide))
   exact fC rfl rfl 57 #[(.tmp 16), (.tmp 18)] _ rfl #[.agg (encU a.2.2).toArray, .agg (encU b.2.2).toArray] (mp2 r16 r18) (fun w => by kernel_rfl) _ (xorR_any a.2.2 b.2.2 w1) hS (fun _ _ h => uS.trans h)
  ·intro f w1 hS hf aA hA
   have r9 : aA.eval (.tmp 9) = .int .i64 (IntKind.i64.wrap ((a.1) - (b.1))) := pA 9 4 hA sbRm1 (by kernel_rfl) zsz rfl (hf 4 (by decide))
   have r14 : aA.eval (.tmp 14) = .agg (encU (xorS a.2.1 b.2.1)).toArray := pA 14 9 hA sbRm1 (by kernel_rfl) zsz rfl (hf 9 (by decide))
   have r19 : aA.eval (.tmp 19) = .agg (encU (xorS a.2.2 b.2.2)).toArray := pA 19 14 hA sbRm1 (by kernel_rfl) zsz rfl (hf 14 (by decide))
   exact fV rfl rfl (aggC ((IntKind.i64.wrap ((a.1) - (b.1)), xorS a.2.1 b.2.1, xorS a.2.2 b.2.2))) (ex_build 73 _ rfl (encC ((IntKind.i64.wrap ((a.1) - (b.1)), xorS a.2.1 b.2.1, xorS a.2.2 b.2.2))).toArray [(0, .int .i64 (IntKind.i64.wrap ((a.1) - (b.1)))), (1, .agg (encU (xorS a.2.1 b.2.1)).toArray), (2, .agg (encU (xorS a.2.2 b.2.2)).toArray)] (by simp only [List.map_toArray, List.map_cons, List.map_nil, r9, r14, r19]) (builtR3 (IntKind.i64.wrap ((a.1) - (b.1))) (xorS a.2.1 b.2.1) (xorS a.2.2 b.2.2))) hS uS
 intro f w1 hS hf hap
 have h0 : f 0 = .pointer (some ⟨g1, 0, none⟩) := hf 0 (by decide)
 have h1 : f 1 = .int .i64 (a.1) := hf 1 (by decide)
 have h2 : f 2 = .pointer (some ⟨g2, 0, none⟩) := hf 2 (by decide)
 have h3 : f 3 = .int .i64 (b.1) := hf 3 (by decide)
 have h4 : f 4 = .int .i64 (IntKind.i64.wrap ((a.1) - (b.1))) := hf 4 (by decide)
 have h5 : f 5 = .pointer (some ⟨g1, 1, none⟩) := hf 5 (by decide)
 have h6 : f 6 = .agg (encU a.2.1).toArray := hf 6 (by decide)
 have h7 : f 7 = .pointer (some ⟨g2, 1, none⟩) := hf 7 (by decide)
 have h8 : f 8 = .agg (encU b.2.1).toArray := hf 8 (by decide)
 have h9 : f 9 = .agg (encU (xorS a.2.1 b.2.1)).toArray := hf 9 (by decide)
 have h10 : f 10 = .pointer (some ⟨g1, 33, none⟩) := hf 10 (by decide)
 have h11 : f 11 = .agg (encU a.2.2).toArray := hf 11 (by decide)
 have h12 : f 12 = .pointer (some ⟨g2, 33, none⟩) := hf 12 (by decide)
 have h13 : f 13 = .agg (encU b.2.2).toArray := hf 13 (by decide)
 have h14 : f 14 = .agg (encU (xorS a.2.2 b.2.2)).toArray := hf 14 (by decide)
 have h15 : f 15 = aggC ((IntKind.i64.wrap ((a.1) - (b.1)), xorS a.2.1 b.2.1, xorS a.2.2 b.2.2)) := hf 15 (by decide)
 clear hf hap
 clear zsz z2 z3
 subst ha0
 simp only [slotsRm1, putAll, h0, h1, h2, h3, h4, h5, h6, h7, h8, h9, h10, h11, h12, h13, h14, h15, Act.put, List.setIfInBounds_toArray, List.set_cons_zero, List.set_cons_succ]
 clear h0 h1 h2 h3 h4 h5 h6 h7 h8 h9 h10 h11 h12 h13 h14 h15
 refine tl_store rfl (by kernel_rfl) 73 (.tmp 4) (.tmp 20) rfl g3 (encC (minusC a b)) _ rfl (congrArg aggC (minusC_eq a b)) _ (HX3.out.keepB hS) (by rw [encC_len]; kernel_rfl) (by simp only [encC_len]) (encC_ones _) ?_
 intro w9 hp hbl hot
 refine tl_nilN ?_
 have HP := Lib.hid hp
 have HF := Lib.hid ((HB.out.trans (hS.mono HB.out.size)).trans (hbl _ HGg3.out))
 clear hp hbl hot hS
 go_wp2_with fail
 (try simp only [Exit.inBlock, Exit.then])
 refine bodyPost_ret (v := .agg (encC (minusC a b)).toArray) ?_ rfl ⟨⟨_, rfl, rfl⟩, HF.out⟩
 exact results_cell_row rfl _ _ g3 73 _ (0, 0) _ rfl HP.out Tryd.underlying73 rfl (by rw [List.size_toArray, encC_len]; kernel_rfl)
theorem rminus_any (a : Ce) (b : Ce) (w : World) : Calls Tryd.prog 42 #[aggC a, aggC b] w fun e w' => (∃ v, e = .returned v ∧ v = aggC (minusC a b)) ∧ Below w.heap.size w w' := rminus_b a b w w (Below.refl _ _)
def waitRc1 (i : Nat) : List Nat := ([[], [0], [], [2], [], [4], [1, 3, 5], [0, 1, 2, 3, 4, 5, 6]] : List (List Nat)).getD i []
def slotsRc1 : List (Nat × Nat) := [(3, 0), (4, 1), (5, 2), (6, 3), (7, 4), (8, 5), (9, 6)]
theorem sbRc1 : slotsB slotsRc1 = true := by kernel_rfl
def waitRq1 (i : Nat) : List Nat := ([[], [0], [1], [2], [3], [3], [3], [3, 6], [7], [8], [8, 9], [8], [8, 11], [8, 12], [8, 10, 13], [8, 14], [15]] : List (List Nat)).getD i []
def slotsRq1 : List (Nat × Nat) := [(3, 0), (4, 1), (5, 2), (6, 3), (7, 4), (8, 5), (9, 6), (10, 7), (11, 8), (12, 9), (13, 10), (14, 11), (15, 12), (16, 13), (17, 14), (18, 15), (2, 16)]
theorem sbRq1 : slotsB slotsRq1 = true := by kernel_rfl
def waitRq2 (i : Nat) : List Nat := ([[], [0], [1], [2], [3], [3], [3], [3, 6], [7], [8], [8, 9], [8], [8, 11], [8, 12], [8, 10, 13], [8, 14], [15]] : List (List Nat)).getD i []
def slotsRq2 : List (Nat × Nat) := [(3, 0), (4, 1), (5, 2), (6, 3), (7, 4), (8, 5), (9, 6), (10, 7), (11, 8), (12, 9), (13, 10), (14, 11), (15, 12), (16, 13), (17, 14), (18, 15), (2, 16)]
theorem sbRq2 : slotsB slotsRq2 = true := by kernel_rfl
def waitRq3 (i : Nat) : List Nat := ([[], [0], [1], [2], [3], [3, 4], [3, 5], [3, 6], [7], [8], [8, 9], [8], [8, 11], [8, 12], [8, 10, 13], [8, 14], [15]] : List (List Nat)).getD i []
def slotsRq3 : List (Nat × Nat) := [(3, 0), (4, 1), (5, 2), (6, 3), (7, 4), (8, 5), (9, 6), (10, 7), (11, 8), (12, 9), (13, 10), (14, 11), (15, 12), (16, 13), (17, 14), (18, 15), (2, 16)]
theorem sbRq3 : slotsB slotsRq3 = true := by kernel_rfl
def waitRq4 (i : Nat) : List Nat := ([[], [0], [1], [2], [3], [3, 4], [3, 5], [3, 6], [7], [8], [8, 9], [8], [8, 11], [8, 12], [8, 10, 13], [8, 14], [15]] : List (List Nat)).getD i []
def slotsRq4 : List (Nat × Nat) := [(3, 0), (4, 1), (5, 2), (6, 3), (7, 4), (8, 5), (9, 6), (10, 7), (11, 8), (12, 9), (13, 10), (14, 11), (15, 12), (16, 13), (17, 14), (18, 15), (2, 16)]
theorem sbRq4 : slotsB slotsRq4 = true := by kernel_rfl
def waitRq5 (i : Nat) : List Nat := ([[], [0], [1], [2], [3], [3, 4], [3, 5], [3, 6], [7], [8], [8], [8], [8], [8], [8], [8, 14], [15]] : List (List Nat)).getD i []
def slotsRq5 : List (Nat × Nat) := [(3, 0), (4, 1), (5, 2), (6, 3), (7, 4), (8, 5), (9, 6), (10, 7), (11, 8), (12, 9), (13, 10), (14, 11), (15, 12), (16, 13), (17, 14), (18, 15), (2, 16)]
theorem sbRq5 : slotsB slotsRq5 = true := by kernel_rfl
end Go.Proofs.YtepeloenijlnhaaDoor
/- Contracts: the document's own Word (package tallymanref1). Condition: thirty-two bytes each. -/
namespace Go.Proofs.YtepeloenijlnhaaDoor
open Go.RowKit
section
attribute [local go_sem] M_or M_shl8 M_of_B
set_option maxHeartbeats 1000000 in
theorem rword_any (x : List (BitVec 8)) (hx : x.length = 32) (i : Int) (w : World) :
    Calls Tryd.prog 60 #[.agg (x.map u8v).toArray, .int .i64 i] w fun e w' => e = .returned (.int .u64 (M (wordOf x i))) ∧ Below w.heap.size w w' := by
  obtain ⟨cx, hcx⟩ : ∃ cx, cx = x.map u8v := ⟨_, rfl⟩
  rw [← hcx]
  have Hcx := Lib.hid hcx
  have Hx := Lib.hid hx
  clear hcx hx
  have hm0 : (0 : Int) = M 0 := rfl
  by_cases h1 : i < 0
  · have hw : wordOf x i = 0 := if_neg (by omega)
    rw [hw]
    have HM := Lib.hid hm0
    clear hm0 hw
    go_enter Tryd.func60, Tryd.ntmps60
    go_wp2_with fail
    go_loop [5, 6] (fun v j => v = .int .u64 0 ∧ j = .int .i64 7) (fun _ _ => 0)
    case atStart => exact ⟨rfl, rfl⟩
    case round =>
      obtain ⟨rfl, rfl⟩ := hrel
      go_wp2
      go_ret
      exact ⟨congrArg (fun n => Ending.returned (.int .u64 n)) HM.out, (Below.refl _ _).alloc (Nat.le_refl _) _⟩
  by_cases h2 : 4 ≤ i
  · have hw : wordOf x i = 0 := if_neg (by omega)
    rw [hw]
    have HM := Lib.hid hm0
    clear hm0 hw
    go_enter Tryd.func60, Tryd.ntmps60
    go_wp2_with fail
    go_loop [5, 6] (fun v j => v = .int .u64 0 ∧ j = .int .i64 7) (fun _ _ => 0)
    case atStart => exact ⟨rfl, rfl⟩
    case round =>
      obtain ⟨rfl, rfl⟩ := hrel
      go_wp2
      go_ret
      exact ⟨congrArg (fun n => Ending.returned (.int .u64 n)) HM.out, (Below.refl _ _).alloc (Nat.le_refl _) _⟩
  obtain ⟨k, rfl⟩ := Int.eq_ofNat_of_zero_le (show 0 ≤ i by omega)
  have hk4 : k < 4 := by omega
  have hw : wordOf x (k : Int) = wordTo x k 8 := by unfold wordOf; rw [if_pos (by omega)]; simp
  rw [hw]
  have HM := Lib.hid hm0
  clear hm0 hw
  go_enter Tryd.func60, Tryd.ntmps60
  go_wp2_with fail
  generalize hw0 : w.alloc _ = w0
  have hH : Has w0 w.heap.size 52 (x.map u8v) := by subst hw0; rw [← Hcx.out]; exact Has.made' _ _ _ _ rfl
  have hB : Below w.heap.size w w0 := by subst hw0; exact (Below.refl _ _).alloc (Nat.le_refl _) _
  clear hw0
  go_loop [5, 6] (fun v j => ∃ n : Nat, n ≤ 8 ∧ j = .int .i64 (7 - (n : Int)) ∧ v = .int .u64 (M (wordTo x k n))) (fun _ j => (intOf j + 1).toNat)
  case atStart => exact ⟨0, by omega, rfl, congrArg (Value.int .u64) HM.out⟩
  case round =>
    obtain ⟨n, hn, rfl, rfl⟩ := hrel
    by_cases hlt : n < 8
    · have k1 : (0 : Int) ≤ 7 - (n : Int) := by omega
      have hc := hH.cellv (at8_of x (8 * k + (7 - n)) (by rw [Hx.out]; omega))
      have k2 : 8 * (k : Int) + (7 - (n : Int)) < 32 := by omega
      go_wp2
      go_round
      case rel => exact ⟨n + 1, by omega, by go_num, rfl⟩
      case measure => simp [intOf]; omega
    · have : n = 8 := by omega
      subst this
      have k1 : ¬ (0 : Int) ≤ 7 - ((8 : Nat) : Int) := by omega
      go_wp2
      go_ret
      exact ⟨rfl, hB⟩
end
end Go.Proofs.YtepeloenijlnhaaDoor
/- Contract: the document's own Places. Condition: a seed of 64 bits. -/
namespace Go.Proofs.YtepeloenijlnhaaDoor
open Go.RowKit
theorem int_info : (Tryd.prog.info? 3).map (fun i => (i.zero, i.size, i.bytes)) = some (some (.int .i64 0), 1, 8) := by kernel_rfl
theorem wp_add1 {ops : Array Oper} {rest : List Oper} {o : Oper} {a : Act} {Q : Exit → Act → World → Prop} {T LT : TypeId} {z : Value} {by8 : Nat} (hLT : Tryd.prog.underlying LT = some (.slice T)) (hI : (Tryd.prog.info? T).map (fun i => (i.zero, i.size, i.bytes)) = some (some z, 1, by8)) (hz : z.cells.size = 1) (h8 : by8 ≤ 64)
  (hgd : o.guard = none) (sl x : Operand) (ho : o.op = .call { callee := .builtin .append, args := #[sl, x], argTypes := #[LT, LT] }) {w : World} {base : Nat} {v : Value} {xs : List Value} (R : w.ownsRow base T 1 v xs.length xs) (hbase : base ≤ w.heap.size)
  (hs : a.eval sl = v) (g : Nat) (u : Value) (hx : a.eval x = .slice (some ⟨g, 0, none⟩) 1 1) (hc : w.cell? ⟨g, 0, none⟩ = some u) (hu : u.oneCell' = true) (hn : xs.length ≤ 1000000)
  (h : ∀ v' w', w'.ownsRow base T 1 v' (xs ++ [u]).length (xs ++ [u]) → Below base w w' → wpList Tryd.prog ops Q rest (a.put o.dst v') w') : wpList Tryd.prog ops Q (o :: rest) a w := by
 obtain ⟨i0, hi, hz0, hz1, hz2⟩ := info_parts hI
 refine wpList_append_own _ hgd sl x LT ho base T i0 z 1 by8 hLT hi hz0 hz1 hz2 hz (by decide) v xs.length xs hs R ⟨g, 0, none⟩ 1 1 [u] hx rfl ?_ ?_ (by unfold maxLen; omega) ?_ hbase
  fun v' w' ho' hg' _ => h v' w' (by rw [List.length_append]; exact ho') ((Below.refl base w).grown hg' hbase (fun k hk => own_base R k hk))
 ·intro j y hj
  cases j with
  | zero => simp at hj; subst hj; simpa [Addr.add] using hc
  | succ j => simp at hj
 ·intro y hy; simp at hy; subst hy; exact hu
 ·exact Nat.le_trans (Nat.mul_le_mul (show xs.length + 1 ≤ 1000001 by omega) h8) (by decide)
def in64 (n : Int) : Value := .int .i64 n
theorem Ins.own {w : World} {base n : Nat} {v : Value} {l : List Int} (h : w.ownsRow base 3 1 v n (l.map in64)) : Ins w v l := by
 have hn : l.length = n := by have := h.1; simpa using this
 subst hn
 rcases h.2 with ⟨rfl, h0⟩ | ⟨g, cap, cur, rfl, hb, hg, h1, _⟩
 ·have : l = [] := List.eq_nil_of_length_eq_zero h0
  subst this
  exact Ins.none w
 ·refine ⟨_, cap, rfl, fun _ => ⟨_, rfl, (Array.getElem?_eq_some_iff.1 hg).1, ?_⟩⟩
  exact h.cells (g := g) rfl
theorem seed_take (s k : Nat) (h : k < 8) : (seedL s).take (k + 1) = (seedL s).take k ++ [seedB s k] := by
 unfold seedL
 rw [List.take_succ_eq_append_getElem (by simpa using h)]
 simp
theorem wordR_box (s : Su) (i : Nat) (w : World) : Calls Tryd.prog 60 #[.agg (encU s).toArray, .int .i64 (i : Nat)] w fun e w' => e = .returned (.int .u64 (M (wordOf s.1 (i : Nat)))) ∧ Below w.heap.size w w' := rword_any s.1 s.2 i w
theorem w64_i64 (n : Int) : IntKind.i64.wrap n = wrap64 n := by unfold wrap64; exact IntKind.wrap_i64 n
set_option maxHeartbeats 4000000 in
set_option maxRecDepth 100000 in
theorem rplaces_b (s : Nat) (hs : s < 18446744073709551616) (n : Int) (x : Su) (w w0 : World) (hB : Below w.heap.size w w0) :
  Calls Tryd.prog 43 #[.int .u64 (s : Nat), .int .i64 n, .agg (encU x).toArray] w0 fun e w' => (∃ v, e = .returned v ∧ InsF w.heap.size w' v (places s n x)) ∧ Below w.heap.size w w' := by
 have HSD := Lib.hid hs
 have HB := Lib.hid hB
 clear hs hB
 go_enter Tryd.func43, Tryd.ntmps43
 go_upto_region 0 with fail
 refine wp_region_lit ?_
 try simp only [Act.put, List.setIfInBounds_toArray, List.set_cons_zero, List.set_cons_succ]
 refine lp_step rfl (fun K hK => wp_box_row 52 (.tmp 2) rfl (.agg (encU x).toArray) rfl (hK _ _ ?_))
 try simp only [Act.put, List.setIfInBounds_toArray, List.set_cons_zero, List.set_cons_succ]
 show wpList _ _ _ _ _ (w0.alloc (.cells (encU x).toArray 52))
 have HST : Hid (Below w0.heap.size w0 (w0.alloc (.cells (encU x).toArray 52))) := Lib.hid ((Below.refl _ _).alloc (Nat.le_refl _) _)
 have HX1 : Hid (Has (w0.alloc (.cells (encU x).toArray 52)) w0.heap.size 52 (encU x)) := Lib.hid (Has.made' _ _ _ _ rfl)
 have HGg1 : Hid (w.heap.size ≤ w0.heap.size) := Lib.hid HB.out.size
 replace HB := Lib.hid (HB.out.trans (HST.out.mono HB.out.size))
 clear HST
 generalize w0.alloc (.cells (encU x).toArray 52) = w1 at *
 generalize w0.heap.size = g1 at *
 refine lp_pure rfl (ex_assign _ rfl rfl) ?_
 try simp only [Act.put, List.setIfInBounds_toArray, List.set_cons_zero, List.set_cons_succ]
 refine wpList_nil ?_
 obtain ⟨gd, hgd⟩ : ∃ gd, goodN n = gd := ⟨_, rfl⟩
 have HGD := Lib.hid hgd
 have hcall := goodR14_p n
 rw [hgd] at hcall
 clear hgd
 cases gd
 ·go_wp2_with ((with_reducible refine (hcall _).mono ?_); rintro e w8 ⟨rfl, hb8⟩; have HB8 := Lib.hid (HB.out.trans (hb8.mono HB.out.size)); clear hb8)
  go_ret
  exact ⟨⟨_, rfl, by rw [places_none HGD.out]; exact InsF.none _ _⟩, HB8.out⟩
 go_upto_region 3 with ((with_reducible refine (hcall _).mono ?_); rintro e w8 ⟨rfl, hb8⟩; have HB8 := Lib.hid (HB.out.trans (hb8.mono HB.out.size)); have HX8 := Lib.hid (HX1.out.keepB hb8); clear hb8)
 clear hcall
 replace HX1 := Lib.hid HX8.out
 replace HB := Lib.hid HB8.out
 clear HX8 HB8
 refine wp_region_lit ?_
 try simp only [Act.put, List.setIfInBounds_toArray, List.set_cons_zero, List.set_cons_succ]
 refine lp_step rfl (fun K hK => wp_lit8 1 _ rfl ((t80.map u8v).toArray) (by decide) (by decide) (by kernel_rfl) (hK _ _ ?_))
 try simp only [Act.put, List.setIfInBounds_toArray, List.set_cons_zero, List.set_cons_succ]
 have HO := Lib.hid (OwB.made w8 t80 1 rfl (by decide))
 have HS3 : Hid (Below w8.heap.size w8 (w8.alloc (.cells (t80.map u8v).toArray 5))) := Lib.hid ((Below.refl _ _).alloc (Nat.le_refl _) _)
 have HZ3 : Hid (w8.heap.size ≤ (w8.alloc (.cells (t80.map u8v).toArray 5)).heap.size) := Lib.hid HS3.out.size
 have HX3 := Lib.hid (HX1.out.keepB HS3.out)
 have HXL : Hid (g1 < w8.heap.size) := Lib.hid HX1.out.lt
 have HWZ : Hid (w.heap.size ≤ w8.heap.size) := Lib.hid HB.out.size
 generalize w8.alloc (.cells (t80.map u8v).toArray 5) = w3 at *
 go_wp2_with fail
 go_loopw [7, 8] (fun vb vi wr => ∃ k : Nat, k ≤ 8 ∧ vi = .int .i64 k ∧ OwB wr w8.heap.size vb (t80 ++ (seedL s).take k) ∧ Has wr g1 52 (encU x) ∧ w8.heap.size ≤ wr.heap.size ∧ Below w8.heap.size w8 wr) (fun _ vi _ => 8 - (intOf vi).toNat)
 case atStart => exact ⟨0, by omega, rfl, HO.out, HX3.out, HZ3.out, HS3.out⟩
 case round =>
  clear HO HX3 HZ3 HS3
  rename_i wr
  obtain ⟨k, hk, rfl, ho, hx, hz, hB⟩ := hrel
  have HO := Lib.hid ho
  have HX := Lib.hid hx
  have HBW := Lib.hid hB
  have HZ := Lib.hid hz
  by_cases hk2 : k < 8
  ·have HTK := Lib.hid (seed_take s k hk2)
   have hv := seed_byte s k
   have HLX : Hid ((t80 ++ (seedL s).take k).length ≤ 1000) := Lib.hid (by rw [List.length_append, List.length_take, seedL_len]; have : t80.length = 1 := rfl; omega)
   generalize seedB s k = y at *
   have k2 : (k : Int) < 8 := by omega
   have k3 : 8 * (k : Int) < 64 := by omega
   have s0 : (0 : Int) ≤ (s : Int) := by omega
   have s1 : (s : Int) < 18446744073709551616 := by have := HSD.out; omega
   have HOA : Hid (OwB (wr.alloc (.cells #[.int .u8 (B y)] 5)) w8.heap.size _ (t80 ++ (seedL s).take k)) := Lib.hid (ho.alloc _)
   have HXA := Lib.hid (hx.alloc (.cells #[.int .u8 (B y)] 5))
   have HBA := Lib.hid (hB.alloc hz (.cells #[.int .u8 (B y)] 5))
   have HLY := Lib.hid (u8v_lit wr y)
   have HZA : Hid (w8.heap.size ≤ (wr.alloc (.cells #[.int .u8 (B y)] 5)).heap.size) := Lib.hid (by simp; omega)
   generalize hZE : t80 ++ (seedL s).take k = Z at *
   have HZE := Lib.hid hZE
   clear hZE
   clear ho hx hB hz HO
   go_wp2_with (at_builtin; refine wpList_append_seesG rfl _ _ rfl w8.heap.size _ _ _ rfl HOA.out ⟨wr.heap.size, 0, none⟩ [y] 1 rfl HLY.out (by have := HLX.out; simp; omega) HZA.out ?_; intro v3 w3 g1 g2; have HN := Lib.hid (OwB.next g1); have HX3 := Lib.hid (HXA.out.grown (by decide) HOA.out g2); have HB3 := Lib.hid (HBA.out.grown g2 HZA.out (fun k hk => own_base HOA.out k hk)); have HZ3 := Lib.hid (Nat.le_trans HZA.out g2.4); clear g1 g2)
   go_roundw
   case rel => exact ⟨k + 1, by omega, by go_num, by rw [HTK.out, ← List.append_assoc, HZE.out]; exact HN.out, HX3.out, HZ3.out, HB3.out⟩
   case measure => simp [intOf]; omega
  ·have hk8 : k = 8 := by omega
   subst hk8
   have hfull : (seedL s).take 8 = seedL s := List.take_of_length_le (by rw [seedL_len]; exact Nat.le_refl _)
   rw [hfull] at HO
   have k2 : ¬ ((8 : Nat) : Int) < 8 := by omega
   clear ho hx hB hz hfull hk2
   go_upto_region 8 with fail
   refine wp_region_lit ?_
   try simp only [Act.put, List.setIfInBounds_toArray, List.set_cons_zero, List.set_cons_succ]
   refine lp_pure rfl (ex_move (.tmp 7) rfl rfl) ?_
   try simp only [Act.put, List.setIfInBounds_toArray, List.set_cons_zero, List.set_cons_succ]
   refine lp_pure rfl (ex_loadR 52 (.tmp 5) rfl ⟨g1, 0, none⟩ rfl (fun _ => by kernel_rfl) (encU x) (by rw [encU_len]; kernel_rfl) (HX.out.part (encU x) 0 (encU_all' x))) ?_
   try simp only [Act.put, List.setIfInBounds_toArray, List.set_cons_zero, List.set_cons_succ]
   refine lp_call rfl 59 #[.tmp 30, .tmp 31] _ rfl #[_, .agg (encU x).toArray] (by kernel_rfl) (fun w => by kernel_rfl) (putSum_any x (t80 ++ seedL s) _ w8.heap.size w8 wr HBW.out HZ.out HO.out (by rw [List.length_append, seedL_len]; decide)) ?_
   rintro e w4 ⟨⟨v4, rfl, ho4⟩, hb4⟩
   refine ⟨v4, rfl, ?_⟩
   try simp only [Act.put, List.setIfInBounds_toArray, List.set_cons_zero, List.set_cons_succ]
   refine lp_call rfl 58 #[.tmp 32] _ rfl #[v4] (by kernel_rfl) (fun w => by kernel_rfl) (rof_ow ho4 (by rw [List.length_append, List.length_append, seedL_len, x.2]; decide)) ?_
   rintro e w5 ⟨rfl, hb5⟩
   refine ⟨_, rfl, ?_⟩
   try simp only [Act.put, List.setIfInBounds_toArray, List.set_cons_zero, List.set_cons_succ]
   have HB5 : Hid (Below w.heap.size w w5) := Lib.hid (HB.out.trans ((hb4.trans (hb5.mono hb4.size)).mono HWZ.out))
   have hps : shaU (t80 ++ seedL s ++ x.1) = placeS s x := rfl
   rw [hps]
   clear hb4 hb5 ho4 HO HX HBW HZ HB hps
   refine lp_step rfl (fun K hK => wp_alloc_row 52 rfl (.agg (encU zS).toArray) (fun w => by kernel_rfl) (hK _ _ ?_))
   try simp only [Act.put, List.setIfInBounds_toArray, List.set_cons_zero, List.set_cons_succ]
   show wpList _ _ _ _ _ (w5.alloc (.cells (encU zS).toArray 52))
   have HS6 : Hid (Below w5.heap.size w5 (w5.alloc (.cells (encU zS).toArray 52))) := Lib.hid ((Below.refl _ _).alloc (Nat.le_refl _) _)
   have HX6 : Hid (Has (w5.alloc (.cells (encU zS).toArray 52)) w5.heap.size 52 (encU zS)) := Lib.hid (Has.made' _ _ _ _ rfl)
   have HB6 := Lib.hid (HB5.out.trans (HS6.out.mono HB5.out.size))
   have HG6 := Lib.hid HB5.out.size
   clear HS6 HB5
   generalize w5.alloc (.cells (encU zS).toArray 52) = w6 at *
   generalize w5.heap.size = g6 at *
   refine wpList_store_row rfl 52 (.tmp 9) (.tmp 33) rfl g6 (encU (placeS s x)).toArray rfl rfl 52 (encU zS).toArray HX6.out (by rw [List.size_toArray, encU_len]; kernel_rfl) (by simp only [List.size_toArray, encU_len]) (encU_all _) ?_
   simp only [Act.put]
   refine wpList_nil ?_
   have HP : Hid (Has (w6.setRow g6 (encU (placeS s x)).toArray) g6 52 (encU (placeS s x))) := Lib.hid (HX6.out.rowl _)
   have HF := Lib.hid (below_row HB6.out HG6.out (encU (placeS s x)).toArray)
   clear HB6 HX6
   generalize w6.setRow g6 (encU (placeS s x)).toArray = w9 at *
   obtain ⟨p, hp1, hp2, rfl⟩ := good_part HGD.out
   have q1 : (3 * (p : Int)) / 3 = p := by omega
   have HLT : Hid (g6 < w9.heap.size) := Lib.hid HP.out.lt
   go_wp2_with fail
   go_loopw [10, 12] (fun vl vi wr => ∃ k : Nat, k ≤ 3 ∧ vi = .int .i64 k ∧ wr.ownsRow w9.heap.size 3 1 vl (((List.range k).map (placeAt s (3 * p) x)).map in64).length (((List.range k).map (placeAt s (3 * p) x)).map in64) ∧ Has wr g6 52 (encU (placeS s x)) ∧ w9.heap.size ≤ wr.heap.size ∧ Below w9.heap.size w9 wr) (fun _ vi _ => 3 - (intOf vi).toNat)
   case atStart => exact ⟨0, by omega, rfl, ⟨rfl, .inl ⟨rfl, rfl⟩⟩, HP.out, Nat.le_refl _, Below.refl _ _⟩
   case round =>
    clear HP
    rename_i wq
    obtain ⟨k, hk, rfl, ho, hx, hz, hB⟩ := hrel
    have HO := Lib.hid ho
    have HX := Lib.hid hx
    have HBW := Lib.hid hB
    have HZ := Lib.hid hz
    clear ho hx hB hz
    by_cases hlt : k < 3
    ·have HRS : Hid ((List.range (k + 1)).map (placeAt s (3 * p) x) = (List.range k).map (placeAt s (3 * p) x) ++ [placeAt s (3 * p) x k]) := Lib.hid (by rw [List.range_succ, List.map_append]; rfl)
     have HAT : Hid (placeAt s (3 * p) x k = k * p + M (wordOf (placeS s x).1 k) % p) := Lib.hid (by unfold placeAt; rw [q1])
     have HM : Hid (0 ≤ M (wordOf (placeS s x).1 k)) := Lib.hid (M_nonneg _)
     have HWD := Lib.hid (wordR_box (placeS s x) k)
     have HLN : Hid ((((List.range k).map (placeAt s (3 * p) x)).map in64).length ≤ 1000000) := Lib.hid (by rw [List.length_map, List.length_map, List.length_range]; omega)
     generalize M (wordOf (placeS s x).1 k) = m at *
     generalize hL : (List.range k).map (placeAt s (3 * p) x) = L at *
     have m0 : 0 ≤ m % (p : Int) := Int.emod_nonneg _ (by omega)
     have m1 : m % (p : Int) < p := Int.emod_lt_of_pos _ (by omega)
     have hp0 : ¬ ((p : Int) = 0) := by omega
     have hkp : (k : Int) * p ≤ 2 * 341 := by
      have : k = 0 ∨ k = 1 ∨ k = 2 := by omega
      rcases this with rfl | rfl | rfl <;> simp <;> omega
     have hkp0 : 0 ≤ (k : Int) * p := Int.mul_nonneg (by omega) (by omega)
     have hk3 : (k : Int) < 3 := by omega
     have ew : IntKind.u64.wrap (p : Int) = p := by rw [wrap_u64']; omega
     have em : IntKind.i64.wrap (m % (p : Int)) = m % (p : Int) := by rw [IntKind.wrap_i64]; omega
     have ek : IntKind.i64.wrap ((k : Int) * p) = (k : Int) * p := by rw [IntKind.wrap_i64]; omega
     have ea : IntKind.i64.wrap ((k : Int) * p + m % (p : Int)) = (k : Int) * p + m % (p : Int) := by rw [IntKind.wrap_i64]; omega
     have HE9 : Hid (wrap64 ((k : Int) * p + wrap64 (m.tmod p)) = placeAt s (3 * p) x k) := Lib.hid (by rw [← w64_i64, ← w64_i64, Int.tmod_eq_emod_of_nonneg HM.out, em, ea, HAT.out])
     clear hL
     go_wp2_with (first | (refine wpList_load_row rfl 52 _ rfl g6 rfl 52 _ (0, 0) _ HX.out Tryd.underlying52 rfl (by rw [List.size_toArray, encU_len]; kernel_rfl) ?_) | ((with_reducible refine (HWD.out _).mono ?_); rintro e w7 ⟨rfl, hb7⟩; have HO7 := Lib.hid (own_keep HO.out hb7 (fun k hk => hk)); have HX7 := Lib.hid (HX.out.keepB hb7); have HZ7 := Lib.hid (Nat.le_trans HZ.out hb7.size); have HB7 := Lib.hid (HBW.out.trans (hb7.mono HBW.out.size)); clear hb7) | (at_builtin; refine wp_add1 Tryd.underlying57 int_info rfl (by decide) rfl (.tmp 40) (.tmp 52) rfl (base := w9.heap.size) (HO7.out.alloc _) (by have := HZ7.out; simp; omega) rfl w7.heap.size _ rfl (by simp; rfl) rfl HLN.out ?_; intro v3 w3 h1 h2; have HR3 := Lib.hid h1; have HB3 := Lib.hid h2; clear h1 h2))
     go_roundw
     case rel =>
      have hb3 := ((Below.refl w9.heap.size w7).alloc HZ7.out _).trans HB3.out
      refine ⟨k + 1, by omega, by go_num, ?_, HX7.out.keep hb3 HLT.out, Nat.le_trans HZ7.out hb3.size, HB7.out.trans hb3⟩
      rw [HRS.out, ← HE9.out, List.map_append]
      exact HR3.out
     case measure => simp [intOf]; omega
    ·have : k = 3 := by omega
     subst this
     have k1 : ¬ ((3 : Nat) : Int) < 3 := by omega
     go_wp2_with fail
     go_ret
     refine ⟨⟨_, rfl, ?_⟩, HF.out.trans (HBW.out.mono HF.out.size)⟩
     have hpl : places s (3 * p) x = (List.range 3).map (placeAt s (3 * p) x) := if_pos HGD.out
     rw [hpl]
     exact ⟨Ins.own HO.out, fun k hk => Nat.le_trans HF.out.size (World.ownsRow.lt HO.out k hk).1⟩
theorem rplaces_any (s : Nat) (hs : s < 18446744073709551616) (n : Int) (x : Su) (w : World) :
  Calls Tryd.prog 43 #[.int .u64 (s : Nat), .int .i64 n, .agg (encU x).toArray] w fun e w' => (∃ v, e = .returned v ∧ InsF w.heap.size w' v (places s n x)) ∧ Below w.heap.size w w' := rplaces_b s hs n x w w (Below.refl _ _)
end Go.Proofs.YtepeloenijlnhaaDoor
