/- Contract: the document's own Ends. Conditions: a text is of at most a million bytes, and no longer than its room. -/
import Derived.Test.YtkfelfcmpabjoaaRnext
import Derived.Test.YtkfelfcmpabjoaaEnds
namespace Go.Proofs.Ytkfelfcmpabjoaa
open Go.RowKit
set_option maxHeartbeats 1000000 in
set_option maxRecDepth 100000 in
theorem rends_bad (m x d k t : Int) (h : okI m x d = false) (b : List (BitVec 8)) (q : Option Addr) (c : Nat) (w : World) :
    Calls Try.prog 16 #[ruleV m x d k t, .slice q b.length c] w fun e w' => e = .returned (.slice none 0 0) ∧ Below w.heap.size w w' := by
  have HG := Lib.hid (fun w1 => rgood_any m x d k t w1)
  rw [h] at HG
  have HB1 := Lib.hid ((Below.refl w.heap.size w).alloc (Nat.le_refl _) (.cells (ruleL m x d k t).toArray 35))
  unfold ruleV ruleL at HG ⊢
  unfold ruleL at HB1
  go_enter Try.func16, Try.ntmps16
  go_wp2_with fail
  refine wp_loop_rounds 1 ?_
  rw [rounds_succ]
  by_cases h0 : b.length = 0
  · have y : ¬ (0 : Int) < (b.length : Int) := by omega
    go_wp2_with fail
    go_ret
    exact ⟨rfl, HB1.out⟩
  · have y : (0 : Int) < (b.length : Int) := by omega
    go_wp2_with fail
    refine (HG.out _).mono ?_
    rintro e w2 ⟨rfl, hb⟩
    have HB2 := Lib.hid (HB1.out.trans (hb.mono HB1.out.size))
    clear hb
    go_wp2_with fail
    go_ret
    exact ⟨rfl, HB2.out⟩
set_option maxHeartbeats 2000000 in
set_option maxRecDepth 100000 in
theorem rends_good (r : Rl) (hr : r.Ok) (b : List (BitVec 8)) (q : Option Addr) (c : Nat) (w : World) (hc : b.length ≤ c) (hl : b.length ≤ 1000000) (hs : Sees w w.heap.size q (b.map u8v)) :
    Calls Try.prog 16 #[r.val, .slice q b.length c] w fun e w' => ∃ v, e = .returned v ∧ Ns w' v (endsL r 0 b) ∧ Below w.heap.size w w' := by
  have HG := Lib.hid (fun w1 => rgood_any r.mn r.mx r.wd r.mask r.want w1)
  rw [okI_of hr] at HG
  have HF := Lib.hid (fun (b : List (BitVec 8)) (q : Option Addr) c v hc hl hs => rnext_good r hr b q c v hc hl hs)
  have HEN : Hid (∀ o (b : List (BitVec 8)), b.length ≠ 0 → endsL r o b = (o + nx r b) :: endsL r (o + nx r b) (b.drop (nx r b))) := Lib.hid (endsL_cons hr)
  have HPOS : Hid (∀ b : List (BitVec 8), b.length ≠ 0 → 1 ≤ nx r b) := Lib.hid (fun b hb => nx_pos hr hb)
  have HS := Lib.hid hs
  have HC := Lib.hid hc
  have HLN := Lib.hid hl
  have HCT := Lib.hid (fun f hf => cut_from q b.length c f hf)
  have HRI := Lib.hid (Has.made' w 35 _ (ruleL r.mn r.mx r.wd r.mask r.want) rfl)
  have HB1 := Lib.hid ((Below.refl w.heap.size w).alloc (Nat.le_refl _) (.cells (ruleL r.mn r.mx r.wd r.mask r.want).toArray 35))
  have HZ : Hid (w.heap.size + 1 ≤ (w.alloc (.cells (ruleL r.mn r.mx r.wd r.mask r.want).toArray 35)).heap.size) := Lib.hid (by simp)
  have hz0 : Hid (endsL r 0 b = [] ++ endsL r 0 (b.drop 0)) := Lib.hid rfl
  obtain ⟨L, hL⟩ : ∃ L, L = endsL r 0 b := ⟨_, rfl⟩
  rw [← hL] at hz0 ⊢
  clear hs hc hr hL
  unfold Rl.val at HF ⊢
  unfold ruleV at HG HF ⊢
  unfold ruleL at HG HF HRI HB1 HZ ⊢
  go_enter Try.func16, Try.ntmps16
  go_wp2_with fail
  go_loopw [5, 6] (fun v vi wr => ∃ (xs : List Nat) (i : Nat), i ≤ b.length ∧ vi = .int .i64 i ∧ xs.length ≤ i ∧ L = xs ++ endsL r i (b.drop i) ∧ wr.ownsRow (w.heap.size + 1) 3 1 v (xs.map i64n).length (xs.map i64n) ∧ Has wr w.heap.size 35 [.int .i64 (r.mn : Int), .int .i64 (r.mx : Int), .int .i64 (r.wd : Int), .int .u64 (r.mask : Int), .int .u64 (r.want : Int)] ∧ Below w.heap.size w wr ∧ w.heap.size + 1 ≤ wr.heap.size) (fun _ vi _ => b.length - (intOf vi).toNat)
  case atStart => exact ⟨[], 0, by omega, rfl, Nat.le_refl _, hz0.out, World.ownsRow_nil _ _ _ _, HRI.out, HB1.out, HZ.out⟩
  case round =>
    clear HRI HB1 HZ hz0
    rename_i wr
    obtain ⟨xs, i, hi, rfl, hxi, hE, hrow, hR, hB, hbase⟩ := hrel
    have HROW := Lib.hid hrow
    have HR := Lib.hid hR
    have HB := Lib.hid hB
    have HBASE := Lib.hid hbase
    by_cases hlt : i < b.length
    · have hdl : (b.drop i).length ≠ 0 := by rw [List.length_drop]; omega
      have he := HEN.out i (b.drop i) hdl
      have hp := HPOS.out (b.drop i) hdl
      have hnl := (nx_le r (b.drop i)).1
      rw [List.length_drop] at hnl
      rw [he, List.drop_drop] at hE
      have hss := (HS.out.cut (k := i) (cap := c) (by rw [List.length_map]; exact HC.out))
      rw [← List.map_drop] at hss
      replace hss : Sees w w.heap.size (cutQ q c i) ((b.drop i).map u8v) := hss
      have HF1 := Lib.hid (fun v hv => HF.out (b.drop i) (cutQ q c i) (c - i) v (by rw [List.length_drop]; have := HC.out; omega) (by rw [List.length_drop]; omega) hv)
      rw [List.length_drop] at HF1
      have hct := HCT.out i (by omega)
      have HSS := Lib.hid hss
      have hkw : IntKind.i64.wrap ((i : Int) + ((nx r (b.drop i) : Nat) : Int)) = ((i + nx r (b.drop i) : Nat) : Int) := by rw [IntWalk.i64_in _ (by omega)]; omega
      have HE := Lib.hid hE
      have y : (i : Int) < (b.length : Int) := by omega
      have c0 := hR.cellv (i := 0) rfl
      have c1 := hR.cellv (i := 1) rfl
      have c2 := hR.cellv (i := 2) rfl
      have c3 := hR.cellv (i := 3) rfl
      have c4 := hR.cellv (i := 4) rfl
      clear hrow hR hB hbase hdl he hss hE
      generalize nx r (b.drop i) = n at *
      generalize cutQ q c i = qi at *
      generalize c - i = ci at *
      obtain ⟨e, he⟩ : ∃ e, e = i + n := ⟨_, rfl⟩
      rw [← he] at hkw HE
      have HNI : Hid (i < e ∧ e ≤ b.length) := Lib.hid (by omega)
      clear he hp hnl
      go_wp2_with fail
      refine (HG.out wr).mono ?_
      rintro e9 w2 ⟨rfl, hb⟩
      replace HROW := Lib.hid (own_keep HROW.out hb (fun k hk => hk))
      replace HR := Lib.hid (HR.out.keep hb HR.out.lt)
      replace HBASE := Lib.hid (Nat.le_trans HBASE.out hb.size)
      replace HB := Lib.hid (HB.out.trans (hb.mono HB.out.size))
      clear hb c0 c1 c2 c3 c4
      go_wp2_with fail
      refine wp_region_org [(0, true), (1, true), (2, true), (3, true), (4, true), (5, false), (6, true), (7, true)] (by kernel_rfl) (by kernel_rfl) (by kernel_rfl) ?_
      replace HR := Lib.hid HR.out.drew
      replace HB := Lib.hid HB.out.drew
      replace HROW : Hid (w2.drew.ownsRow (w.heap.size + 1) 3 1 _ (xs.map i64n).length (xs.map i64n)) := HROW
      replace HBASE : Hid (w.heap.size + 1 ≤ w2.drew.heap.size) := HBASE
      generalize w2.drew = w5 at *
      simp only [pickOrs, List.getElem?_cons_zero, List.getElem?_cons_succ]
      refine org_pure (v := ?_) (by kernel_rfl) ?_ ?_
      rotate_left
      · intro w' hv; clear hv; go_simp; try with_reducible rfl
      try simp only [Act.put, List.setIfInBounds_toArray, List.set_cons_zero, List.set_cons_succ]
      refine org_pure (by kernel_rfl) (fun w' hv => load_at 35 (.tmp 2) rfl w.heap.size rfl 35 _ w' (HR.out.keep hv HR.out.lt) _ Try.underlying35 rfl (by kernel_rfl)) ?_
      try simp only [Act.put, List.setIfInBounds_toArray, List.set_cons_zero, List.set_cons_succ]
      refine org_pure (v := ?_) (by kernel_rfl) ?_ ?_
      rotate_left
      · intro w' hv; clear hv; go_simp; try with_reducible rfl
      try simp only [Act.put, List.setIfInBounds_toArray, List.set_cons_zero, List.set_cons_succ]
      refine org_pure (v := ?_) (by kernel_rfl) ?_ ?_
      rotate_left
      · intro w' hv; clear hv; go_simp; try with_reducible rfl
      try simp only [Act.put, List.setIfInBounds_toArray, List.set_cons_zero, List.set_cons_succ]
      refine org_pure (v := ?_) (by kernel_rfl) ?_ ?_
      rotate_left
      · intro w' hv; clear hv; go_simp; try with_reducible rfl
      try simp only [Act.put, List.setIfInBounds_toArray, List.set_cons_zero, List.set_cons_succ]
      refine org_step (by kernel_rfl) (fun K hK => ?_)
      go_wp2_with fail
      refine (HF1.out w5 ((HSS.out.keep HB.out).more HB.out.size)).mono ?_
      rintro e9 v2 ⟨rfl, hb⟩
      have HX : Hid (Ext w5 v2) := Lib.hid hb
      replace HROW := Lib.hid (own_keep HROW.out hb (fun k hk => hk))
      replace HR := Lib.hid (HR.out.keep hb HR.out.lt)
      replace HBASE := Lib.hid (Nat.le_trans HBASE.out hb.size)
      replace HB := Lib.hid (HB.out.trans (hb.mono HB.out.size))
      clear hb
      go_wp2_with fail
      refine ⟨HX.out, ?_⟩
      try simp only [Act.put, List.setIfInBounds_toArray, List.set_cons_zero, List.set_cons_succ]
      refine org_pure (v := ?_) (by kernel_rfl) ?_ ?_
      rotate_left
      · intro w' hv; clear hv; go_simp; try with_reducible rfl
      try simp only [Act.put, List.setIfInBounds_toArray, List.set_cons_zero, List.set_cons_succ]
      refine org_pure (v := ?_) (by kernel_rfl) ?_ ?_
      rotate_left
      · intro w' hv; clear hv; go_simp; try with_reducible rfl
      try simp only [Act.put, List.setIfInBounds_toArray, List.set_cons_zero, List.set_cons_succ]
      refine org_nil ?_
      have HLEN : Hid ((xs.map i64n).length ≤ 1000000) := Lib.hid (by rw [List.length_map]; have := HLN.out; omega)
      go_wp2_with (refine wp_add1 Try.underlying28 int_info rfl (by decide) rfl (.tmp 22) (.tmp 24) rfl (base := w.heap.size + 1) (HROW.out.alloc (.cells #[.int .i64 (e : Int)] 3)) (by have := HBASE.out; simp; omega) rfl v2.heap.size (.int .i64 (e : Int)) rfl (by simp) rfl HLEN.out ?_; intro v3 w3 h1 h2; have HROW2 := Lib.hid h1; have HB5 := Lib.hid h2; clear h1 h2 HROW)
      go_roundw
      case rel =>
        have hb5 : Below (w.heap.size + 1) v2 w3 := ((Below.refl (w.heap.size + 1) v2).alloc HBASE.out _).trans HB5.out
        have hrow := HROW2.out
        rw [show xs.map i64n ++ [Value.int .i64 (e : Int)] = (xs ++ [e]).map i64n by rw [List.map_append]; rfl] at hrow
        exact ⟨xs ++ [e], e, HNI.out.2, rfl, by rw [List.length_append, List.length_singleton]; have := HNI.out.1; omega, by rw [HE.out, List.append_assoc]; rfl, hrow, HR.out.keep hb5 (Nat.lt_succ_self _), HB.out.trans (hb5.mono (Nat.le_succ _)), Nat.le_trans HBASE.out hb5.size⟩
      case measure => have := HNI.out; simp [intOf]; omega
    · have hib : i = b.length := by omega
      have k0 : ¬ (i : Int) < (b.length : Int) := by omega
      have HE : Hid (L = xs) := Lib.hid (by rw [hE, endsL_nil r _ _ (by rw [List.length_drop]; omega), List.append_nil])
      clear hrow hR hB hbase hE hlt
      go_wp2_with fail
      go_ret
      exact ⟨_, rfl, by rw [HE.out]; exact Ns.own HROW.out, HB.out⟩
end Go.Proofs.Ytkfelfcmpabjoaa
