/- The law ChunkShares: it answers true. Condition: the arguments read as bytes; the sums' tables are laid. -/
import Derived.Test.YthpledfjopbchaaDoorPaw
import Derived.Test.YthpledfjopbchaaDoorPsl
namespace Go.Proofs.YthpledfjopbchaaDoor
open Go.RowKit
theorem run_none_u8 (w : World) : (Instr.buildSlice 26 0 #[]).run Tryd.prog w = .ok (.slice (some ⟨w.heap.size, 0, none⟩) 0 0) (w.alloc (.cells #[] 5)) := by
  obtain ⟨i0, hi, hz0, hz1, hz2⟩ := info_parts u8_info
  simp [Instr.buildSlice, run_underlying Tryd.underlying26, sizeOf, typeInfo, hi, newRow, Instr.fill]
  rw [show Array.range 0 = #[] by kernel_rfl, Array.map_empty]
theorem wp_none_u8 {o : Oper} {a : Act} {w : World} {Q : Exit → Act → World → Prop} {K : Act → World → Prop} (ho : o.op = .buildSlice 26 0 #[])
    (h : K (a.put o.dst (.slice (some ⟨w.heap.size, 0, none⟩) 0 0)) (w.alloc (.cells #[] 5))) : o.wp Tryd.prog a w K Q := by
  unfold Oper.wp execOp
  simp only [ho, Sem.run_bind]
  rw [Array.map_empty, run_none_u8]
  exact h
/-- One piece's cells: its sum's, its bytes' value. -/
theorem Sees.pc2 {w : World} {b : Nat} {q : Option Addr} {L : List Pc} (h : Sees w b q (rowP L)) {i : Nat} (hi : i < L.length) :
    ∃ a : Addr, q = some a ∧ a.block < b ∧ (∀ w', Below b w w' → ∀ j u, (encU L[i].1)[j]? = some u → w'.cell? ((a.add (i * 33)).add j) = some u) ∧ ∀ w', Below b w w' → w'.cell? ⟨(a.add (i * 33)).block, (a.add (i * 33)).off + 32, none⟩ = some L[i].2.1 := by
  obtain ⟨a, h1, h2, h3⟩ := h.pc hi
  exact ⟨a, h1, h2, fun w' hw j u hu => h3 w' hw j u (encP_su hu), fun w' hw => h3 w' hw 32 _ (encP_b _)⟩
theorem keys_at {LP : List Pc} {X : List (List (BitVec 8))} (h : LP.map keyP = X.map fun x => (shaU x, x)) : LP.length = X.length ∧ ∀ i (h1 : i < LP.length) (h2 : i < X.length), LP[i].1 = shaU X[i] ∧ LP[i].2.2 = X[i] := by
  have hl : LP.length = X.length := by have := congrArg List.length h; simpa using this
  refine ⟨hl, fun i h1 h2 => ?_⟩
  have e : (LP.map keyP)[i]'(by simpa using h1) = (X.map fun x => (shaU x, x))[i]'(by simpa using h2) := by simp only [h]
  rw [List.getElem_map, List.getElem_map] at e
  exact ⟨congrArg Prod.fst e, congrArg Prod.snd e⟩
theorem sum_take_len (X : List (List (BitVec 8))) (i : Nat) (h : i < X.length) : ((X.take (i + 1)).map List.length).sum = ((X.take i).map List.length).sum + X[i].length := by
  rw [List.take_add_one, List.getElem?_eq_getElem h, List.map_append, List.sum_append]; simp
theorem sum_take_le (X : List (List (BitVec 8))) (i : Nat) : ((X.take i).map List.length).sum ≤ (X.map List.length).sum := by
  have h : X.map List.length = (X.take i).map List.length ++ (X.drop i).map List.length := by rw [← List.map_append, List.take_append_drop]
  rw [h, List.sum_append]; omega
set_option maxHeartbeats 8000000 in
set_option maxRecDepth 100000 in
theorem chunkShares_any (a b : List (BitVec 8)) (qa qb : Option Addr) (ca cb : Nat) (w : World) (hca : a.length ≤ ca) (hcb : b.length ≤ cb) (hqa : qa = none → ca = 0) (hqb : qb = none → cb = 0) (hna : a.length < 9223372036854775808) (hnb : b.length < 9223372036854775808) (ha : Sees w w.heap.size qa (a.map u8v)) (hb : Sees w w.heap.size qb (b.map u8v)) (hL : Laid w) :
    Calls Tryd.prog 6 #[.slice qa a.length ca, .slice qb b.length cb] w fun e w' => e = .returned (.bool true) ∧ Below w.heap.size w w' := by
  have HSA := Lib.hid ha
  have HSB := Lib.hid hb
  have HL := Lib.hid hL
  have HSZ := Lib.hid hL.size
  have HAW := Lib.hid (awake11_any w hL)
  clear ha hb hL
  go_enter Tryd.func6, Tryd.ntmps6
  go_upto_region 3 with ((with_reducible refine HAW.out.mono ?_); rintro e w0 ⟨rfl, h2⟩; have HB0 := Lib.hid h2; clear h2)
  clear HAW
  by_cases h8 : a.length > 800
  · have k1 : (a.length : Int) > 800 := by omega
    go_wp2_with fail
    go_ret
    exact ⟨rfl, HB0.out⟩
  by_cases h9 : b.length > 800
  · have k1 : ¬ (a.length : Int) > 800 := by omega
    have k2 : (b.length : Int) > 800 := by omega
    go_wp2_with fail
    go_ret
    exact ⟨rfl, HB0.out⟩
  have k1 : ¬ (a.length : Int) > 800 := by omega
  have k2 : ¬ (b.length : Int) > 800 := by omega
  have HC := Lib.hid (ccut_any a qa ca w0 hca hqa (by omega) ((HSA.out.keep HB0.out).more HB0.out.size) (HL.out.keep HB0.out HSZ.out))
  go_upto_region 8 with ((with_reducible refine HC.out.mono ?_); rintro e w1 ⟨⟨v1, LP, rfl, ⟨q1, c1, rfl, hlc1, hq1, hse1⟩, hpb1, hkey1⟩, hB⟩; have HB1 := Lib.hid (HB0.out.trans (hB.mono HB0.out.size)); have HSP := Lib.hid hse1; have HPB := Lib.hid hpb1; rw [cutP_pcs] at hkey1; obtain ⟨hlp, hkp⟩ := keys_at hkey1; have HLP := Lib.hid hlp; have HKP := Lib.hid hkp; clear hkey1 hse1 hpb1 hlp hkp hB)
  clear HC k1 k2
  have HSUM : Hid (((pcs a).map List.length).sum = a.length) := Lib.hid (pcs_sum a.length a (Nat.le_refl _))
  go_loopw [6, 7] (fun vn vi wr => ∃ j : Nat, j ≤ LP.length ∧ vi = .int .i64 j ∧ vn = .int .i64 ((((pcs a).take j).map List.length).sum : Nat) ∧ wr = w1) (fun _ vi _ => LP.length - (intOf vi).toNat)
  case atStart => exact ⟨0, by omega, rfl, rfl, rfl⟩
  case round =>
    rename_i wr
    obtain ⟨j, hj, rfl, rfl, hw⟩ := hrel
    have hw' := hw.symm
    subst hw'
    clear hw
    by_cases hlt : j < LP.length
    · have hjx : j < (pcs a).length := by rw [← HLP.out]; exact hlt
      obtain ⟨ap, rfl, _, _, hc32⟩ := Sees.pc2 HSP.out hlt
      obtain ⟨qx, cx, hpv, _, _, _⟩ := HPB.out LP[j] (List.getElem_mem hlt)
      have c32 := hc32 w1 (Below.refl _ _)
      rw [hpv, (HKP.out j hlt hjx).2] at c32
      have hst := sum_take_len (pcs a) j hjx
      have hsl := sum_take_le (pcs a) (j + 1)
      rw [HSUM.out] at hsl
      have HST := Lib.hid hst
      obtain ⟨n0, hn0⟩ : ∃ n, n = (((pcs a).take j).map List.length).sum := ⟨_, rfl⟩
      obtain ⟨nx0, hnx⟩ : ∃ n, n = ((pcs a)[j]).length := ⟨_, rfl⟩
      rw [← hn0, ← hnx] at hst
      rw [← hnx] at c32
      rw [← hn0]
      have HN0 := Lib.hid hn0
      have HNX := Lib.hid hnx
      have kb : n0 + nx0 ≤ 1000 := by omega
      have kj : j < 1000000 := by
        have h1 := HLP.out
        have h3 : (pcs a).length ≤ a.length := by unfold pcs; rw [pieces_length]; exact endsL_count plR_ok a
        omega
      have kp : (j : Int) < (LP.length : Int) := by omega
      clear hc32 hpv hst hsl hn0 hnx
      go_wp2_with fail
      go_roundw
      case rel => exact ⟨j + 1, by omega, by go_num, by rw [HST.out, ← HN0.out, ← HNX.out]; go_num, trivial⟩
      case measure => simp [intOf]; omega
    · have hjl : j = LP.length := by omega
      have hfin : (((pcs a).take j).map List.length).sum = a.length := by rw [hjl, HLP.out, List.take_length, HSUM.out]
      rw [hfin]
      subst hjl
      have kp : ¬ ((LP.length : Int) < (LP.length : Int)) := by omega
      clear hfin hlt
      rcases Nat.eq_zero_or_pos LP.length with h0 | h0
      · have HSH : Hid (pcs (a ++ b) = pcs a ++ pcs b) := Lib.hid (by
          have h1 : pcs a = [] := List.eq_nil_of_length_eq_zero (by rw [← HLP.out]; exact h0)
          exact pcs_share b a.length a (Nat.le_refl _) (fun x hx => by rw [h1] at hx; cases hx))
        have k0 : ¬ ((LP.length : Int) > 0) := by omega
        go_upto_region 15 with fail
        clear h0 k0
        refine wp_region_lit ?_
        try simp only [Act.put, List.setIfInBounds_toArray, List.set_cons_zero, List.set_cons_succ]
        refine lp_step (by kernel_rfl) (fun K hK => wp_none_u8 rfl (hK _ _ ?_))
        try simp only [Act.put, List.setIfInBounds_toArray, List.set_cons_zero, List.set_cons_succ]
        have HE0 : Hid ((w1.alloc (.cells #[] 5)).ownsRow w1.heap.size 5 1 (.slice (some ⟨w1.heap.size, 0, none⟩) 0 0) 0 []) := Lib.hid (World.ownsRow_made w1 #[] 0 (Nat.le_refl _) (Nat.zero_le _) rfl)
        have HB2 : Hid (Below w1.heap.size w1 (w1.alloc (.cells #[] 5))) := Lib.hid ((Below.refl _ _).alloc (Nat.le_refl _) _)
        have HQ0 : Hid (w1.alloc (.cells #[] 5) = w1.alloc (.cells #[] 5)) := Lib.hid rfl
        clear HQ0
        obtain ⟨w2, hw2⟩ : ∃ w2, w2 = w1.alloc (.cells #[] 5) := ⟨_, rfl⟩
        rw [← hw2] at HE0 HB2 ⊢
        clear hw2
        refine lp_pure (v := ?_) (by kernel_rfl) ?_ ?_
        rotate_left
        · go_simp; try with_reducible rfl
        try simp only [Act.put, List.setIfInBounds_toArray, List.set_cons_zero, List.set_cons_succ]
        refine wpList_append_sees rfl (.tmp 55) (.tmp 56) rfl w1.heap.size _ 0 [] rfl HE0.out qa a ca w.heap.size rfl hqa (HSA.out.keep (HB1.out.trans (HB2.out.mono HB1.out.size))) (by omega) HB2.out.size ?_
        intro v3 w3 h1 h2
        rw [Nat.zero_add, List.nil_append] at h1
        have HO3 := Lib.hid h1
        have HB3 := Lib.hid (HB2.out.trans h2)
        clear h1 h2
        try simp only [Act.put, List.setIfInBounds_toArray, List.set_cons_zero, List.set_cons_succ]
        refine lp_pure (v := ?_) (by kernel_rfl) ?_ ?_
        rotate_left
        · go_simp; try with_reducible rfl
        try simp only [Act.put, List.setIfInBounds_toArray, List.set_cons_zero, List.set_cons_succ]
        refine wpList_append_sees rfl (.tmp 57) (.tmp 58) rfl w1.heap.size _ a.length (a.map u8v) rfl HO3.out qb b cb w.heap.size rfl hqb (HSB.out.keep (HB1.out.trans (HB3.out.mono HB1.out.size))) (by omega) HB3.out.size ?_
        intro v4 w4 h1 h2
        rw [← List.map_append] at h1
        have HBO := Lib.hid (Bs.own h1)
        have HB4 := Lib.hid (HB3.out.trans h2)
        clear h1 h2
        obtain ⟨q4, c4, rfl, hc4, hq4, hs4⟩ := HBO.out
        have hab : (a ++ b).length ≤ 1000000 := by rw [List.length_append]; omega
        have HLW := Lib.hid (HL.out.keep (HB1.out.trans (HB4.out.mono HB1.out.size)) HSZ.out)
        have HC2 := Lib.hid (ccut_any (a ++ b) q4 c4 w4 hc4 hq4 hab hs4 HLW.out)
        clear hc4 hq4 hs4 HBO HO3 HE0
        obtain ⟨n4, hn4⟩ : ∃ n, n = (a ++ b).length := ⟨_, rfl⟩
        rw [← hn4] at HC2 ⊢
        clear hn4 hab
        try simp only [Act.put, List.setIfInBounds_toArray, List.set_cons_zero, List.set_cons_succ]
        refine lp_step (by kernel_rfl) (fun K hK => ?_)
        go_wp2_with fail
        refine Calls.mono (HC2.out) ?_
        rintro e w5 ⟨⟨v5, LQ, rfl, ⟨q5, c5, rfl, hlc5, hq5, hse5⟩, _, hkey5⟩, hB⟩
        have HB5 := Lib.hid (HB4.out.trans (hB.mono HB4.out.size))
        have HS5 := Lib.hid hse5
        rw [cutP_pcs, HSH.out] at hkey5
        obtain ⟨hlq, hkq⟩ := keys_at hkey5
        have HLQ := Lib.hid hlq
        have HKQ := Lib.hid hkq
        clear hkey5 hlc5 hq5 hse5 hlq hkq hB HC2
        refine hK _ _ ?_
        clear hK
        try simp only [Act.put, List.setIfInBounds_toArray, List.set_cons_zero, List.set_cons_succ]
        refine lp_pure (v := ?_) (by kernel_rfl) ?_ ?_
        rotate_left
        · go_simp; try with_reducible rfl
        try simp only [Act.put, List.setIfInBounds_toArray, List.set_cons_zero, List.set_cons_succ]
        refine wpList_nil ?_
        go_upto_region 17 with fail
        have HLL : Hid (LQ.length = LP.length + (pcs b).length) := Lib.hid (by rw [HLQ.out, HLP.out, List.length_append])
        have HP5 := Lib.hid ((HSP.out.keep HB5.out).more HB5.out.size)
        go_loopw [9] (fun v wr => ∃ j : Nat, j ≤ LP.length ∧ v = .int .i64 j ∧ Below w5.heap.size w5 wr) (fun v _ => LP.length - (intOf v).toNat)
        case atStart => exact ⟨0, by omega, rfl, Below.refl _ _⟩
        case round =>
          rename_i wr
          obtain ⟨j, hj, rfl, hB⟩ := hrel
          have HBR := Lib.hid hB
          clear hB
          by_cases hlt : j < LP.length
          · have hjq : j < LQ.length := by rw [HLL.out]; omega
            have hjx : j < (pcs a).length := by rw [← HLP.out]; exact hlt
            obtain ⟨ap, hqp, _, hcp, _⟩ := Sees.pc2 (HP5.out.keep HBR.out) hlt
            obtain ⟨aq, hqq, _, hcq, _⟩ := Sees.pc2 (HS5.out.keep HBR.out) hjq
            cases hqp
            cases hqq
            have e1 := (HKP.out j hlt hjx).1
            have e2 := (HKQ.out j hjq (by rw [List.length_append]; omega)).1
            rw [List.getElem_append_left hjx] at e2
            rw [e1] at hcp
            rw [e2] at hcq
            obtain ⟨s, hsx⟩ : ∃ s, s = shaU ((pcs a)[j]) := ⟨_, rfl⟩
            rw [← hsx] at hcp hcq
            clear hsx e1 e2
            have HCP : Hid (∀ w', Ext wr w' → ∀ k u, (encU s)[k]? = some u → w'.cell? ((ap.add (j * 33)).add k) = some u) := Lib.hid (fun w' hv => hcp w' (Below.mono hv HBR.out.size))
            have HCQ : Hid (∀ w', Ext wr w' → ∀ k u, (encU s)[k]? = some u → w'.cell? ((aq.add (j * 33)).add k) = some u) := Lib.hid (fun w' hv => hcq w' (Below.mono hv HBR.out.size))
            clear hcp hcq
            have kll : j < 1000000 := by
              have h1 := HLP.out
              have h3 : (pcs a).length ≤ a.length := by unfold pcs; rw [pieces_length]; exact endsL_count plR_ok a
              omega
            have kp : (j : Int) < (LP.length : Int) := by omega
            have kq : ¬ (j : Int) ≥ (LQ.length : Int) := by omega
            have kq2 : (j : Int) < (LQ.length : Int) := by omega
            go_upto_region 19 with fail
            refine wp_region_org [(0, true), (1, true), (2, true), (3, true), (4, true), (5, true), (6, true), (7, true), (8, true), (9, true), (10, true), (11, true), (12, true), (13, true), (14, true), (15, true), (16, true)] (by kernel_rfl) (by kernel_rfl) (by kernel_rfl) ?_
            replace HCP : Hid (∀ w', Ext wr.drew w' → ∀ k u, (encU s)[k]? = some u → w'.cell? ((ap.add (j * 33)).add k) = some u) := Lib.hid (fun w' hv => HCP.out w' (Ext.trans (Below.refl _ _).drew hv))
            replace HCQ : Hid (∀ w', Ext wr.drew w' → ∀ k u, (encU s)[k]? = some u → w'.cell? ((aq.add (j * 33)).add k) = some u) := Lib.hid (fun w' hv => HCQ.out w' (Ext.trans (Below.refl _ _).drew hv))
            replace HBR := Lib.hid HBR.out.drew
            generalize wr.drew = wd at *
            simp only [pickOrs, List.getElem?_cons_zero, List.getElem?_cons_succ]
            refine org_pure (v := ?_) (by kernel_rfl) ?_ ?_
            rotate_left
            · intro w' hv; clear hv; go_simp; try with_reducible rfl
            try simp only [Act.put, List.setIfInBounds_toArray, List.set_cons_zero, List.set_cons_succ]
            refine org_pure (v := ?_) (by kernel_rfl) ?_ ?_
            rotate_left
            · intro w' hv; clear hv; go_simp; try with_reducible rfl
            try simp only [Act.put, List.setIfInBounds_toArray, List.set_cons_zero, List.set_cons_succ]
            refine org_pure (v := ?_) (by kernel_rfl) ?_ ?_
            rotate_left
            · intro w' hv; clear hv; go_simp; try with_reducible rfl
            try simp only [Act.put, List.setIfInBounds_toArray, List.set_cons_zero, List.set_cons_succ]
            refine org_pure (v := ?_) (by kernel_rfl) ?_ ?_
            rotate_left
            · intro w' hv; clear hv; go_simp; try with_reducible rfl
            try simp only [Act.put, List.setIfInBounds_toArray, List.set_cons_zero, List.set_cons_succ]
            refine org_pure (v := ?_) (by kernel_rfl) ?_ ?_
            rotate_left
            · intro w' hv; clear hv; go_simp; try with_reducible rfl
            try simp only [Act.put, List.setIfInBounds_toArray, List.set_cons_zero, List.set_cons_succ]
            refine org_pure (v := ?_) (by kernel_rfl) ?_ ?_
            rotate_left
            · intro w' hv; clear hv; go_simp; try with_reducible rfl
            try simp only [Act.put, List.setIfInBounds_toArray, List.set_cons_zero, List.set_cons_succ]
            refine org_pure (v := ?_) (by kernel_rfl) ?_ ?_
            rotate_left
            · intro w' hv; clear hv; go_simp; try with_reducible rfl
            try simp only [Act.put, List.setIfInBounds_toArray, List.set_cons_zero, List.set_cons_succ]
            refine org_pure (v := ?_) (by kernel_rfl) ?_ ?_
            rotate_left
            · intro w' hv; clear hv; go_simp; try with_reducible rfl
            try simp only [Act.put, List.setIfInBounds_toArray, List.set_cons_zero, List.set_cons_succ]
            refine org_pure (v := ?_) (by kernel_rfl) ?_ ?_
            rotate_left
            · intro w' hv; clear hv; go_simp; try with_reducible rfl
            try simp only [Act.put, List.setIfInBounds_toArray, List.set_cons_zero, List.set_cons_succ]
            refine org_pure (by kernel_rfl) (fun w' hv => load_su 24 (.tmp 75) rfl (aq.add (j * 33)) rfl elSum.2.1 szSum s (HCQ.out _ hv)) ?_
            try simp only [Act.put, List.setIfInBounds_toArray, List.set_cons_zero, List.set_cons_succ]
            refine org_pure (v := ?_) (by kernel_rfl) ?_ ?_
            rotate_left
            · intro w' hv; clear hv; go_simp; try with_reducible rfl
            try simp only [Act.put, List.setIfInBounds_toArray, List.set_cons_zero, List.set_cons_succ]
            refine org_pure (v := ?_) (by kernel_rfl) ?_ ?_
            rotate_left
            · intro w' hv; clear hv; go_simp; try with_reducible rfl
            try simp only [Act.put, List.setIfInBounds_toArray, List.set_cons_zero, List.set_cons_succ]
            refine org_pure (v := ?_) (by kernel_rfl) ?_ ?_
            rotate_left
            · intro w' hv; clear hv; go_simp; try with_reducible rfl
            try simp only [Act.put, List.setIfInBounds_toArray, List.set_cons_zero, List.set_cons_succ]
            refine org_pure (v := ?_) (by kernel_rfl) ?_ ?_
            rotate_left
            · intro w' hv; clear hv; go_simp; try with_reducible rfl
            try simp only [Act.put, List.setIfInBounds_toArray, List.set_cons_zero, List.set_cons_succ]
            refine org_pure (by kernel_rfl) (fun w' hv => load_su 24 (.tmp 80) rfl (ap.add (j * 33)) rfl elSum.2.1 szSum s (HCP.out _ hv)) ?_
            try simp only [Act.put, List.setIfInBounds_toArray, List.set_cons_zero, List.set_cons_succ]
            refine org_pure (by kernel_rfl) (fun w' hv => neq_su 24 (.tmp 76) (.tmp 81) _ rfl s s rfl rfl elSum.2.1 gdSumP) ?_
            try simp only [Act.put, List.setIfInBounds_toArray, List.set_cons_zero, List.set_cons_succ]
            simp only [decide_true]
            refine org_pure (v := ?_) (by kernel_rfl) ?_ ?_
            rotate_left
            · intro w' hv; clear hv; go_simp; try with_reducible rfl
            try simp only [Act.put, List.setIfInBounds_toArray, List.set_cons_zero, List.set_cons_succ]
            refine org_nil ?_
            go_wp2_with fail
            go_roundw
            case rel => exact ⟨j + 1, by omega, by go_num, HBR.out⟩
            case measure => simp [intOf]; omega
          · have hjl : j = LP.length := by omega
            subst hjl
            have kp : ¬ ((LP.length : Int) < (LP.length : Int)) := by omega
            have HBX := Lib.hid (HB1.out.trans ((HB5.out.trans (HBR.out.mono HB5.out.size)).mono HB1.out.size))
            have HC3 := Lib.hid (ccut_any b qb cb wr hcb hqb (by omega) ((HSB.out.keep HBX.out).more HBX.out.size) (HL.out.keep HBX.out HSZ.out))
            clear hlt
            go_upto_region 22 with ((with_reducible refine HC3.out.mono ?_); rintro e w6 ⟨⟨v6, LR, rfl, ⟨q6, c6, rfl, _, _, _⟩, _, hkey6⟩, hB6⟩; have HB6 := Lib.hid hB6; have HK6 := Lib.hid hkey6; clear hB6 hkey6)
            have HLR : Hid (LR.length = (pcs b).length) := Lib.hid (by have := HK6.out; rw [cutP_pcs] at this; exact (keys_at this).1)
            have kf : (LQ.length : Int) = (LP.length : Int) + (LR.length : Int) := by have h1 := HLL.out; have h2 := HLR.out; omega
            have kb : LP.length ≤ 1000 ∧ LR.length ≤ 1000 := by
              have h1 := HLP.out
              have h2 := HLR.out
              have h3 : (pcs a).length ≤ a.length := by unfold pcs; rw [pieces_length]; exact endsL_count plR_ok a
              have h4 : (pcs b).length ≤ b.length := by unfold pcs; rw [pieces_length]; exact endsL_count plR_ok b
              omega
            have kw : wrap64 ((LP.length : Int) + (LR.length : Int)) = (LP.length : Int) + (LR.length : Int) := IntWalk.wrap64_in _ ⟨by omega, by omega⟩
            go_wp2_with fail
            go_ret
            exact ⟨rfl, HBX.out.trans (HB6.out.mono HBX.out.size)⟩
      · obtain ⟨mm, hm⟩ : ∃ m, LP.length = m + 1 := ⟨LP.length - 1, by omega⟩
        have hml : mm < LP.length := by omega
        have hmx : mm < (pcs a).length := by rw [← HLP.out]; exact hml
        obtain ⟨ap, rfl, _, _, hc32⟩ := Sees.pc2 HSP.out hml
        obtain ⟨qx, cx, hpv, _, _, _⟩ := HPB.out LP[mm] (List.getElem_mem hml)
        have c32 := hc32 w1 (Below.refl _ _)
        rw [hpv, (HKP.out mm hml hmx).2] at c32
        have hlast : (pcs a).getLast? = some ((pcs a)[mm]) := by
          rw [List.getLast?_eq_getElem?, ← HLP.out, hm, Nat.add_sub_cancel, List.getElem?_eq_getElem hmx]
        obtain ⟨nx0, hnx⟩ : ∃ n, n = ((pcs a)[mm]).length := ⟨_, rfl⟩
        rw [← hnx] at c32
        have HLA := Lib.hid hlast
        have HM := Lib.hid hm
        have HNX := Lib.hid hnx
        have k0 : (LP.length : Int) > 0 := by omega
        have km : (LP.length : Int) - 1 = (mm : Int) := by omega
        have kml : (mm : Int) < (LP.length : Int) := by omega
        have klb : LP.length ≤ 1000 := by
          have h3 : (pcs a).length ≤ a.length := by unfold pcs; rw [pieces_length]; exact endsL_count plR_ok a
          have := HLP.out
          omega
        have kw : wrap64 ((LP.length : Int) - 1) = (mm : Int) := (IntWalk.wrap64_in _ ⟨by omega, by omega⟩).trans km
        clear hc32 hpv hlast hnx hm
        by_cases hx : nx0 < 128
        · have kx : (nx0 : Int) < 128 := by omega
          go_wp2_with fail
          go_ret
          exact ⟨rfl, HB1.out⟩
        · have kx : ¬ (nx0 : Int) < 128 := by omega
          have HSH : Hid (pcs (a ++ b) = pcs a ++ pcs b) := Lib.hid (pcs_share b a.length a (Nat.le_refl _) (fun x hxl => by rw [HLA.out] at hxl; cases hxl; have := HNX.out; omega))
          go_upto_region 15 with fail
          clear h0 k0
          refine wp_region_lit ?_
          try simp only [Act.put, List.setIfInBounds_toArray, List.set_cons_zero, List.set_cons_succ]
          refine lp_step (by kernel_rfl) (fun K hK => wp_none_u8 rfl (hK _ _ ?_))
          try simp only [Act.put, List.setIfInBounds_toArray, List.set_cons_zero, List.set_cons_succ]
          have HE0 : Hid ((w1.alloc (.cells #[] 5)).ownsRow w1.heap.size 5 1 (.slice (some ⟨w1.heap.size, 0, none⟩) 0 0) 0 []) := Lib.hid (World.ownsRow_made w1 #[] 0 (Nat.le_refl _) (Nat.zero_le _) rfl)
          have HB2 : Hid (Below w1.heap.size w1 (w1.alloc (.cells #[] 5))) := Lib.hid ((Below.refl _ _).alloc (Nat.le_refl _) _)
          have HQ0 : Hid (w1.alloc (.cells #[] 5) = w1.alloc (.cells #[] 5)) := Lib.hid rfl
          clear HQ0
          obtain ⟨w2, hw2⟩ : ∃ w2, w2 = w1.alloc (.cells #[] 5) := ⟨_, rfl⟩
          rw [← hw2] at HE0 HB2 ⊢
          clear hw2
          refine lp_pure (v := ?_) (by kernel_rfl) ?_ ?_
          rotate_left
          · go_simp; try with_reducible rfl
          try simp only [Act.put, List.setIfInBounds_toArray, List.set_cons_zero, List.set_cons_succ]
          refine wpList_append_sees rfl (.tmp 55) (.tmp 56) rfl w1.heap.size _ 0 [] rfl HE0.out qa a ca w.heap.size rfl hqa (HSA.out.keep (HB1.out.trans (HB2.out.mono HB1.out.size))) (by omega) HB2.out.size ?_
          intro v3 w3 h1 h2
          rw [Nat.zero_add, List.nil_append] at h1
          have HO3 := Lib.hid h1
          have HB3 := Lib.hid (HB2.out.trans h2)
          clear h1 h2
          try simp only [Act.put, List.setIfInBounds_toArray, List.set_cons_zero, List.set_cons_succ]
          refine lp_pure (v := ?_) (by kernel_rfl) ?_ ?_
          rotate_left
          · go_simp; try with_reducible rfl
          try simp only [Act.put, List.setIfInBounds_toArray, List.set_cons_zero, List.set_cons_succ]
          refine wpList_append_sees rfl (.tmp 57) (.tmp 58) rfl w1.heap.size _ a.length (a.map u8v) rfl HO3.out qb b cb w.heap.size rfl hqb (HSB.out.keep (HB1.out.trans (HB3.out.mono HB1.out.size))) (by omega) HB3.out.size ?_
          intro v4 w4 h1 h2
          rw [← List.map_append] at h1
          have HBO := Lib.hid (Bs.own h1)
          have HB4 := Lib.hid (HB3.out.trans h2)
          clear h1 h2
          obtain ⟨q4, c4, rfl, hc4, hq4, hs4⟩ := HBO.out
          have hab : (a ++ b).length ≤ 1000000 := by rw [List.length_append]; omega
          have HLW := Lib.hid (HL.out.keep (HB1.out.trans (HB4.out.mono HB1.out.size)) HSZ.out)
          have HC2 := Lib.hid (ccut_any (a ++ b) q4 c4 w4 hc4 hq4 hab hs4 HLW.out)
          clear hc4 hq4 hs4 HBO HO3 HE0
          obtain ⟨n4, hn4⟩ : ∃ n, n = (a ++ b).length := ⟨_, rfl⟩
          rw [← hn4] at HC2 ⊢
          clear hn4 hab
          try simp only [Act.put, List.setIfInBounds_toArray, List.set_cons_zero, List.set_cons_succ]
          refine lp_step (by kernel_rfl) (fun K hK => ?_)
          go_wp2_with fail
          refine Calls.mono (HC2.out) ?_
          rintro e w5 ⟨⟨v5, LQ, rfl, ⟨q5, c5, rfl, hlc5, hq5, hse5⟩, _, hkey5⟩, hB⟩
          have HB5 := Lib.hid (HB4.out.trans (hB.mono HB4.out.size))
          have HS5 := Lib.hid hse5
          rw [cutP_pcs, HSH.out] at hkey5
          obtain ⟨hlq, hkq⟩ := keys_at hkey5
          have HLQ := Lib.hid hlq
          have HKQ := Lib.hid hkq
          clear hkey5 hlc5 hq5 hse5 hlq hkq hB HC2
          refine hK _ _ ?_
          clear hK
          try simp only [Act.put, List.setIfInBounds_toArray, List.set_cons_zero, List.set_cons_succ]
          refine lp_pure (v := ?_) (by kernel_rfl) ?_ ?_
          rotate_left
          · go_simp; try with_reducible rfl
          try simp only [Act.put, List.setIfInBounds_toArray, List.set_cons_zero, List.set_cons_succ]
          refine wpList_nil ?_
          go_upto_region 17 with fail
          have HLL : Hid (LQ.length = LP.length + (pcs b).length) := Lib.hid (by rw [HLQ.out, HLP.out, List.length_append])
          have HP5 := Lib.hid ((HSP.out.keep HB5.out).more HB5.out.size)
          go_loopw [9] (fun v wr => ∃ j : Nat, j ≤ LP.length ∧ v = .int .i64 j ∧ Below w5.heap.size w5 wr) (fun v _ => LP.length - (intOf v).toNat)
          case atStart => exact ⟨0, by omega, rfl, Below.refl _ _⟩
          case round =>
            rename_i wr
            obtain ⟨j, hj, rfl, hB⟩ := hrel
            have HBR := Lib.hid hB
            clear hB
            by_cases hlt : j < LP.length
            · have hjq : j < LQ.length := by rw [HLL.out]; omega
              have hjx : j < (pcs a).length := by rw [← HLP.out]; exact hlt
              obtain ⟨ap, hqp, _, hcp, _⟩ := Sees.pc2 (HP5.out.keep HBR.out) hlt
              obtain ⟨aq, hqq, _, hcq, _⟩ := Sees.pc2 (HS5.out.keep HBR.out) hjq
              cases hqp
              cases hqq
              have e1 := (HKP.out j hlt hjx).1
              have e2 := (HKQ.out j hjq (by rw [List.length_append]; omega)).1
              rw [List.getElem_append_left hjx] at e2
              rw [e1] at hcp
              rw [e2] at hcq
              obtain ⟨s, hsx⟩ : ∃ s, s = shaU ((pcs a)[j]) := ⟨_, rfl⟩
              rw [← hsx] at hcp hcq
              clear hsx e1 e2
              have HCP : Hid (∀ w', Ext wr w' → ∀ k u, (encU s)[k]? = some u → w'.cell? ((ap.add (j * 33)).add k) = some u) := Lib.hid (fun w' hv => hcp w' (Below.mono hv HBR.out.size))
              have HCQ : Hid (∀ w', Ext wr w' → ∀ k u, (encU s)[k]? = some u → w'.cell? ((aq.add (j * 33)).add k) = some u) := Lib.hid (fun w' hv => hcq w' (Below.mono hv HBR.out.size))
              clear hcp hcq
              have kll : j < 1000000 := by
                have h1 := HLP.out
                have h3 : (pcs a).length ≤ a.length := by unfold pcs; rw [pieces_length]; exact endsL_count plR_ok a
                omega
              have kp : (j : Int) < (LP.length : Int) := by omega
              have kq : ¬ (j : Int) ≥ (LQ.length : Int) := by omega
              have kq2 : (j : Int) < (LQ.length : Int) := by omega
              go_upto_region 19 with fail
              refine wp_region_org [(0, true), (1, true), (2, true), (3, true), (4, true), (5, true), (6, true), (7, true), (8, true), (9, true), (10, true), (11, true), (12, true), (13, true), (14, true), (15, true), (16, true)] (by kernel_rfl) (by kernel_rfl) (by kernel_rfl) ?_
              replace HCP : Hid (∀ w', Ext wr.drew w' → ∀ k u, (encU s)[k]? = some u → w'.cell? ((ap.add (j * 33)).add k) = some u) := Lib.hid (fun w' hv => HCP.out w' (Ext.trans (Below.refl _ _).drew hv))
              replace HCQ : Hid (∀ w', Ext wr.drew w' → ∀ k u, (encU s)[k]? = some u → w'.cell? ((aq.add (j * 33)).add k) = some u) := Lib.hid (fun w' hv => HCQ.out w' (Ext.trans (Below.refl _ _).drew hv))
              replace HBR := Lib.hid HBR.out.drew
              generalize wr.drew = wd at *
              simp only [pickOrs, List.getElem?_cons_zero, List.getElem?_cons_succ]
              refine org_pure (v := ?_) (by kernel_rfl) ?_ ?_
              rotate_left
              · intro w' hv; clear hv; go_simp; try with_reducible rfl
              try simp only [Act.put, List.setIfInBounds_toArray, List.set_cons_zero, List.set_cons_succ]
              refine org_pure (v := ?_) (by kernel_rfl) ?_ ?_
              rotate_left
              · intro w' hv; clear hv; go_simp; try with_reducible rfl
              try simp only [Act.put, List.setIfInBounds_toArray, List.set_cons_zero, List.set_cons_succ]
              refine org_pure (v := ?_) (by kernel_rfl) ?_ ?_
              rotate_left
              · intro w' hv; clear hv; go_simp; try with_reducible rfl
              try simp only [Act.put, List.setIfInBounds_toArray, List.set_cons_zero, List.set_cons_succ]
              refine org_pure (v := ?_) (by kernel_rfl) ?_ ?_
              rotate_left
              · intro w' hv; clear hv; go_simp; try with_reducible rfl
              try simp only [Act.put, List.setIfInBounds_toArray, List.set_cons_zero, List.set_cons_succ]
              refine org_pure (v := ?_) (by kernel_rfl) ?_ ?_
              rotate_left
              · intro w' hv; clear hv; go_simp; try with_reducible rfl
              try simp only [Act.put, List.setIfInBounds_toArray, List.set_cons_zero, List.set_cons_succ]
              refine org_pure (v := ?_) (by kernel_rfl) ?_ ?_
              rotate_left
              · intro w' hv; clear hv; go_simp; try with_reducible rfl
              try simp only [Act.put, List.setIfInBounds_toArray, List.set_cons_zero, List.set_cons_succ]
              refine org_pure (v := ?_) (by kernel_rfl) ?_ ?_
              rotate_left
              · intro w' hv; clear hv; go_simp; try with_reducible rfl
              try simp only [Act.put, List.setIfInBounds_toArray, List.set_cons_zero, List.set_cons_succ]
              refine org_pure (v := ?_) (by kernel_rfl) ?_ ?_
              rotate_left
              · intro w' hv; clear hv; go_simp; try with_reducible rfl
              try simp only [Act.put, List.setIfInBounds_toArray, List.set_cons_zero, List.set_cons_succ]
              refine org_pure (v := ?_) (by kernel_rfl) ?_ ?_
              rotate_left
              · intro w' hv; clear hv; go_simp; try with_reducible rfl
              try simp only [Act.put, List.setIfInBounds_toArray, List.set_cons_zero, List.set_cons_succ]
              refine org_pure (by kernel_rfl) (fun w' hv => load_su 24 (.tmp 75) rfl (aq.add (j * 33)) rfl elSum.2.1 szSum s (HCQ.out _ hv)) ?_
              try simp only [Act.put, List.setIfInBounds_toArray, List.set_cons_zero, List.set_cons_succ]
              refine org_pure (v := ?_) (by kernel_rfl) ?_ ?_
              rotate_left
              · intro w' hv; clear hv; go_simp; try with_reducible rfl
              try simp only [Act.put, List.setIfInBounds_toArray, List.set_cons_zero, List.set_cons_succ]
              refine org_pure (v := ?_) (by kernel_rfl) ?_ ?_
              rotate_left
              · intro w' hv; clear hv; go_simp; try with_reducible rfl
              try simp only [Act.put, List.setIfInBounds_toArray, List.set_cons_zero, List.set_cons_succ]
              refine org_pure (v := ?_) (by kernel_rfl) ?_ ?_
              rotate_left
              · intro w' hv; clear hv; go_simp; try with_reducible rfl
              try simp only [Act.put, List.setIfInBounds_toArray, List.set_cons_zero, List.set_cons_succ]
              refine org_pure (v := ?_) (by kernel_rfl) ?_ ?_
              rotate_left
              · intro w' hv; clear hv; go_simp; try with_reducible rfl
              try simp only [Act.put, List.setIfInBounds_toArray, List.set_cons_zero, List.set_cons_succ]
              refine org_pure (by kernel_rfl) (fun w' hv => load_su 24 (.tmp 80) rfl (ap.add (j * 33)) rfl elSum.2.1 szSum s (HCP.out _ hv)) ?_
              try simp only [Act.put, List.setIfInBounds_toArray, List.set_cons_zero, List.set_cons_succ]
              refine org_pure (by kernel_rfl) (fun w' hv => neq_su 24 (.tmp 76) (.tmp 81) _ rfl s s rfl rfl elSum.2.1 gdSumP) ?_
              try simp only [Act.put, List.setIfInBounds_toArray, List.set_cons_zero, List.set_cons_succ]
              simp only [decide_true]
              refine org_pure (v := ?_) (by kernel_rfl) ?_ ?_
              rotate_left
              · intro w' hv; clear hv; go_simp; try with_reducible rfl
              try simp only [Act.put, List.setIfInBounds_toArray, List.set_cons_zero, List.set_cons_succ]
              refine org_nil ?_
              go_wp2_with fail
              go_roundw
              case rel => exact ⟨j + 1, by omega, by go_num, HBR.out⟩
              case measure => simp [intOf]; omega
            · have hjl : j = LP.length := by omega
              subst hjl
              have kp : ¬ ((LP.length : Int) < (LP.length : Int)) := by omega
              have HBX := Lib.hid (HB1.out.trans ((HB5.out.trans (HBR.out.mono HB5.out.size)).mono HB1.out.size))
              have HC3 := Lib.hid (ccut_any b qb cb wr hcb hqb (by omega) ((HSB.out.keep HBX.out).more HBX.out.size) (HL.out.keep HBX.out HSZ.out))
              clear hlt
              go_upto_region 22 with ((with_reducible refine HC3.out.mono ?_); rintro e w6 ⟨⟨v6, LR, rfl, ⟨q6, c6, rfl, _, _, _⟩, _, hkey6⟩, hB6⟩; have HB6 := Lib.hid hB6; have HK6 := Lib.hid hkey6; clear hB6 hkey6)
              have HLR : Hid (LR.length = (pcs b).length) := Lib.hid (by have := HK6.out; rw [cutP_pcs] at this; exact (keys_at this).1)
              have kf : (LQ.length : Int) = (LP.length : Int) + (LR.length : Int) := by have h1 := HLL.out; have h2 := HLR.out; omega
              have kb : LP.length ≤ 1000 ∧ LR.length ≤ 1000 := by
                have h1 := HLP.out
                have h2 := HLR.out
                have h3 : (pcs a).length ≤ a.length := by unfold pcs; rw [pieces_length]; exact endsL_count plR_ok a
                have h4 : (pcs b).length ≤ b.length := by unfold pcs; rw [pieces_length]; exact endsL_count plR_ok b
                omega
              have kw : wrap64 ((LP.length : Int) + (LR.length : Int)) = (LP.length : Int) + (LR.length : Int) := IntWalk.wrap64_in _ ⟨by omega, by omega⟩
              go_wp2_with fail
              go_ret
              exact ⟨rfl, HBX.out.trans (HB6.out.mono HBX.out.size)⟩
end Go.Proofs.YthpledfjopbchaaDoor
