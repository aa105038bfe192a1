/- Contract: slices.Compact over sums, in a row of the caller's own. Condition: at most 10^6 sums. -/
import Derived.Test.YtnkcehmgagpadaaDoorUe
import Derived.Test.YtnkcehmgagpadaaDoorUr
import Derived.Shelf.SlGeneric
import Derived.Shelf.SlSortCmp.NoneTotal
import Derived.Shelf.SlicesE.Clone
import Derived.Shelf.SlicesQ.Equal
import Derived.Shelf.SlLaysE0
import Derived.Shelf.SlLaysQ
import Derived.Test.YtnkcehmgagpadaaDoorProg
import Derived.KernelRfl
namespace Go.Proofs.YtnkcehmgagpadaaDoor
open Go.RowKit
theorem gdSum : Tryd.prog.eqGuardType Tryd.prog.depth 42 = false := by kernel_rfl
theorem RowAt.keep {w w' : World} {g : Nat} {E : TypeId} {dk : Array Su} {rest : List Value} (h : RowAt w g E dk rest) (hb : Below w.heap.size w w') : RowAt w' g E dk rest := Has.keep h hb (Has.lt h)
theorem RowAt.drew {w : World} {g : Nat} {E : TypeId} {dk : Array Su} {rest : List Value} (h : RowAt w g E dk rest) : RowAt w.drew g E dk rest := h
theorem OwnU.row {w : World} {base g cap : Nat} {E : TypeId} {M : List Su} (h : OwnU w base E (.slice (some ⟨g, 0, none⟩) M.length cap) M) : ∃ rest, RowAt w g E M.toArray rest ∧ base ≤ g ∧ M.length ≤ cap ∧ cap ≤ maxLen ∧ rest.length = (cap - M.length) * 32 := by
  rcases h.2 with ⟨h0, _⟩ | ⟨g', cap', cur, e0, hb, hg, h1, h2, h3, h4⟩
  · cases h0
  · injection e0 with e1 _ e3
    injection e1 with e1
    injection e1 with e1
    subst e1
    subst e3
    refine ⟨cur.toList.drop (M.length * 32), ?_, hb, h1, h2, ?_⟩
    · unfold RowAt Has
      rw [hg]
      have e : rowU M ++ cur.toList.drop (M.length * 32) = cur.toList := by rw [← h4, List.take_append_drop]
      simp only [e]
    · rw [List.length_drop]
      have : cur.toList.length = cap * 32 := by simpa using h3
      rw [this, ← Nat.sub_mul]
theorem RowAt.own {w : World} {base g cap : Nat} {E : TypeId} {L : List Su} {back : List Value} (h : RowAt w g E L.toArray back) (hb : base ≤ g) (h1 : L.length ≤ cap) (h2 : cap ≤ maxLen) (h3 : back.length = (cap - L.length) * 32) : OwnU w base E (.slice (some ⟨g, 0, none⟩) L.length cap) L := by
  refine ⟨rowU_len L, .inr ⟨g, cap, (rowU L ++ back).toArray, rfl, hb, h, h1, h2, ?_, ?_⟩⟩
  · simp only [List.size_toArray, List.length_append, rowU_len, h3, ← Nat.add_mul]
    congr 1; omega
  · show (rowU L ++ back).take (L.length * 32) = rowU L
    rw [List.take_append_of_le_length (by rw [rowU_len]; exact Nat.le_refl _), List.take_of_length_le (by rw [rowU_len]; exact Nat.le_refl _)]
theorem cut_lit (T E : TypeId) (hT : ElT T E) (g n c k : Nat) (hk : k ≤ n) (hkc : k < c) (w : World) : (Instr.slice T (.slice (some ⟨g, 0, none⟩) n c) (some (.int .i64 (k : Int))) none none).run Tryd.prog w = .ok (.slice (some ⟨g, k * 32, none⟩) (n - k) (c - k)) w := by
  rw [cut_su T E hT (some ⟨g, 0, none⟩) n c k hk w, if_neg (by omega), Option.map_some, add_lit', Nat.zero_add]
theorem compact_short {M : List Su} (h : M.length < 2) : Lib.compact M = M := Lib.compact_all M fun j hj => Lib.keeps_lt_one _ j (by omega)
set_option maxHeartbeats 4000000 in
theorem compactS_short (M : List Su) (q : Option Addr) (cap : Nat) (h2 : M.length < 2) (w : World) : Calls Tryd.prog 59 #[.slice q M.length cap] w fun e w' => e = .returned (.slice q M.length cap) ∧ w' = w := by
  have kk : (M.length : Int) < 2 := by omega
  go_enter Tryd.func59, Tryd.ntmps59
  go_wp2_with fail
  go_ret
  exact ⟨rfl, rfl⟩
set_option maxHeartbeats 8000000 in
set_option maxRecDepth 100000 in
theorem compactS_any (M : List Su) (g cap base : Nat) (hm : M.length ≤ 1000000) (w : World) (hO : OwnU w base 42 (.slice (some ⟨g, 0, none⟩) M.length cap) M) :
    Calls Tryd.prog 59 #[.slice (some ⟨g, 0, none⟩) M.length cap] w fun e w' => e = .returned (.slice (some ⟨g, 0, none⟩) (Lib.compact M).length cap) ∧ OwnU w' base 42 (.slice (some ⟨g, 0, none⟩) (Lib.compact M).length cap) (Lib.compact M) ∧ Below base w w' := by
  by_cases h2 : M.length < 2
  · refine (compactS_short M (some ⟨g, 0, none⟩) cap h2 w).mono ?_
    rintro e w' ⟨rfl, rfl⟩
    rw [compact_short h2]
    exact ⟨rfl, hO, Below.refl _ _⟩
  obtain ⟨rest, hR, hbg, hcap, hmax, hrest⟩ := hO.row
  have HR := Lib.hid hR
  have HX := Lib.hid hrest
  have HMX := Lib.hid hmax
  obtain ⟨d, hd⟩ : ∃ d, d = M.toArray := ⟨_, rfl⟩
  have hds : d.size = M.length := by rw [hd]; simp
  have HDS := Lib.hid hds
  have HCM : Hid (Lib.compact M = Lib.compactUpTo d d.size) := Lib.hid (by subst hd; simp [Lib.compact])
  have HDL : Hid (d.toList = M) := Lib.hid (by subst hd; simp)
  rw [← hd] at HR
  clear hR hrest hO hd hmax
  generalize hn : M.length = n at *
  have HN := Lib.hid hn
  clear hn
  have k2n : ¬ (n : Int) < 2 := by omega
  have HCUT : Hid (∀ k, k < n → ∀ w, (Instr.slice 23 (.slice (some ⟨g, 0, none⟩) n cap) (some (.int .i64 (k : Int))) none none).run Tryd.prog w = .ok (.slice (some ⟨g, k * 32, none⟩) (n - k) (cap - k)) w) := Lib.hid (fun k hk w => cut_lit _ _ elSum g n cap k (by omega) (by omega) w)
  go_enter Tryd.func59, Tryd.ntmps59
  go_wp2_with fail
  go_loopw [3] (fun v wr => ∃ k : Nat, 1 ≤ k ∧ k ≤ n ∧ v = .int .i64 k ∧ RowAt wr g 42 d rest ∧ Below base w wr ∧ ∀ j, j < k → Lib.keeps d j = true) (fun v _ => n - (intOf v).toNat)
  case atStart => exact ⟨1, by omega, by omega, rfl, HR.out, Below.refl _ _, Lib.keeps_lt_one d⟩
  case round =>
    clear HR
    rename_i wr
    obtain ⟨k, hk1, hk, rfl, hR, hB, hall⟩ := hrel
    have HR := Lib.hid hR
    have HB := Lib.hid hB
    have HALL := Lib.hid hall
    clear hR hB hall
    by_cases hlt : k < n
    · have c1 := fun w' (hb : Below wr.heap.size wr w') => (HR.out.keep hb).el k (by have := HDS.out; omega) (k * 32) rfl
      have c2 := fun w' (hb : Below wr.heap.size wr w') => (HR.out.keep hb).el (k - 1) (by have := HDS.out; omega) ((k - 1) * 32) rfl
      have HKP : Hid (d[k]! ≠ d[k - 1]! → Lib.keeps d k = true) := Lib.hid (fun h => Lib.keeps_pos h)
      have HKN : Hid (d[k]! = d[k - 1]! → Lib.keeps d k = false) := Lib.hid (fun h => Lib.keeps_neg (by omega) h)
      generalize d[k]! = u at *
      generalize d[k - 1]! = v at *
      have C1 := Lib.hid c1
      have C2 := Lib.hid c2
      clear c1 c2
      obtain ⟨p, hp⟩ : ∃ p, k = p + 1 := ⟨k - 1, by omega⟩
      have hp1 : k - 1 = p := by omega
      rw [hp1] at C2
      have kp : (k : Int) - 1 = (p : Int) := by omega
      have kwr : IntKind.i64.wrap (p : Int) = (p : Int) := IntWalk.i64_in _ (by omega)
      have hpn : (p : Int) < (n : Int) := by omega
      have hkn : (k : Int) < (n : Int) := by omega
      have HP := Lib.hid hp
      clear hp hp1
      go_wp2_with fail
      refine wp_region_org [(0, true), (1, true), (2, true), (3, true), (4, true), (5, true), (6, true), (7, true), (8, true), (9, true)] (by kernel_rfl) (by kernel_rfl) (by kernel_rfl) ?_
      replace HB := Lib.hid HB.out.drew
      replace HR := Lib.hid HR.out.drew
      replace C1 := Lib.hid (fun w' (hv : Ext wr.drew w') => C1.out w' (Below.drew (Below.refl _ wr) |>.trans hv))
      replace C2 := Lib.hid (fun w' (hv : Ext wr.drew w') => C2.out w' (Below.drew (Below.refl _ wr) |>.trans hv))
      generalize wr.drew = wd at *
      simp only [pickOrs, List.getElem?_cons_zero, List.getElem?_cons_succ]
      refine org_pure (v := ?_) (by kernel_rfl) ?_ ?_
      rotate_left
      · intro w' hv; clear hv; go_simp; try with_reducible rfl
      try simp only [Act.put, List.setIfInBounds_toArray, List.set_cons_zero, List.set_cons_succ]
      refine org_pure (v := ?_) (by kernel_rfl) ?_ ?_
      rotate_left
      · intro w' hv; clear hv; go_simp; try with_reducible rfl
      try simp only [Act.put, List.setIfInBounds_toArray, List.set_cons_zero, List.set_cons_succ]
      refine org_pure (v := ?_) (by kernel_rfl) ?_ ?_
      rotate_left
      · intro w' hv; clear hv; go_simp; try with_reducible rfl
      try simp only [Act.put, List.setIfInBounds_toArray, List.set_cons_zero, List.set_cons_succ]
      refine org_pure (by kernel_rfl) (fun w' hv => load_su 42 (.tmp 18) rfl _ rfl elSum.2.1 szSum u ((fun w' hv => C1.out w' hv) w' hv)) ?_
      try simp only [Act.put, List.setIfInBounds_toArray, List.set_cons_zero, List.set_cons_succ]
      refine org_pure (v := ?_) (by kernel_rfl) ?_ ?_
      rotate_left
      · intro w' hv; clear hv; go_simp; try with_reducible rfl
      try simp only [Act.put, List.setIfInBounds_toArray, List.set_cons_zero, List.set_cons_succ]
      refine org_pure (v := ?_) (by kernel_rfl) ?_ ?_
      rotate_left
      · intro w' hv; clear hv; go_simp; try with_reducible rfl
      try simp only [Act.put, List.setIfInBounds_toArray, List.set_cons_zero, List.set_cons_succ]
      refine org_pure (v := ?_) (by kernel_rfl) ?_ ?_
      rotate_left
      · intro w' hv; clear hv; go_simp; try with_reducible rfl
      try simp only [Act.put, List.setIfInBounds_toArray, List.set_cons_zero, List.set_cons_succ]
      refine org_pure (v := ?_) (by kernel_rfl) ?_ ?_
      rotate_left
      · intro w' hv; clear hv; go_simp; try with_reducible rfl
      try simp only [Act.put, List.setIfInBounds_toArray, List.set_cons_zero, List.set_cons_succ]
      refine org_pure (by kernel_rfl) (fun w' hv => load_su 42 (.tmp 23) rfl _ rfl elSum.2.1 szSum v ((fun w' hv => C2.out w' hv) w' hv)) ?_
      try simp only [Act.put, List.setIfInBounds_toArray, List.set_cons_zero, List.set_cons_succ]
      refine org_pure (by kernel_rfl) (fun w' hv => eql_su 42 (.tmp 19) (.tmp 24) _ rfl u v rfl rfl elSum.2.1 gdSum) ?_
      try simp only [Act.put, List.setIfInBounds_toArray, List.set_cons_zero, List.set_cons_succ]
      refine org_nil ?_
      clear C1 C2
      by_cases huv : u = v
      · have HKEEP := Lib.hid (HKN.out huv)
        rw [decide_eq_true huv]
        have hcut := HCUT.out k hlt
        have HI0 : Hid (Lib.CompInv d (k + 1) k d) := Lib.hid (Lib.CompInv.start HALL.out HKEEP.out)
        clear HKP HKN HKEEP HALL huv
        go_wp2_with fail
        go_loopw [3, 5] (fun v v5 wr => ∃ (kk k2 : Nat) (dk : Array Su), 1 ≤ k2 ∧ k + k2 ≤ n ∧ v = .int .i64 kk ∧ v5 = .int .i64 k2 ∧ RowAt wr g 42 dk rest ∧ Below base w wr ∧ Lib.CompInv d (k + k2) kk dk) (fun _ v5 _ => n - (intOf v5).toNat)
        case atStart => exact ⟨k, 1, d, by omega, by omega, rfl, rfl, HR.out, HB.out, HI0.out⟩
        case round =>
          clear HR HB HI0 hcut
          obtain ⟨kk, k2, dk, hk21, hk2, rfl, rfl, hR, hB, hI⟩ := hrel
          have HR := Lib.hid hR
          have HB := Lib.hid hB
          have HI := Lib.hid hI
          have hkk : kk < k + k2 := hI.lt
          have hsz := hI.size
          have hsz2 := HDS.out
          clear hR hB hI
          by_cases hlt2 : k + k2 < n
          · have c1 := fun w' (hb : Below wr.heap.size wr w') => (HR.out.keep hb).el (k + k2) (by omega) (k * 32 + k2 * 32) (by omega)
            have c2 := fun w' (hb : Below wr.heap.size wr w') => (HR.out.keep hb).el (k + k2 - 1) (by omega) (k * 32 + (k2 - 1) * 32) (by omega)
            rw [HI.out.high (k + k2) (by omega)] at c1
            rw [HI.out.high (k + k2 - 1) (by omega)] at c2
            have HKP : Hid (d[k + k2]! ≠ d[k + k2 - 1]! → Lib.CompInv d (k + k2 + 1) (kk + 1) (dk.setIfInBounds kk d[k + k2]!)) := Lib.hid (fun h => HI.out.keep (by omega) (Lib.keeps_pos h))
            have HKN : Hid (d[k + k2]! = d[k + k2 - 1]! → Lib.CompInv d (k + k2 + 1) kk dk) := Lib.hid (fun h => HI.out.skip (Lib.keeps_neg (by omega) h))
            generalize d[k + k2]! = x at *
            generalize d[k + k2 - 1]! = y at *
            have C1 := Lib.hid c1
            have C2 := Lib.hid c2
            clear c1 c2
            obtain ⟨p2, hp2⟩ : ∃ p, k2 = p + 1 := ⟨k2 - 1, by omega⟩
            have hp1 : k2 - 1 = p2 := by omega
            rw [hp1] at C2
            have kp2 : (k2 : Int) - 1 = (p2 : Int) := by omega
            have kwq : IntKind.i64.wrap (p2 : Int) = (p2 : Int) := IntWalk.i64_in _ (by omega)
            have hm2 : ((n - k : Nat) : Int) = (n : Int) - (k : Int) := by omega
            have hpn2 : (p2 : Int) < ((n - k : Nat) : Int) := by omega
            have hkn2 : (k2 : Int) < ((n - k : Nat) : Int) := by omega
            have hkkn : (kk : Int) < (n : Int) := by omega
            have hk2b : k2 ≤ 1000000 := by omega
            have hkkb : kk ≤ 1000000 := by omega
            have HP2 := Lib.hid hp2
            generalize n - k = m at *
            clear hp2 hp1 HI hm2 kp hpn hkn kwr
            go_wp2_with fail
            refine wp_region_org [(0, true), (1, true), (2, true), (3, true), (4, true), (5, true), (6, true), (7, true), (8, true), (9, true)] (by kernel_rfl) (by kernel_rfl) (by kernel_rfl) ?_
            replace HB := Lib.hid HB.out.drew
            replace HR := Lib.hid HR.out.drew
            replace C1 := Lib.hid (fun w' (hv : Ext wr.drew w') => C1.out w' (Below.drew (Below.refl _ wr) |>.trans hv))
            replace C2 := Lib.hid (fun w' (hv : Ext wr.drew w') => C2.out w' (Below.drew (Below.refl _ wr) |>.trans hv))
            generalize wr.drew = wd2 at *
            simp only [pickOrs, List.getElem?_cons_zero, List.getElem?_cons_succ]
            refine org_pure (v := ?_) (by kernel_rfl) ?_ ?_
            rotate_left
            · intro w' hv; clear hv; go_simp; try with_reducible rfl
            try simp only [Act.put, List.setIfInBounds_toArray, List.set_cons_zero, List.set_cons_succ]
            refine org_pure (v := ?_) (by kernel_rfl) ?_ ?_
            rotate_left
            · intro w' hv; clear hv; go_simp; try with_reducible rfl
            try simp only [Act.put, List.setIfInBounds_toArray, List.set_cons_zero, List.set_cons_succ]
            refine org_pure (v := ?_) (by kernel_rfl) ?_ ?_
            rotate_left
            · intro w' hv; clear hv; go_simp; try with_reducible rfl
            try simp only [Act.put, List.setIfInBounds_toArray, List.set_cons_zero, List.set_cons_succ]
            refine org_pure (by kernel_rfl) (fun w' hv => load_su 42 (.tmp 37) rfl _ rfl elSum.2.1 szSum x ((fun w' hv => C1.out w' hv) w' hv)) ?_
            try simp only [Act.put, List.setIfInBounds_toArray, List.set_cons_zero, List.set_cons_succ]
            refine org_pure (v := ?_) (by kernel_rfl) ?_ ?_
            rotate_left
            · intro w' hv; clear hv; go_simp; try with_reducible rfl
            try simp only [Act.put, List.setIfInBounds_toArray, List.set_cons_zero, List.set_cons_succ]
            refine org_pure (v := ?_) (by kernel_rfl) ?_ ?_
            rotate_left
            · intro w' hv; clear hv; go_simp; try with_reducible rfl
            try simp only [Act.put, List.setIfInBounds_toArray, List.set_cons_zero, List.set_cons_succ]
            refine org_pure (v := ?_) (by kernel_rfl) ?_ ?_
            rotate_left
            · intro w' hv; clear hv; go_simp; try with_reducible rfl
            try simp only [Act.put, List.setIfInBounds_toArray, List.set_cons_zero, List.set_cons_succ]
            refine org_pure (v := ?_) (by kernel_rfl) ?_ ?_
            rotate_left
            · intro w' hv; clear hv; go_simp; try with_reducible rfl
            try simp only [Act.put, List.setIfInBounds_toArray, List.set_cons_zero, List.set_cons_succ]
            refine org_pure (by kernel_rfl) (fun w' hv => load_su 42 (.tmp 42) rfl _ rfl elSum.2.1 szSum y ((fun w' hv => C2.out w' hv) w' hv)) ?_
            try simp only [Act.put, List.setIfInBounds_toArray, List.set_cons_zero, List.set_cons_succ]
            refine org_pure (by kernel_rfl) (fun w' hv => neq_su 42 (.tmp 38) (.tmp 43) _ rfl x y rfl rfl elSum.2.1 gdSum) ?_
            try simp only [Act.put, List.setIfInBounds_toArray, List.set_cons_zero, List.set_cons_succ]
            refine org_nil ?_
            have C3 := Lib.hid (C1.out wd2 (Ext.refl _))
            clear C1 C2
            by_cases hxy : x = y
            · have HNEW := Lib.hid (HKN.out hxy)
              rw [decide_eq_true hxy]
              clear HKP HKN hxy C3
              go_wp2_with fail
              go_roundw
              case rel => exact ⟨kk, k2 + 1, dk, by omega, by omega, rfl, by go_num, HR.out, HB.out, HNEW.out⟩
              case measure => simp [intOf]; omega
            · have HNEW := Lib.hid (HKP.out hxy)
              rw [decide_eq_false hxy]
              clear HKP HKN hxy
              have HPUT := Lib.hid (HR.out.put kk (by omega) x)
              have HBP := Lib.hid (below_setCells hbg (encU x) (kk * 32) _ HB.out)
              go_wp2_with (first
                | (refine wpList_load_su rfl 42 (.tmp 49) rfl _ rfl elSum.2.1 szSum x C3.out ?_)
                | (refine wpList_store_su rfl 42 szSum (.tmp 51) (.tmp 50) rfl g kk _ (by omega) rfl x rfl HR.out (by omega) ?_))
              go_roundw
              case rel => exact ⟨kk + 1, k2 + 1, dk.setIfInBounds kk x, by omega, by omega, by go_num, by go_num, HPUT.out, HBP.out, HNEW.out⟩
              case measure => simp [intOf]; omega
          · have hend : k + k2 = n := by omega
            have hcut2 := HCUT.out kk (by omega)
            have hclr := fun ty => run_clear_su 23 42 elSum wr g kk (n - kk) (cap - kk) ty (by omega) HR.out (by omega) (kk * 32) rfl
            have hhd := fun w' => head_su 23 42 elSum (some ⟨g, 0, none⟩) n cap kk (by omega) w'
            obtain ⟨back, hrow, hbl⟩ := HR.out.cleared kk (n - kk) (by omega)
            have HROW := Lib.hid hrow
            have HBL := Lib.hid hbl
            have HBP := Lib.hid (below_setCells hbg (List.replicate ((n - kk) * 32) (Value.int .u8 0)) (kk * 32) _ HB.out)
            have hm2 : ((n - k : Nat) : Int) = (n : Int) - (k : Int) := by omega
            have hkn2 : ¬ (k2 : Int) < ((n - k : Nat) : Int) := by omega
            have HFIN : Hid (Lib.compact M = dk.toList.take kk) := Lib.hid (by
              rw [HCM.out]
              have hI := HI.out
              have hlow := hI.low
              have hlen := hI.len
              rw [hend] at hlow hlen
              rw [HDS.out]
              refine List.ext_getElem? fun j => ?_
              by_cases hj : j < kk
              · rw [hlow j hj, List.getElem?_take_of_lt hj, getElem!_pos dk j (by omega)]
                simp
              · rw [List.getElem?_eq_none (by omega), List.getElem?_eq_none (by rw [List.length_take]; omega)])
            have HLEN : Hid ((dk.toList.take kk).length = kk) := Lib.hid (by rw [List.length_take]; simp; omega)
            clear hrow hbl
            generalize hmm : n - k = m at *
            have hkk9 : kk ≤ n := by omega
            have hn9 := HDS.out
            go_wp2_with fail
            go_ret
            have hown := RowAt.own (base := base) HROW.out hbg (cap := cap) (by rw [HLEN.out]; omega) HMX.out (by rw [HLEN.out, HBL.out, HX.out, ← Nat.add_mul]; congr 1; omega)
            rw [HFIN.out]
            rw [HLEN.out] at hown ⊢
            exact ⟨rfl, hown, HBP.out⟩
      · have HKEEP := Lib.hid (HKP.out huv)
        rw [decide_eq_false huv]
        clear HKP HKN huv
        go_wp2_with fail
        go_roundw
        case rel => exact ⟨k + 1, by omega, by omega, by go_num, HR.out, HB.out, fun j hj => by
          by_cases e : j = k
          · subst e; exact HKEEP.out
          · exact HALL.out j (by omega)⟩
        case measure => simp [intOf]; omega
    · have hkn : k = n := by omega
      subst hkn
      have HFIN : Hid (Lib.compact M = M) := Lib.hid (Lib.compact_all M fun j hj => by
        have := HALL.out j (by have := HN.out; omega)
        rw [show M.toArray = d by rw [← HDL.out]]
        exact this)
      have kk : ¬ (k : Int) < (k : Int) := by omega
      go_wp2_with fail
      go_ret
      rw [HFIN.out]
      have hL : M.length = k := HN.out
      have hR2 : RowAt wr g 42 M.toArray rest := by rw [show M.toArray = d by rw [← HDL.out]]; exact HR.out
      rw [hL]
      have hown := RowAt.own (base := base) hR2 hbg (cap := cap) (by omega) HMX.out (by rw [hL]; exact HX.out)
      rw [hL] at hown
      exact ⟨rfl, hown, HB.out⟩
end Go.Proofs.YtnkcehmgagpadaaDoor
/- slices.SortFunc, Clone, Equal over sums, by this dump’s numbers: applications of the library’s own contracts. Conditions: those of the library. -/
namespace Go.Proofs.YtnkcehmgagpadaaDoor
open Go.Shelf Go.RowKit
def laysSortU_ren : Go.Shelf.Ren := ⟨fun | 6 => 57 | 15 => 72 | 14 => 71 | 28 => 88 | 29 => 89 | 20 => 80 | 21 => 81 | 22 => 82 | 23 => 83 | 24 => 84 | 25 => 85 | 26 => 86 | 27 => 87 | 46 => 92 | 47 => 93 | 48 => 94 | 49 => 95 | 50 => 96 | 57 => 97 | n => n, fun | 22 => 23 | 24 => 42 | 25 => 101 | 3 => 3 | 39 => 71 | 0 => 0 | 53 => 75 | 55 => 25 | 4 => 4 | 46 => 126 | 45 => 125 | 50 => 130 | 5 => 5 | 9 => 9 | 66 => 135 | 70 => 139 | 76 => 141 | 77 => 142 | n => n, fun | n => n⟩
theorem laysSortU : Go.Proofs.SlLaysF0.n6 Tryd.prog laysSortU_ren := {
  mixed := by kernel_rfl
  f6 := ⟨Tryd.f57.name, by decide, Tryd.func57.trans (congrArg some (by kernel_rfl))⟩
  f14 := ⟨Tryd.f71.name, by decide, Tryd.func71.trans (congrArg some (by kernel_rfl))⟩
  f15 := Tryd.func72.trans (congrArg some (by kernel_rfl))
  f20 := ⟨Tryd.f80.name, by decide, Tryd.func80.trans (congrArg some (by kernel_rfl))⟩
  f21 := ⟨Tryd.f81.name, by decide, Tryd.func81.trans (congrArg some (by kernel_rfl))⟩
  f22 := ⟨Tryd.f82.name, by decide, Tryd.func82.trans (congrArg some (by kernel_rfl))⟩
  f23 := ⟨Tryd.f83.name, by decide, Tryd.func83.trans (congrArg some (by kernel_rfl))⟩
  f24 := ⟨Tryd.f84.name, by decide, Tryd.func84.trans (congrArg some (by kernel_rfl))⟩
  f25 := ⟨Tryd.f85.name, by decide, Tryd.func85.trans (congrArg some (by kernel_rfl))⟩
  f26 := ⟨Tryd.f86.name, by decide, Tryd.func86.trans (congrArg some (by kernel_rfl))⟩
  f27 := ⟨Tryd.f87.name, by decide, Tryd.func87.trans (congrArg some (by kernel_rfl))⟩
  f28 := Tryd.func88.trans (congrArg some (by kernel_rfl))
  f29 := Tryd.func89.trans (congrArg some (by kernel_rfl))
  f46 := ⟨Tryd.f92.name, by decide, Tryd.func92.trans (congrArg some (by kernel_rfl))⟩
  f47 := Tryd.func93.trans (congrArg some (by kernel_rfl))
  f48 := Tryd.func94.trans (congrArg some (by kernel_rfl))
  f49 := ⟨Tryd.f95.name, by decide, Tryd.func95.trans (congrArg some (by kernel_rfl))⟩
  f50 := ⟨Tryd.f96.name, by decide, Tryd.func96.trans (congrArg some (by kernel_rfl))⟩
  f57 := ⟨Tryd.f97.name, by decide, Tryd.func97.trans (congrArg some (by kernel_rfl))⟩
  t0 := Tryd.underlying0
  a0 := Tryd.isAgg0
  z0 := Tryd.sizeOf0
  v0 := Tryd.zeroValue0
  t3 := Tryd.underlying3
  a3 := Tryd.isAgg3
  z3 := Tryd.sizeOf3
  v3 := Tryd.zeroValue3
  t4 := Tryd.underlying4
  a4 := Tryd.isAgg4
  z4 := Tryd.sizeOf4
  v4 := Tryd.zeroValue4
  t5 := Tryd.underlying5
  a5 := Tryd.isAgg5
  z5 := Tryd.sizeOf5
  v5 := Tryd.zeroValue5
  t9 := Tryd.underlying9
  a9 := Tryd.isAgg9
  z9 := Tryd.sizeOf9
  v9 := Tryd.zeroValue9
  t22 := Tryd.underlying23
  a22 := Tryd.isAgg23
  z22 := Tryd.sizeOf23
  v22 := Tryd.zeroValue23
  t25 := Tryd.underlying101
  a25 := Tryd.isAgg101
  z25 := Tryd.sizeOf101
  v25 := Tryd.zeroValue101
  t39 := Tryd.underlying71
  a39 := Tryd.isAgg71
  z39 := Tryd.sizeOf71
  v39 := Tryd.zeroValue71
  t45 := Tryd.underlying125
  a45 := Tryd.isAgg125
  z45 := Tryd.sizeOf125
  v45 := Tryd.zeroValue125
  t46 := Tryd.underlying126
  a46 := Tryd.isAgg126
  z46 := Tryd.sizeOf126
  v46 := Tryd.zeroValue126
  t50 := Tryd.underlying130
  a50 := Tryd.isAgg130
  z50 := Tryd.sizeOf130
  v50 := Tryd.zeroValue130
  t53 := Tryd.underlying75
  a53 := Tryd.isAgg75
  z53 := Tryd.sizeOf75
  v53 := Tryd.zeroValue75
  t55 := Tryd.underlying25
  a55 := Tryd.isAgg25
  z55 := Tryd.sizeOf25
  v55 := Tryd.zeroValue25
  t66 := Tryd.underlying135
  a66 := Tryd.isAgg135
  z66 := Tryd.sizeOf135
  v66 := Tryd.zeroValue135
  t70 := Tryd.underlying139
  a70 := Tryd.isAgg139
  z70 := Tryd.sizeOf139
  v70 := Tryd.zeroValue139
  t76 := Tryd.underlying141
  a76 := Tryd.isAgg141
  z76 := Tryd.sizeOf141
  v76 := Tryd.zeroValue141
  t77 := Tryd.underlying142
  a77 := Tryd.isAgg142
  z77 := Tryd.sizeOf142
  v77 := Tryd.zeroValue142 }
end Go.Proofs.YtnkcehmgagpadaaDoor
/- Contracts: slices.SortFunc, slices.Clone over sums; package set's Of, inOrder. Condition: at most 10^6 sums. -/
namespace Go.Proofs.YtnkcehmgagpadaaDoor
open Go.RowKit Go.Sort
theorem flatU (d : Array Su) : flatK encU 32 d = (rowU d.toList).toArray := by
  refine Array.ext (by simp [rowU_len]) fun t h1 h2 => ?_
  have ht : t < d.size * 32 := by simpa using h1
  have hi : t / 32 < d.toList.length := by simp; omega
  have h3 := get_flatK encU 32 d t ht
  rw [getElem!_pos (flatK encU 32 d) t h1] at h3
  rw [h3]
  have h4 := rowU_get d.toList (t / 32) hi (t % 32) (Nat.mod_lt _ (by decide))
  rw [show t / 32 * 32 + t % 32 = t by omega] at h4
  have h5 : t % 32 < (encU d.toList[t / 32]).length := by rw [encU_len]; exact Nat.mod_lt _ (by decide)
  rw [List.getElem?_eq_getElem h5, List.getElem?_eq_getElem (by simpa using h2)] at h4
  have h6 := Option.some.inj h4
  rw [getElem!_pos d (t / 32) (by simpa using hi), getElem!_pos (encU d[t / 32]) (t % 32) (by simpa using h5)]
  simpa using h6.symm
theorem RowAt.holds {w : World} {g : Nat} {E : TypeId} {dk : Array Su} {rest : List Value} (h : RowAt w g E dk rest) : HoldsK encU 32 w g 0 dk := fun j hj => by
  rw [flatU] at hj ⊢
  have hj' : j < (rowU dk.toList).length := by simpa using hj
  refine ⟨?_, Has.free h _⟩
  rw [Has.cell h, Nat.zero_add, List.getElem?_append_left hj', List.getElem?_eq_getElem hj', getElem!_pos (rowU dk.toList).toArray j hj]
  simp
theorem RowAt.sorted {w : World} {g : Nat} {E : TypeId} {dk d2 : Array Su} {rest : List Value} (h : RowAt w g E dk rest) (hs : d2.size = dk.size) (n : Nat) (os : Array Obj) : RowAt (sortWorldK encU 32 w g 0 n d2 os) g E d2 rest := by
  have hg : g < w.heap.size := Has.lt h
  unfold RowAt Has at h ⊢
  unfold sortWorldK putRowK
  rw [heap_grow_old _ _ (by simpa [putRow, mapBlock, Sort.ahead] using hg)]
  simp only [putRow, mapBlock, Sort.ahead, Array.getElem?_modify, h, onCells, if_true, Option.map_some]
  congr 2
  rw [flatU]
  unfold putCells
  have hl1 := rowU_len d2.toList
  have hl2 := rowU_len dk.toList
  have hz : d2.toList.length = dk.toList.length := by simpa using hs
  refine Array.ext (by simp [hl1, hl2, hz]) fun k h1 h2 => ?_
  simp only [Array.getElem_mapIdx, List.size_toArray, Nat.zero_add, Nat.zero_le, true_and, Nat.sub_zero, id]
  by_cases hk : k < (rowU d2.toList).length
  · rw [if_pos hk, getElem!_pos (rowU d2.toList).toArray k (by simpa using hk)]
    simp [List.getElem_append_left hk]
  · rw [if_neg hk]
    simp only [List.getElem_toArray]
    rw [List.getElem_append_right (by rw [hl2, ← hz, ← hl1]; omega), List.getElem_append_right (by omega)]
    congr 1
    rw [hl1, hl2, hz]
theorem below_sorted {w : World} {base g n : Nat} (hb : base ≤ g) (hs : base ≤ w.heap.size) (d : Array Su) (os : Array Obj) : Below base w (sortWorldK encU 32 w g 0 n d os) := by
  refine ⟨rfl, rfl, rfl, ?_, fun k hk => ?_⟩
  · unfold sortWorldK putRowK; show w.heap.size ≤ _; simp [grow, putRow, mapBlock, Sort.ahead]
  · unfold sortWorldK putRowK
    rw [heap_grow_old _ _ (by simp [putRow, mapBlock, Sort.ahead]; omega)]
    have : g ≠ k := by omega
    simp [putRow, mapBlock, Sort.ahead, Array.getElem?_modify, this]
theorem sortS_any (M : List Su) (g cap base : Nat) (hm : M.length ≤ 1000000) (w : World) (hO : OwnU w base 42 (.slice (some ⟨g, 0, none⟩) M.length cap) M) (hb : base ≤ w.heap.size) :
    Calls Tryd.prog 57 #[.slice (some ⟨g, 0, none⟩) M.length cap, .func (.func 58) #[] #[]] w fun e w' => e = .returned (.tuple #[]) ∧ OwnU w' base 42 (.slice (some ⟨g, 0, none⟩) M.length cap) (M.mergeSort fun x y => !(ltOf cmpU) y x) ∧ Below base w w' := by
  obtain ⟨rest, hR, hbg, hcap, hmax, hrest⟩ := hO.row
  have eg : ∀ args w, (callFunc 58 args).run Tryd.prog w = .ok (.enter 58 args) w := enters_of Tryd.func58 (by kernel_rfl) rfl
  have hcmp : CmpLays Tryd.prog 58 #[] encU 32 cmpU g 0 M.toArray.size w := fun m os dk _ x y => cmpg_any x.1 y.1 x.2 y.2 _
  have h := AnyQ.slices_SortFunc_total laysSortU 32 Tryd.isAgg42 Tryd.sizeOf42 encU encU_len encU_one cmpU swoU 58 #[] g 0 cap M.toArray w eg hcmp hR.holds (Has.lt hR) (by simp; omega) partedU
  have hz : M.toArray.size = M.length := by simp
  rw [hz] at h
  refine Calls.mono h fun e w' ⟨he, n, os, hw⟩ => ⟨he, ?_, ?_⟩
  · have hp := (sortU_facts M).1.length_eq
    have h2 := RowAt.sorted hR (d2 := (M.mergeSort fun x y => !(ltOf cmpU) y x).toArray) (by simp [hp]) n os
    rw [show M.toArray.toList = M from rfl] at hw
    rw [← hw] at h2
    have h3 := RowAt.own (base := base) h2 hbg (cap := cap) (by omega) hmax (by rw [hp]; exact hrest)
    rw [hp] at h3
    exact h3
  · rw [hw]; exact below_sorted hbg hb _ _
theorem sortNoneS (q : Option Addr) (c : Nat) (fv : Value) (w : World) : Calls Tryd.prog 57 #[.slice q 0 c, fv] w fun e w' => e = .returned (.tuple #[]) ∧ w' = w := AnyF.slices_SortFunc_none { laysSortU with } q c fv w
set_option maxHeartbeats 4000000 in
set_option maxRecDepth 100000 in
theorem cloneS_any (L : List Su) (q : Option Addr) (c : Nat) (hm : L.length ≤ 1000000) (w : World) (hs : Sees w w.heap.size q (rowU L)) :
    Calls Tryd.prog 56 #[.slice q L.length c] w fun e w' => (∃ v, e = .returned v ∧ OwnU w' w.heap.size 42 v L) ∧ Below w.heap.size w w' := by
  have HS := Lib.hid hs
  clear hs
  have hq := fun w a n c n' c' => Lib.run_eql_slice_nil (P := Tryd.prog) w 23 42 a n c n' c' Tryd.underlying23
  rcases q with _ | a
  · have h0 : L = [] := by
      rcases L with _ | ⟨y, L⟩
      · rfl
      · obtain ⟨a, h1, _⟩ := HS.out.get (by rw [rowU_len, List.length_cons]; omega)
        cases h1
    subst h0
    go_enter Tryd.func56, Tryd.ntmps56
    go_wp2_with fail
    go_ret
    exact ⟨⟨_, rfl, OwnU.nil _ _ _⟩, Below.refl _ _⟩
  · have HN := Lib.hid (run_none_su 23 42 elSum w)
    have HO := Lib.hid (OwnU.empty w w.heap.size 42 (Nat.le_refl _))
    have HB := Lib.hid ((Below.refl w.heap.size w).alloc (Nat.le_refl _) (.cells #[] 42))
    have HL : Hid (0 + L.length ≤ 4000000) := Lib.hid (by omega)
    have hrn := HN.out
    go_enter Tryd.func56, Tryd.ntmps56
    go_wp2_with (refine wpList_append_su rfl 23 42 elSum (.tmp 5) (.tmp 6) rfl w.heap.size _ [] rfl HO.out (some a) L L.length c w.heap.size rfl rfl (fun h => by cases h) (HS.out.keep HB.out) HL.out (by simp) ?_; intro v3 w3 h1 h2; have HO3 := Lib.hid h1; have HB3 := Lib.hid (HB.out.trans h2); clear h1 h2)
    go_ret
    exact ⟨⟨_, rfl, HO3.out⟩, HB3.out⟩
set_option maxHeartbeats 4000000 in
theorem setOf_any (L : List Su) (q : Option Addr) (c : Nat) (hm : L.length ≤ 1000000) (w : World) (hs : Sees w w.heap.size q (rowU L)) :
    Calls Tryd.prog 30 #[.slice q L.length c] w fun e w' => (∃ v, e = .returned v ∧ OwnU w' w.heap.size 42 v (srt L)) ∧ Below w.heap.size w w' := by
  have HC := Lib.hid (cloneS_any L q c hm w hs)
  clear hs
  go_enter Tryd.func30, Tryd.ntmps30
  go_upto_region 2 with ((with_reducible refine HC.out.mono ?_); rintro e w1 ⟨⟨v1, rfl, h1⟩, h2⟩; have HO1 := Lib.hid h1; have HB1 := Lib.hid h2; clear h1 h2)
  rcases HO1.out.2 with ⟨rfl, h0⟩ | ⟨g, cap, cur, rfl, hg⟩
  · have hL : L = [] := List.eq_nil_of_length_eq_zero h0
    subst hL
    clear HO1 HC
    have HCS : Hid (∀ w1, Calls Tryd.prog 59 #[.slice none 0 0] w1 fun e w' => e = .returned (.slice none 0 0) ∧ w' = w1) := Lib.hid (fun w1 => compactS_short [] none 0 (by decide) w1)
    go_wp2_with (first | ((with_reducible refine (sortNoneS _ _ _ _).mono ?_); rintro e w2 ⟨rfl, rfl⟩) | ((with_reducible refine (HCS.out _).mono ?_); rintro e w2 ⟨rfl, rfl⟩))
    go_ret
    exact ⟨⟨_, rfl, OwnU.nil _ _ _⟩, HB1.out⟩
  · have HS := Lib.hid (sortS_any L g cap w.heap.size hm w1 HO1.out HB1.out.size)
    have HLM : Hid ((L.mergeSort fun x y => !(ltOf cmpU) y x).length = L.length) := Lib.hid (sortU_facts L).1.length_eq
    have HFIN : Hid (Lib.compact (L.mergeSort fun x y => !(ltOf cmpU) y x) = srt L) := Lib.hid (of_srt L)
    generalize (L.mergeSort fun x y => !(ltOf cmpU) y x) = M at *
    clear hg HO1 HC
    have HCO : Hid (∀ w2, OwnU w2 w.heap.size 42 (.slice (some ⟨g, 0, none⟩) L.length cap) M → Calls Tryd.prog 59 #[.slice (some ⟨g, 0, none⟩) L.length cap] w2 fun e w' => e = .returned (.slice (some ⟨g, 0, none⟩) (srt L).length cap) ∧ OwnU w' w.heap.size 42 (.slice (some ⟨g, 0, none⟩) (srt L).length cap) (srt L) ∧ Below w.heap.size w2 w') := Lib.hid (fun w2 h => by
      have h2 := compactS_any M g cap w.heap.size (by rw [HLM.out]; exact hm) w2 (by rw [HLM.out]; exact h)
      rw [HLM.out, HFIN.out] at h2
      exact h2)
    clear HLM HFIN
    go_wp2_with (first | ((with_reducible refine HS.out.mono ?_); rintro e w2 ⟨rfl, h1, h2⟩; have HO2 := Lib.hid h1; have HB2 := Lib.hid (HB1.out.trans h2); clear h1 h2) | ((with_reducible refine (HCO.out _ HO2.out).mono ?_); rintro e w3 ⟨rfl, h1, h2⟩; have HO3 := Lib.hid h1; have HB3 := Lib.hid (HB2.out.trans h2); clear h1 h2))
    go_ret
    exact ⟨⟨_, rfl, HO3.out⟩, HB3.out⟩
set_option maxHeartbeats 4000000 in
theorem inOrder_any (L : List Su) (q : Option Addr) (c : Nat) (hm : L.length ≤ 1000000) (hc : L.length ≤ c) (hq : q = none → c = 0) (w : World) (hs : Sees w w.heap.size q (rowU L)) :
    Calls Tryd.prog 67 #[.slice q L.length c] w fun e w' => (∃ v, e = .returned v ∧ Us w' v (srt L)) ∧ Below w.heap.size w w' := by
  have HR := Lib.hid (rises_any L q c (by omega) w hs)
  have HF : Hid (∀ w1, Below w.heap.size w w1 → Calls Tryd.prog 30 #[.slice q L.length c] w1 fun e w' => (∃ v, e = .returned v ∧ OwnU w' w1.heap.size 42 v (srt L)) ∧ Below w1.heap.size w1 w') := Lib.hid (fun w1 hb => setOf_any L q c hm w1 ((hs.keep hb).more hb.size))
  have HS := Lib.hid hs
  clear hs
  by_cases ha : AscU L
  · rw [decide_eq_true ha] at HR
    have HE := Lib.hid (srt_asc ha)
    clear ha HF
    go_enter Tryd.func67, Tryd.ntmps67
    go_wp2_with ((with_reducible refine HR.out.mono ?_); rintro e w1 ⟨rfl, h1⟩; have HB1 := Lib.hid h1; clear h1)
    go_ret
    refine ⟨⟨_, rfl, ?_⟩, HB1.out⟩
    rw [HE.out]
    exact ⟨q, c, rfl, hc, hq, (HS.out.keep HB1.out).more HB1.out.size⟩
  · rw [decide_eq_false ha] at HR
    clear ha HS
    go_enter Tryd.func67, Tryd.ntmps67
    go_wp2_with (first | ((with_reducible refine HR.out.mono ?_); rintro e w1 ⟨rfl, h1⟩; have HB1 := Lib.hid h1; clear h1) | ((with_reducible refine (HF.out _ HB1.out).mono ?_); rintro e w2 ⟨⟨v2, rfl, h1⟩, h2⟩; have HO2 := Lib.hid h1; have HB2 := Lib.hid (HB1.out.trans (h2.mono HB1.out.size)); clear h1 h2))
    go_ret
    exact ⟨⟨_, rfl, HO2.out.us⟩, HB2.out⟩
end Go.Proofs.YtnkcehmgagpadaaDoor
