/- The walk of the law RollReset: it returns true. No condition but that the arguments are of their types. -/
import Derived.Test.YtaeoaaajkcnbkaaAwake
import Derived.Test.YtaeoaaajkcnbkaaOrg
import Derived.OpenShut
namespace Go.Proofs.Ytaeoaaajkcnbkaa
open Go.RowKit
def roOrder : List (Nat × Bool) := [(0, true), (1, true), (2, true), (3, true), (4, true), (6, true), (7, true), (8, true), (9, true), (10, true), (5, false), (11, false), (12, true), (13, true), (14, true), (16, true), (15, false), (17, false), (18, true), (19, true), (20, true), (21, true), (23, true), (22, false), (24, false), (25, true), (26, true)]
theorem beq_self_int (x : Int) : (x == x) = true := by simp
theorem bne_self_int (x : Int) : (x != x) = false := by simp
theorem reset_quick (n : Int) (a b : List (BitVec 8)) (q : Option Addr) (c : Nat) (p : Option Addr) (d : Nat) (w : World) (h : 100 < a.length ∨ 100 < b.length) :
    Calls Try.prog 6 #[.int .i64 n, .slice q a.length c, .slice p b.length d] w fun e w' => e = .returned (.bool true) ∧ Below w.heap.size w w' := by
  have HA := Lib.hid (awake_any w)
  by_cases c1 : 100 < a.length
  · have k1 : (100 : Int) < (a.length : Int) := by omega
    clear h
    go_enter Try.func6, Try.ntmps6
    go_wp2_with fail
    refine HA.out.mono ?_
    rintro e w1 ⟨rfl, hb1⟩
    have HB := Lib.hid hb1
    clear hb1
    go_wp2_with fail
    go_ret
    exact ⟨rfl, HB.out⟩
  · have k1 : ¬ (100 : Int) < (a.length : Int) := by omega
    have k2 : (100 : Int) < (b.length : Int) := by omega
    clear h
    go_enter Try.func6, Try.ntmps6
    go_wp2_with fail
    refine HA.out.mono ?_
    rintro e w1 ⟨rfl, hb1⟩
    have HB := Lib.hid hb1
    clear hb1
    go_wp2_with fail
    go_ret
    exact ⟨rfl, HB.out⟩
set_option maxHeartbeats 4000000 in
set_option maxRecDepth 100000 in
theorem reset_law (n : Int) (a b : List (BitVec 8)) (q : Option Addr) (c : Nat) (p : Option Addr) (d : Nat) (w : World) (hs : Sees w w.heap.size q (a.map u8v)) (ht : Sees w w.heap.size p (b.map u8v)) :
    Calls Try.prog 6 #[.int .i64 n, .slice q a.length c, .slice p b.length d] w fun e w' => e = .returned (.bool true) ∧ Below w.heap.size w w' := by
  by_cases hquick : 100 < a.length ∨ 100 < b.length
  · exact reset_quick n a b q c p d w hquick
  · have hal : a.length ≤ 100 := by omega
    have hbl : b.length ≤ 100 := by omega
    obtain ⟨m1, m2⟩ := hw_bd n
    have HN := Lib.hid (fun w1 => new_any n w1)
    generalize hw n = m at *
    have HA := Lib.hid (awake_any w)
    have k1 : ¬ (100 : Int) < (a.length : Int) := by omega
    have k2 : ¬ (100 : Int) < (b.length : Int) := by omega
    have HS := Lib.hid hs
    have HT := Lib.hid ht
    clear hquick hs ht
    go_enter Try.func6, Try.ntmps6
    go_wp2_with fail
    refine HA.out.mono ?_
    rintro e w1 ⟨rfl, hb1⟩
    have HB1 := Lib.hid hb1
    clear hb1 HA
    go_wp2_with fail
    refine (HN.out w1).mono ?_
    rintro e w2 ⟨rfl, hx2, hb2, hz2⟩
    have HZ := Lib.hid hb2.size
    have HB2 := Lib.hid (HB1.out.trans (hb2.mono HB1.out.size))
    have HX2 := Lib.hid hx2
    have HL : Hid (w1.heap.size < w2.heap.size ∧ w.heap.size ≤ w1.heap.size) := Lib.hid ⟨by omega, HB1.out.size⟩
    clear hx2 hb2 hz2 HB1 HZ
    generalize w1.heap.size = gx at *
    go_wp2_with fail
    refine (HN.out w2).mono ?_
    rintro e w3 ⟨rfl, hy3, hb3, hz3⟩
    have hB3 := HB2.out.trans (hb3.mono HB2.out.size)
    have hX3 := HX2.out.keep hb3 HL.out.1
    have hY3 := hy3
    have hW0 := HL.out.2
    have hgg : gx < w2.heap.size := HL.out.1
    clear hy3 hb3 hz3 HB2 HX2 HL HN
    generalize w2.heap.size = gy at *
    go_wp2_with fail
    go_loopw [9] (fun i wr => ∃ k : Nat, k ≤ a.length ∧ i = .int .i64 k ∧ WinAt wr gx m (a.take k) ∧ WinAt wr gy m [] ∧ Below w.heap.size w wr) (fun i _ => a.length - (intOf i).toNat)
    case atStart => exact ⟨0, by omega, rfl, hX3, hY3, hB3⟩
    case round =>
      clear hX3 hY3 hB3
      rename_i wr
      obtain ⟨k, hk, rfl, hX, hY, hB⟩ := hrel
      by_cases hlt : k < a.length
      · obtain ⟨ad, rfl, _, hcell⟩ := (HS.out.keep hB) (by rw [List.length_map]; omega)
        have cx := hcell k _ (at8_of a k hlt)
        have H1 := Lib.hid (add_any wr gx m (a.take k) (at8 a k) m1 m2 hX)
        rw [← take_at8 a k hlt] at H1
        generalize rsum (lastN m (a.take (k + 1))) = s at *
        generalize at8 a k = x at *
        have HY := Lib.hid hY
        have HB := Lib.hid hB
        clear hcell hX hY hB
        go_wp2_with ((with_reducible refine H1.out.mono ?_); rintro e w4 ⟨rfl, hX4, hO4⟩; have HX4 := Lib.hid hX4; have HO4 := Lib.hid hO4; clear hX4 hO4)
        go_roundw
        case rel => exact ⟨k + 1, by omega, by go_num, HX4.out, HY.out.only HO4.out (by omega), HB.out.trans (HO4.out.below.mono (by omega))⟩
        case measure => simp [intOf]; omega
      · have hkl : k = a.length := by omega
        have H1 := Lib.hid (reset_any wr gx m (a.take k) hX)
        have HY := Lib.hid hY
        have HB := Lib.hid hB
        have k3 : ¬ (k : Int) < (a.length : Int) := by omega
        clear hX hY hB hlt hkl
        go_wp2_with ((with_reducible refine H1.out.mono ?_); rintro e w4 ⟨rfl, hX4, hO4⟩; have HX4 := Lib.hid hX4; have HO4 := Lib.hid hO4; clear hX4 hO4)
        have hY4 := HY.out.only HO4.out (by omega)
        have hB4 := HB.out.trans (HO4.out.below.mono (by omega))
        have hX4 := HX4.out
        clear HY HB HX4 HO4 H1
        go_loopw [10] (fun i wr => ∃ k : Nat, k ≤ b.length ∧ i = .int .i64 k ∧ WinAt wr gx m (b.take k) ∧ WinAt wr gy m (b.take k) ∧ Below w.heap.size w wr) (fun i _ => b.length - (intOf i).toNat)
        case atStart => exact ⟨0, by omega, rfl, hX4, hY4, hB4⟩
        case round =>
          clear hX4 hY4 hB4
          rename_i wr
          obtain ⟨j, hj, rfl, hX, hY, hB⟩ := hrel
          by_cases hlt : j < b.length
          · obtain ⟨ad, rfl, hadb, hcell⟩ := HT.out (by rw [List.length_map]; omega)
            have cx := hcell j _ (at8_of b j hlt)
            have HC : Hid (∀ v : World, Below w.heap.size w v → v.cell? (ad.add j) = some (.int .u8 (B (at8 b j)))) := Lib.hid (fun v hv => (hv.cell (by rw [add_block]; exact hadb)).trans cx)
            have H1 := Lib.hid (fun v hv => add_any v gx m (b.take j) (at8 b j) m1 m2 hv)
            have H2 := Lib.hid (fun v hv => add_any v gy m (b.take j) (at8 b j) m1 m2 hv)
            have H3 := Lib.hid (fun v g hv => len_any v g m (b.take (j + 1)) hv)
            have H4 := Lib.hid (fun v g hv => sum_any v g m (b.take (j + 1)) hv)
            rw [← take_at8 b j hlt] at H1 H2
            generalize rsum (lastN m (b.take (j + 1))) = s at *
            generalize min (b.take (j + 1)).length m = l at *
            generalize at8 b j = x at *
            have HX := Lib.hid hX.drew
            have HY := Lib.hid hY.drew
            have HB := Lib.hid hB.drew
            have e1 := bne_self_int (s : Int)
            have e2 := bne_self_int (l : Int)
            have j0 : (0 : Int) ≤ (j : Int) := by omega
            have j1 : j < b.length := hlt
            clear hcell cx hX hY hB hadb
            go_wp2_with fail
            refine wp_region_ors (Below w.heap.size w) roOrder (by kernel_rfl) (by kernel_rfl) (by kernel_rfl) HB.out ?_
            unfold roOrder
            simp only [pickOrs, List.getElem?_cons_zero, List.getElem?_cons_succ]
            generalize wr.drew = v0 at *
            refine ors_pure (v := ?_) (by kernel_rfl) ?_ ?_
            rotate_left
            · intro w' _; go_simp; try with_reducible rfl
            try simp only [Act.put, List.setIfInBounds_toArray, List.set_cons_zero, List.set_cons_succ]
            refine ors_pure (v := ?_) (by kernel_rfl) ?_ ?_
            rotate_left
            · intro w' _; go_simp; try with_reducible rfl
            try simp only [Act.put, List.setIfInBounds_toArray, List.set_cons_zero, List.set_cons_succ]
            refine ors_pure (v := ?_) (by kernel_rfl) ?_ ?_
            rotate_left
            · intro w' _; go_simp; try with_reducible rfl
            try simp only [Act.put, List.setIfInBounds_toArray, List.set_cons_zero, List.set_cons_succ]
            refine ors_pure (v := ?_) (by kernel_rfl) ?_ ?_
            rotate_left
            · intro w' _; go_simp; try with_reducible rfl
            try simp only [Act.put, List.setIfInBounds_toArray, List.set_cons_zero, List.set_cons_succ]
            refine ors_pure (v := ?_) (by kernel_rfl) ?_ ?_
            rotate_left
            · intro w' hv; have cx := HC.out w' hv; clear hv; go_simp; try with_reducible rfl
            try simp only [Act.put, List.setIfInBounds_toArray, List.set_cons_zero, List.set_cons_succ]
            refine ors_pure (v := ?_) (by kernel_rfl) ?_ ?_
            rotate_left
            · intro w' _; go_simp; try with_reducible rfl
            try simp only [Act.put, List.setIfInBounds_toArray, List.set_cons_zero, List.set_cons_succ]
            refine ors_pure (v := ?_) (by kernel_rfl) ?_ ?_
            rotate_left
            · intro w' _; go_simp; try with_reducible rfl
            try simp only [Act.put, List.setIfInBounds_toArray, List.set_cons_zero, List.set_cons_succ]
            refine ors_pure (v := ?_) (by kernel_rfl) ?_ ?_
            rotate_left
            · intro w' _; go_simp; try with_reducible rfl
            try simp only [Act.put, List.setIfInBounds_toArray, List.set_cons_zero, List.set_cons_succ]
            refine ors_pure (v := ?_) (by kernel_rfl) ?_ ?_
            rotate_left
            · intro w' _; go_simp; try with_reducible rfl
            try simp only [Act.put, List.setIfInBounds_toArray, List.set_cons_zero, List.set_cons_succ]
            refine ors_pure (v := ?_) (by kernel_rfl) ?_ ?_
            rotate_left
            · intro w' hv; have cx := HC.out w' hv; clear hv; go_simp; try with_reducible rfl
            try simp only [Act.put, List.setIfInBounds_toArray, List.set_cons_zero, List.set_cons_succ]
            refine ors_step (by kernel_rfl) (fun K hK => ?_)
            go_wp2_with fail
            refine (H1.out v0 HX.out).mono ?_
            rintro e v1 ⟨rfl, hx1, ho1⟩
            replace HX := Lib.hid hx1
            replace HY := Lib.hid (HY.out.only ho1 (by omega))
            replace HB := Lib.hid (HB.out.trans (ho1.below.mono (by omega)))
            clear hx1 ho1 H1
            go_wp2_with fail
            refine ⟨HB.out, ?_⟩
            try simp only [Act.put, List.setIfInBounds_toArray, List.set_cons_zero, List.set_cons_succ]
            refine ors_step (by kernel_rfl) (fun K hK => ?_)
            go_wp2_with fail
            refine (H2.out v1 HY.out).mono ?_
            rintro e v2 ⟨rfl, hy1, ho1⟩
            replace HX := Lib.hid (HX.out.only ho1 (by omega))
            replace HY := Lib.hid hy1
            replace HB := Lib.hid (HB.out.trans (ho1.below.mono (by omega)))
            clear hy1 ho1 H2
            go_wp2_with fail
            refine ⟨HB.out, ?_⟩
            try simp only [Act.put, List.setIfInBounds_toArray, List.set_cons_zero, List.set_cons_succ]
            refine ors_pure (v := ?_) (by kernel_rfl) ?_ ?_
            rotate_left
            · intro w' _; go_simp; try with_reducible rfl
            try simp only [Act.put, List.setIfInBounds_toArray, List.set_cons_zero, List.set_cons_succ]
            refine ors_pure (v := ?_) (by kernel_rfl) ?_ ?_
            rotate_left
            · intro w' _; go_simp; try with_reducible rfl
            try simp only [Act.put, List.setIfInBounds_toArray, List.set_cons_zero, List.set_cons_succ]
            refine ors_pure (v := ?_) (by kernel_rfl) ?_ ?_
            rotate_left
            · intro w' _; go_simp; try with_reducible rfl
            try simp only [Act.put, List.setIfInBounds_toArray, List.set_cons_zero, List.set_cons_succ]
            refine ors_pure (v := ?_) (by kernel_rfl) ?_ ?_
            rotate_left
            · intro w' _; go_simp; try with_reducible rfl
            try simp only [Act.put, List.setIfInBounds_toArray, List.set_cons_zero, List.set_cons_succ]
            refine ors_step (by kernel_rfl) (fun K hK => ?_)
            go_wp2_with fail
            refine (H3.out v2 gx HX.out).mono ?_
            rintro e v3 ⟨rfl, rfl⟩
            go_wp2_with fail
            refine ⟨HB.out, ?_⟩
            try simp only [Act.put, List.setIfInBounds_toArray, List.set_cons_zero, List.set_cons_succ]
            refine ors_step (by kernel_rfl) (fun K hK => ?_)
            go_wp2_with fail
            refine (H3.out v2 gy HY.out).mono ?_
            rintro e v3 ⟨rfl, rfl⟩
            go_wp2_with fail
            refine ⟨HB.out, ?_⟩
            try simp only [Act.put, List.setIfInBounds_toArray, List.set_cons_zero, List.set_cons_succ]
            refine ors_pure (v := ?_) (by kernel_rfl) ?_ ?_
            rotate_left
            · intro w' _; go_simp; try with_reducible rfl
            try simp only [Act.put, List.setIfInBounds_toArray, List.set_cons_zero, List.set_cons_succ]
            refine ors_pure (v := ?_) (by kernel_rfl) ?_ ?_
            rotate_left
            · intro w' _; go_simp; try with_reducible rfl
            try simp only [Act.put, List.setIfInBounds_toArray, List.set_cons_zero, List.set_cons_succ]
            refine ors_pure (v := ?_) (by kernel_rfl) ?_ ?_
            rotate_left
            · intro w' _; go_simp; try with_reducible rfl
            try simp only [Act.put, List.setIfInBounds_toArray, List.set_cons_zero, List.set_cons_succ]
            refine ors_pure (v := ?_) (by kernel_rfl) ?_ ?_
            rotate_left
            · intro w' _; go_simp; try with_reducible rfl
            try simp only [Act.put, List.setIfInBounds_toArray, List.set_cons_zero, List.set_cons_succ]
            refine ors_pure (v := ?_) (by kernel_rfl) ?_ ?_
            rotate_left
            · intro w' _; go_simp; try with_reducible rfl
            try simp only [Act.put, List.setIfInBounds_toArray, List.set_cons_zero, List.set_cons_succ]
            refine ors_step (by kernel_rfl) (fun K hK => ?_)
            go_wp2_with fail
            refine (H4.out v2 gx HX.out).mono ?_
            rintro e v3 ⟨rfl, rfl⟩
            go_wp2_with fail
            refine ⟨HB.out, ?_⟩
            try simp only [Act.put, List.setIfInBounds_toArray, List.set_cons_zero, List.set_cons_succ]
            refine ors_step (by kernel_rfl) (fun K hK => ?_)
            go_wp2_with fail
            refine (H4.out v2 gy HY.out).mono ?_
            rintro e v3 ⟨rfl, rfl⟩
            go_wp2_with fail
            refine ⟨HB.out, ?_⟩
            try simp only [Act.put, List.setIfInBounds_toArray, List.set_cons_zero, List.set_cons_succ]
            refine ors_pure (v := ?_) (by kernel_rfl) ?_ ?_
            rotate_left
            · intro w' _; go_simp; try with_reducible rfl
            try simp only [Act.put, List.setIfInBounds_toArray, List.set_cons_zero, List.set_cons_succ]
            refine ors_pure (v := ?_) (by kernel_rfl) ?_ ?_
            rotate_left
            · intro w' _; go_simp; try with_reducible rfl
            try simp only [Act.put, List.setIfInBounds_toArray, List.set_cons_zero, List.set_cons_succ]
            refine ors_nil ?_
            go_wp2_with fail
            go_roundw
            case rel => exact ⟨j + 1, by omega, by go_num, HX.out, HY.out, HB.out⟩
            case measure => simp [intOf]; omega
          · have hjl : j = b.length := by omega
            have HB := Lib.hid hB
            have k4 : ¬ (j : Int) < (b.length : Int) := by omega
            clear hX hY hB hlt hjl
            go_wp2_with fail
            go_ret
            exact ⟨rfl, HB.out⟩
end Go.Proofs.Ytaeoaaajkcnbkaa
