/- The walk of the law NumBack: it returns true. Condition: the arguments read as a number of 64 bits and two lists of bytes. -/
import Derived.Test.YtgaphplndpdhaaaFoldN
import Derived.Test.YtgaphplndpdhaaaPutB
import Derived.Test.YtgaphplndpdhaaaGetB
import Derived.Test.YtgaphplndpdhaaaOrs
namespace Go.Proofs.Ytgaphplndpdhaaa
open Go.RowKit
theorem empty_own (w : World) (base : Nat) (hb : base ≤ w.heap.size) : (w.alloc (.cells #[] 5)).ownsRow base 5 1 (.slice (some ⟨w.heap.size, 0, none⟩) 0 0) 0 [] :=
  World.ownsRow_made w #[] 0 hb (by unfold maxLen; omega) (by simp)
theorem gbL_put (p r : List (BitVec 8)) (h : p.length ≤ 1000) : gbL (digs p.length ++ p ++ r) (p.length : Int) = (p, (digs p.length ++ p).length, 0) := by
  have hg := getL_digs p.length (p ++ r) (by omega)
  rw [← List.append_assoc] at hg
  have hlen : (digs p.length ++ p ++ r).length = (digs p.length).length + p.length + r.length := by rw [List.length_append, List.length_append]
  unfold gbL
  rw [hg, if_neg (by simp), if_neg (by simp), if_neg (by rw [hlen]; simp; omega)]
  simp
set_option maxHeartbeats 4000000 in
set_option maxRecDepth 100000 in
theorem back_any (v : Nat) (P : List (BitVec 8)) (p : Option Addr) (cp : Nat) (R : List (BitVec 8)) (r : Option Addr) (cr : Nat) (w : World) (hv : v < 18446744073709551616)
    (hp : Sees w w.heap.size p (P.map u8v)) (hpq : p = none → cp = 0) (hpm : P.length ≤ maxLen)
    (hr : Sees w w.heap.size r (R.map u8v)) (hrc : R.length ≤ cr) (hrq : r = none → cr = 0) (hrm : R.length ≤ maxLen) :
    Calls Try.prog 5 #[.int .u64 (v : Int), .slice p P.length cp, .slice r R.length cr] w fun e w' => e = .returned (.bool true) ∧ Below w.heap.size w w' := by
  unfold maxLen at hpm hrm
  have HA := Lib.hid (awake_any w)
  by_cases hbig : 1000 < P.length
  · have k1 : (1000 : Int) < (P.length : Int) := by omega
    clear hp hr hpq hrc hrq hbig
    go_enter Try.func5, Try.ntmps5
    go_wp2_with ((with_reducible refine HA.out.mono ?_); rintro e w1 ⟨rfl, hb1⟩)
    go_ret
    exact ⟨rfl, hb1⟩
  have k1 : ¬ (1000 : Int) < (P.length : Int) := by omega
  by_cases hbig2 : 1000 < R.length
  · have k2 : (1000 : Int) < (R.length : Int) := by omega
    clear hp hr hpq hrc hrq hbig hbig2
    go_enter Try.func5, Try.ntmps5
    go_wp2_with ((with_reducible refine HA.out.mono ?_); rintro e w1 ⟨rfl, hb1⟩)
    go_ret
    exact ⟨rfl, hb1⟩
  have k2 : ¬ (1000 : Int) < (R.length : Int) := by omega
  have hPl : P.length ≤ 1000 := by omega
  have hRl : R.length ≤ 1000 := by omega
  have HP := Lib.hid hp
  have HPQ := Lib.hid hpq
  have HR := Lib.hid hr
  have HRQ := Lib.hid hrq
  have hd10 := digs_len10 v hv
  have hd10p := digs_len10 P.length (by omega)
  have H1 : ∀ w1, Calls Try.prog 8 #[.slice none 0 0, .int .u64 (v : Int)] w1 (Gives w1 (digs v)) := fun w1 => by
    have := put_any [] none 0 v w1 (Sees.nil _ _ _) (fun _ => rfl) (by simp) hv
    rw [List.nil_append] at this; exact this
  have H4 : ∀ w1, Below w.heap.size w w1 → Calls Try.prog 17 #[.slice none 0 0, .slice p P.length cp] w1 (Gives w1 (digs P.length ++ P)) := fun w1 hb => by
    have := putBytes_any [] none 0 P p cp w1 (Sees.nil _ _ _) (fun _ => rfl) (by simp) ((hp.keep hb).more hb.size) hpq (by omega)
    rw [List.nil_append] at this; exact this
  have H5 := gbL_put P R hPl
  have H6 := getL_digs v R hv
  have H7 := fun j => getL_cut v j hv
  have H8 := fun w1 => size_any v w1 hv
  have hEl : (digs P.length ++ P).length = (digs P.length).length + P.length := List.length_append
  obtain ⟨D, hD⟩ : ∃ D, D = digs v := ⟨_, rfl⟩
  obtain ⟨E, hE⟩ : ∃ E, E = digs P.length ++ P := ⟨_, rfl⟩
  rw [← hD] at hd10 H1 H6 H7 H8
  rw [← hE] at H4 H5 hEl
  have hEb : E.length ≤ 1010 := by omega
  obtain ⟨z, hz⟩ : ∃ z, z = IntKind.i64.wrap (v : Int) := ⟨_, rfl⟩
  have hzb : -9223372036854775808 ≤ z ∧ z ≤ 9223372036854775807 := by rw [hz, IntKind.wrap_i64]; omega
  obtain ⟨n, hn, hnb, ho, _⟩ := fold_nat z hzb.1 hzb.2
  have H9 : ∀ w1, Calls Try.prog 12 #[.int .i64 z] w1 fun e w' => e = .returned (.int .u64 (n : Int)) ∧ w1 = w' := fun w1 => by rw [← hn]; exact fold_any z w1 hzb.1 hzb.2
  have H10 : ∀ w1, Calls Try.prog 13 #[.int .u64 (n : Int)] w1 fun e w' => e = .returned (.int .i64 z) ∧ w1 = w' := fun w1 => by have := open_any n w1 hnb; rw [ho] at this; exact this
  replace H1 := Lib.hid H1
  replace H4 := Lib.hid H4
  replace H5 := Lib.hid H5
  replace H6 := Lib.hid H6
  replace H7 := Lib.hid H7
  replace H8 := Lib.hid H8
  replace H9 := Lib.hid H9
  replace H10 := Lib.hid H10
  have HZ := Lib.hid hz
  clear hp hpq hr hrq hbig hbig2 hpm hrm hD hE hEl hd10p hz hzb hn hnb ho
  go_enter Try.func5, Try.ntmps5
  go_wp2_with fail
  refine HA.out.mono ?_
  rintro e w1 ⟨rfl, hb1⟩
  have HB1 := Lib.hid hb1
  clear hb1 HA
  go_wp2_with fail
  refine (H1.out _).mono ?_
  rintro e w2 ⟨s, rfl, ⟨q3, c3, rfl, hc3, hq3, hs3⟩, hb2⟩
  have HB2 := Lib.hid (HB1.out.trans (hb2.mono HB1.out.size))
  have hBe : Below w2.heap.size w2 (w2.alloc (.cells #[] 5)) := (Below.refl _ _).alloc (Nat.le_refl _) _
  have HS3 := Lib.hid hs3
  have HSe := Lib.hid (hs3.keep hBe)
  have HQ3 := Lib.hid hq3
  have HC3 := Lib.hid hc3
  have HO := Lib.hid (empty_own w2 w2.heap.size (Nat.le_refl _))
  have HBe := Lib.hid hBe
  clear hb2 hs3 hq3 hc3 hBe HB1
  go_wp2_with (first
    | (at_builtin
       refine wpList_append_sees rfl (.tmp 35) (.tmp 36) rfl w2.heap.size _ 0 [] rfl HO.out q3 D c3 w2.heap.size rfl HQ3.out HSe.out (by omega) HBe.out.size ?_
       intro v3 w3 h1 h2
       have H2 := Lib.hid h1
       have HB3 := Lib.hid (HBe.out.trans h2)
       have HSR := Lib.hid (HR.out.keep (HB2.out.trans (HB3.out.mono HB2.out.size)))
       clear h1 h2)
    | (at_builtin
       refine wpList_append_sees rfl (.tmp 37) (.tmp 38) rfl w2.heap.size v3 (0 + D.length) ([] ++ D.map u8v) rfl H2.out r R cr w.heap.size rfl HRQ.out HSR.out (by omega) HB3.out.size ?_
       intro v4 w4 h1 h2
       have H3 := Lib.hid h1
       have HB4 := Lib.hid (HB3.out.trans h2)
       clear h1 h2))
  have h4 : Bs w4 v4 (D ++ R) := Bs.own (base := w2.heap.size) (n := 0 + D.length + R.length) (by have := H3.out; rw [List.nil_append] at this; rw [List.map_append]; exact this)
  obtain ⟨q4, c4, rfl, hc4, hq4, hs4⟩ := h4
  have hg := get_any (D ++ R) q4 c4 w4 hs4 (by rw [List.length_append]; omega)
  rw [H6.out] at hg
  unfold tri at hg
  have HG := Lib.hid hg
  have HW4 := Lib.hid (HB2.out.trans (HB4.out.mono HB2.out.size))
  have HSD := Lib.hid ((HS3.out.keep HB4.out).more HB4.out.size)
  clear hc4 hq4 hs4 hg H3 HB4 H2 HB3 HSR HO HBe HSe HS3 HB2
  refine HG.out.mono ?_
  rintro e w5 ⟨rfl, rfl⟩
  go_wp2_with fail
  refine (H4.out _ HW4.out).mono ?_
  rintro e w5 ⟨s, rfl, ⟨q5, c5, rfl, hc5, hq5, hs5⟩, hb5⟩
  have HB5 := Lib.hid (HW4.out.trans (hb5.mono HW4.out.size))
  have hBe : Below w5.heap.size w5 (w5.alloc (.cells #[] 5)) := (Below.refl _ _).alloc (Nat.le_refl _) _
  have HSe := Lib.hid (hs5.keep hBe)
  have HQ5 := Lib.hid hq5
  have HO := Lib.hid (empty_own w5 w5.heap.size (Nat.le_refl _))
  have HBe := Lib.hid hBe
  have HSD5 := Lib.hid ((HSD.out.keep hb5).more hb5.size)
  clear hb5 hs5 hq5 hc5 hBe HW4 HG HSD
  go_wp2_with (first
    | (at_builtin
       refine wpList_append_sees rfl (.tmp 47) (.tmp 48) rfl w5.heap.size _ 0 [] rfl HO.out q5 E c5 w5.heap.size rfl HQ5.out HSe.out (by omega) HBe.out.size ?_
       intro v6 w6 h1 h2
       have H2 := Lib.hid h1
       have HB6 := Lib.hid (HBe.out.trans h2)
       have HSR := Lib.hid (HR.out.keep (HB5.out.trans (HB6.out.mono HB5.out.size)))
       clear h1 h2)
    | (at_builtin
       refine wpList_append_sees rfl (.tmp 49) (.tmp 50) rfl w5.heap.size v6 (0 + E.length) ([] ++ E.map u8v) rfl H2.out r R cr w.heap.size rfl HRQ.out HSR.out (by omega) HB6.out.size ?_
       intro v7 w7 h1 h2
       have H3 := Lib.hid h1
       have HB7 := Lib.hid (HB6.out.trans h2)
       clear h1 h2))
  have h7 : Bs w7 v7 (E ++ R) := Bs.own (base := w5.heap.size) (n := 0 + E.length + R.length) (by have := H3.out; rw [List.nil_append] at this; rw [List.map_append]; exact this)
  obtain ⟨q7, c7, rfl, hc7, hq7, hs7⟩ := h7
  have hg := getBytes_any (E ++ R) q7 c7 (P.length : Int) w7 hs7 hc7 hq7 (by rw [List.length_append]; omega) (by omega) (by omega)
  rw [H5.out] at hg
  have HG := Lib.hid hg
  have HW7 := Lib.hid (HB5.out.trans (HB7.out.mono HB5.out.size))
  have HSD7 := Lib.hid ((HSD5.out.keep HB7.out).more HB7.out.size)
  clear hc7 hq7 hs7 hg H3 HB7 H2 HB6 HSR HO HBe HSe HSD5 HB5
  refine HG.out.mono ?_
  rintro e w8 ⟨s, rfl, ⟨q8, c8, rfl, hc8, hq8, hs8⟩, hb8⟩
  have HB8 := Lib.hid (HW7.out.trans (hb8.mono HW7.out.size))
  have HSD8 := Lib.hid ((HSD7.out.keep hb8).more hb8.size)
  have s1 := str_run P q8 c8 _ w8 hs8
  have s2 := str_run P p cp _ w8 (HP.out.keep HB8.out)
  clear hc8 hq8 hs8 hb8 HG HW7 HSD7
  have kv : ((v : Int) != (v : Int)) = false := by simp
  have kz : (z != z) = false := by simp
  have kD : ((D.length : Int) != (D.length : Int)) = false := by simp
  have kE : ((E.length : Int) != (E.length : Int)) = false := by simp
  have kS : ((strB P).toList != (strB P).toList) = false := by simp
  have kw : IntKind.i64.wrap (v : Int) = z := HZ.out.symm
  clear HZ
  go_wp2_with (first | ((with_reducible refine (H8.out _).mono ?_); rintro e w9 ⟨rfl, rfl⟩) | ((with_reducible refine (H9.out _).mono ?_); rintro e w9 ⟨rfl, rfl⟩) | ((with_reducible refine (H10.out _).mono ?_); rintro e w9 ⟨rfl, rfl⟩))
  go_loop [15] (fun vi => ∃ j : Nat, j ≤ D.length ∧ vi = .int .i64 j) (fun vi => D.length - (intOf vi).toNat)
  case atStart => exact ⟨0, by omega, rfl⟩
  case round =>
    obtain ⟨j, hj, rfl⟩ := hrel
    by_cases hlt : j < D.length
    · have hc := cut_to q3 D.length c3 j (by have := HC3.out; omega) w8
      rw [cutQ_zero] at hc
      have hsj : Sees w8 w8.heap.size q3 ((D.take j).map u8v) := by rw [List.map_take]; exact HSD8.out.head j
      have hlj : (D.take j).length = j := by rw [List.length_take]; omega
      have hg := get_any (D.take j) q3 c3 w8 hsj (by omega)
      rw [H7.out j hlt, hlj] at hg
      unfold tri at hg
      have HG := Lib.hid hg
      clear hg hsj hlj
      go_wp2_with ((with_reducible refine HG.out.mono ?_); rintro e w9 ⟨rfl, rfl⟩)
      go_round
      case rel => exact ⟨j + 1, by omega, by go_num⟩
      case measure => simp [intOf]; omega
    · have k3 : ¬ (j : Int) < (D.length : Int) := by omega
      have hg := get_any R r cr w8 ((HR.out.keep HB8.out).more HB8.out.size) (by omega)
      obtain ⟨b1, b2, b3⟩ := getL_bd R
      have hbk := getL_back R (getL R).1 (getL R).2.1
      obtain ⟨er, he⟩ : ∃ er, er = (getL R).2.2 := ⟨_, rfl⟩
      have hbk : er = 0 → 0 < (getL R).2.1 ∧ (getL R).2.1 ≤ R.length ∧ digs (getL R).1 = R.take (getL R).2.1 ∧ (getL R).1 < 18446744073709551616 := fun h => hbk (by rw [show 0 = (getL R).2.2 by rw [← he, h]])
      unfold tri at hg
      rw [← he] at hg b3
      generalize (getL R).1 = y at *
      generalize (getL R).2.1 = k at *
      have HG := Lib.hid hg
      have HBK := Lib.hid hbk
      have HC := Lib.hid (fun w1 => cut_to r R.length cr k (by omega) w1)
      have HS : Hid (∀ w1, Below w8.heap.size w8 w1 → (convert 23 9 (.slice r k cr)).run Try.prog w1 = .ok (.string (strB (R.take k))) w1) := Lib.hid (fun w1 h1 => by
        have hl : (R.take k).length = k := by rw [List.length_take]; omega
        have := str_run (R.take k) r cr w.heap.size w1 (by rw [List.map_take]; exact (HR.out.keep (HB8.out.trans (h1.mono HB8.out.size))).head k)
        rw [hl] at this; exact this)
      clear hg hbk he s1 s2 hlt hj
      go_wp2_with ((with_reducible refine HG.out.mono ?_); rintro e w9 ⟨rfl, rfl⟩)
      refine wp_region_ors (fun w7 => Below w8.heap.size w8 w7) [(0, true), (1, true), (2, true), (3, true), (4, true), (5, true), (6, true), (7, true), (8, true), (11, true), (12, true), (13, true), (14, true), (9, false), (10, false), (15, true), (16, true), (17, true), (18, true)] (by kernel_rfl) (by kernel_rfl) (by kernel_rfl) (Below.refl _ _).drew ?_
      simp only [pickOrs, List.getElem?_cons_zero, List.getElem?_cons_succ]
      have HB9 : Hid (Below w8.heap.size w8 w8.drew) := Lib.hid (Below.refl _ _).drew
      generalize w8.drew = w9 at *
      rcases b3 with rfl | h3
      · obtain ⟨y1, y2, y3, y4⟩ := HBK.out rfl
        have HP9 := Lib.hid (put_any [] none 0 y w9 (Sees.nil _ _ _) (fun _ => rfl) (by simp) y4)
        rw [List.nil_append, y3] at HP9
        have t1 : (k : Int) ≤ (R.length : Int) := by omega
        have kq : ((strB (R.take k)).toList == (strB (R.take k)).toList) = true := by simp
        generalize R.take k = X at *
        clear y1 y2 y3 y4 HBK
        (repeat (first
          | (refine ors_pure (v := ?_) (by rfl) ?_ ?_; rotate_left; (· intro w' hw; have u1 := HC.out w'; rw [cutQ_zero] at u1; have u2 := HS.out w' hw; go_simp; try with_reducible rfl); try simp only [Act.put, List.setIfInBounds_toArray, List.set_cons_zero, List.set_cons_succ])
          | (refine ors_skip (by rfl) ?_; try simp only [Act.put, List.setIfInBounds_toArray, List.set_cons_zero, List.set_cons_succ])))
        refine ors_step (by rfl) (fun K hK => ?_)
        go_wp2_with fail
        refine HP9.out.mono ?_
        rintro e w10 ⟨s, rfl, ⟨q10, c10, rfl, hc10, hq10, hs10⟩, hb10⟩
        have HB10 := Lib.hid (HB9.out.trans (hb10.mono HB9.out.size))
        have S10 : Hid (∀ w1, Below w10.heap.size w10 w1 → (convert 23 9 (.slice q10 X.length c10)).run Try.prog w1 = .ok (.string (strB X)) w1) := Lib.hid (fun w1 h1 => str_run X q10 c10 _ w1 (hs10.keep h1))
        have s10 := str_run X q10 c10 _ w10 hs10
        clear hc10 hq10 hs10 hb10 HP9 HB9
        go_wp2_with fail
        refine ⟨HB10.out, ?_⟩
        try simp only [Act.put, List.setIfInBounds_toArray, List.set_cons_zero, List.set_cons_succ]
        refine ors_step (by rfl) (fun K hK => ?_)
        go_wp2_with fail
        refine ⟨HB10.out, ?_⟩
        try simp only [Act.put, List.setIfInBounds_toArray, List.set_cons_zero, List.set_cons_succ]
        (repeat (first
          | (refine ors_pure (v := ?_) (by rfl) ?_ ?_; rotate_left; (· intro w' hw; go_simp; try with_reducible rfl); try simp only [Act.put, List.setIfInBounds_toArray, List.set_cons_zero, List.set_cons_succ])
          | (refine ors_skip (by rfl) ?_; try simp only [Act.put, List.setIfInBounds_toArray, List.set_cons_zero, List.set_cons_succ])))
        refine ors_nil ?_
        go_wp2_with fail
        go_ret
        exact ⟨rfl, HB8.out.trans (HB10.out.mono HB8.out.size)⟩
      · rcases h3 with rfl | rfl
        all_goals
          (repeat (first
            | (refine ors_pure (v := ?_) (by rfl) ?_ ?_; rotate_left; (· intro w' hw; go_simp; try with_reducible rfl); try simp only [Act.put, List.setIfInBounds_toArray, List.set_cons_zero, List.set_cons_succ])
            | (refine ors_skip (by rfl) ?_; try simp only [Act.put, List.setIfInBounds_toArray, List.set_cons_zero, List.set_cons_succ])))
          refine ors_pass (by rfl) HB9.out ?_
          try simp only [Act.put, List.setIfInBounds_toArray, List.set_cons_zero, List.set_cons_succ]
          refine ors_pass (by rfl) HB9.out ?_
          try simp only [Act.put, List.setIfInBounds_toArray, List.set_cons_zero, List.set_cons_succ]
          (repeat (first
            | (refine ors_pure (v := ?_) (by rfl) ?_ ?_; rotate_left; (· intro w' hw; go_simp; try with_reducible rfl); try simp only [Act.put, List.setIfInBounds_toArray, List.set_cons_zero, List.set_cons_succ])
            | (refine ors_skip (by rfl) ?_; try simp only [Act.put, List.setIfInBounds_toArray, List.set_cons_zero, List.set_cons_succ])))
          refine ors_nil ?_
          go_wp2_with fail
          go_ret
          exact ⟨rfl, HB8.out.trans (HB9.out.mono HB8.out.size)⟩
end Go.Proofs.Ytgaphplndpdhaaa
