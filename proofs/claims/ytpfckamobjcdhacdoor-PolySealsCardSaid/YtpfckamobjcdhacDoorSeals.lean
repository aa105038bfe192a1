/- The walk of the law PolySeals: it returns true, and writes nothing that was there. Conditions: the table of rests as laid; the argument reads as a list of bytes. -/
import Derived.Test.YtpfckamobjcdhacDoorAwake
import Derived.Test.YtpfckamobjcdhacDoorOrs
namespace Go.Proofs.YtpfckamobjcdhacDoor
open Go.RowKit
set_option maxHeartbeats 2000000 in
theorem seals_any (b : List (BitVec 8)) (q : Option Addr) (c : Nat) (w : World) (hs : Sees w w.heap.size q (b.map u8v)) (hc : b.length ≤ c) (hq : q = none → c = 0) (hm : b.length ≤ maxLen) (hR : Rests w) :
    Calls Tryd.prog 4 #[.slice q b.length c] w fun e w' => e = .returned (.bool true) ∧ Below w.heap.size w w' := by
  unfold maxLen at hm
  have h0 := hR.1
  have HA := Lib.hid (awake_any w hR)
  by_cases hbig : 2000 < b.length
  · have k1 : (2000 : Int) < (b.length : Int) := by omega
    clear hs hc hq hR hbig
    go_enter Tryd.func4, Tryd.ntmps4
    go_wp2_with ((with_reducible refine HA.out.mono ?_); rintro e w1 ⟨rfl, hb1⟩)
    go_ret
    exact ⟨rfl, hb1⟩
  have k1 : ¬ (2000 : Int) < (b.length : Int) := by omega
  have HS := Lib.hid hs
  have HR := Lib.hid hR
  have HQ := Lib.hid hq
  have HCc := Lib.hid hc
  have Hbl : Hid (b.length ≤ 2000) := Lib.hid (by omega)
  have HSL := Lib.hid (sealL_length b)
  have HSL2 := Lib.hid (sealL_length (sealL b))
  have HRk : Hid (∀ w1, Below w.heap.size w w1 → Rests w1) := Lib.hid (fun w1 h => hR.keep h h0)
  clear hs hR hq hc hbig
  go_enter Tryd.func4, Tryd.ntmps4
  go_wp2_with fail
  refine HA.out.mono ?_
  rintro e w1 ⟨rfl, hb1⟩
  have HB1 := Lib.hid hb1
  have H1 := Lib.hid (seal_any b q c w1 ((HS.out.keep hb1).more hb1.size) HCc.out HQ.out (by have := Hbl.out; omega) (HRk.out _ hb1))
  clear hb1 HA
  go_wp2_with fail
  refine H1.out.mono ?_
  rintro e w2 ⟨v, rfl, ⟨q2, c2, rfl, hc2, hq2, hs2⟩, hb2⟩
  have HB2 := Lib.hid (HB1.out.trans (hb2.mono HB1.out.size))
  have H2 := Lib.hid (seal_any (sealL b) q2 c2 w2 hs2 hc2 hq2 (by rw [HSL.out]; have := Hbl.out; omega) (HRk.out _ HB2.out))
  clear hc2 hq2 hs2 hb2 H1 HB1
  go_wp2_with fail
  refine H2.out.mono ?_
  rintro e w3 ⟨v, rfl, ⟨q3, c3, rfl, hc3, hq3, hs3⟩, hb3⟩
  have HB3 := Lib.hid (HB2.out.trans (hb3.mono HB2.out.size))
  have h3 := open_any (sealL (sealL b)) q3 c3 w3 hs3 hc3 hq3 (by rw [HSL2.out, HSL.out]; have := Hbl.out; omega) (HRk.out _ HB3.out)
  unfold Opened at h3
  rw [opens_seal, openL_seal] at h3
  have H3 := Lib.hid h3
  clear hc3 hq3 hs3 hb3 H2 HB2 h3
  go_wp2_with fail
  refine H3.out.mono ?_
  rintro e w4 ⟨v, rfl, ⟨q4, c4, rfl, hc4, hq4, hs4⟩, hb4⟩
  have HB4 := Lib.hid (HB3.out.trans (hb4.mono HB3.out.size))
  have h4 := open_any (sealL b) q4 c4 w4 hs4 hc4 hq4 (by rw [HSL.out]; have := Hbl.out; omega) (HRk.out _ HB4.out)
  unfold Opened at h4
  rw [opens_seal, openL_seal] at h4
  have H4 := Lib.hid h4
  clear hc4 hq4 hs4 hb4 H3 HB3 h4
  go_wp2_with fail
  refine H4.out.mono ?_
  rintro e w5 ⟨v, rfl, ⟨q5, c5, rfl, hc5, hq5, hs5⟩, hb5⟩
  have HB5 := Lib.hid (HB4.out.trans (hb5.mono HB4.out.size))
  have HS5 := Lib.hid hs5
  have h5 := open_any b q c w5 ((HS.out.keep HB5.out).more HB5.out.size) HCc.out HQ.out (by have := Hbl.out; omega) (HRk.out _ HB5.out)
  have H5 := Lib.hid h5
  clear hc5 hq5 hs5 hb5 H4 HB4 h5
  go_wp2_with fail
  refine H5.out.mono ?_
  rintro e w6 ⟨v, rfl, ⟨q6, c6, rfl, hc6, hq6, hs6⟩, hb6⟩
  have HB6 := Lib.hid (HB5.out.trans (hb6.mono HB5.out.size))
  have hL6 := openL_length b
  have H6 : Hid (∀ w7, Below w6.heap.size w6 w7 → Calls Tryd.prog 9 #[.slice q6 (openL b).length c6] w7 (Gives w7 (sealL (openL b)))) := Lib.hid (fun w7 h =>
    seal_any (openL b) q6 c6 w7 ((hs6.keep h).more h.size) hc6 hq6 (by have := Hbl.out; omega) (HRk.out _ (HB6.out.trans (h.mono HB6.out.size))))
  have s1 : ∀ w7, Below w6.heap.size w6 w7 → (convert 22 9 (.slice q5 b.length c5)).run Tryd.prog w7 = .ok (.string (strB b)) w7 := fun w7 h =>
    str_run b q5 c5 w5.heap.size w7 ((HS5.out.keep hb6).keep (h.mono hb6.size))
  have s2 : ∀ w7, Below w6.heap.size w6 w7 → (convert 22 9 (.slice q b.length c)).run Tryd.prog w7 = .ok (.string (strB b)) w7 := fun w7 h =>
    str_run b q c w.heap.size w7 ((HS.out.keep HB6.out).keep (h.mono HB6.out.size))
  have heq := strB_beq b b
  rw [decide_eq_true rfl] at heq
  have S1 := Lib.hid s1
  have S2 := Lib.hid s2
  clear hc6 hq6 hs6 hb6 hL6 H5 HB5 HS5 s1 s2
  go_wp2_with fail
  refine wp_region_ors (fun w7 => Below w6.heap.size w6 w7) [(0, true), (1, true), (2, true), (3, true), (4, true), (5, true), (6, true), (7, true), (8, true), (9, true), (10, true), (11, true), (12, true), (13, true), (14, true), (15, true), (18, true), (19, true), (16, false), (17, false), (20, true), (21, true), (22, true), (23, true)] (by kernel_rfl) (by kernel_rfl) (by kernel_rfl) (Below.refl _ _).drew ?_
  simp only [pickOrs, List.getElem?_cons_zero, List.getElem?_cons_succ]
  have HB7 : Hid (Below w6.heap.size w6 w6.drew) := Lib.hid (Below.refl _ _).drew
  generalize w6.drew = w7 at *
  cases hop : opens b
  · clear hop
    (repeat (first
      | (refine ors_pure (v := ?_) (by rfl) ?_ ?_; rotate_left; (· intro w' hw; have t1 := S1.out w' hw; have t2 := S2.out w' hw; go_simp; try with_reducible rfl); try simp only [Act.put, List.setIfInBounds_toArray, List.set_cons_zero, List.set_cons_succ])
      | (refine ors_skip (by rfl) ?_; try simp only [Act.put, List.setIfInBounds_toArray, List.set_cons_zero, List.set_cons_succ])))
    refine ors_pass (by rfl) HB7.out ?_
    try simp only [Act.put, List.setIfInBounds_toArray, List.set_cons_zero, List.set_cons_succ]
    refine ors_pass (by rfl) HB7.out ?_
    try simp only [Act.put, List.setIfInBounds_toArray, List.set_cons_zero, List.set_cons_succ]
    (repeat (first
      | (refine ors_pure (v := ?_) (by rfl) ?_ ?_; rotate_left; (· intro w' hw; have t1 := S1.out w' hw; have t2 := S2.out w' hw; go_simp; try with_reducible rfl); try simp only [Act.put, List.setIfInBounds_toArray, List.set_cons_zero, List.set_cons_succ])
      | (refine ors_skip (by rfl) ?_; try simp only [Act.put, List.setIfInBounds_toArray, List.set_cons_zero, List.set_cons_succ])))
    refine ors_nil ?_
    go_wp2_with fail
    go_ret
    exact ⟨rfl, HB6.out.trans (HB7.out.mono HB6.out.size)⟩
  · have HO := Lib.hid (seal_open b hop)
    clear hop
    rw [HO.out] at H6
    (repeat (first
      | (refine ors_pure (v := ?_) (by rfl) ?_ ?_; rotate_left; (· intro w' hw; have t1 := S1.out w' hw; have t2 := S2.out w' hw; go_simp; try with_reducible rfl); try simp only [Act.put, List.setIfInBounds_toArray, List.set_cons_zero, List.set_cons_succ])
      | (refine ors_skip (by rfl) ?_; try simp only [Act.put, List.setIfInBounds_toArray, List.set_cons_zero, List.set_cons_succ])))
    refine ors_step (by rfl) (fun K hK => ?_)
    go_wp2_with fail
    refine (H6.out w7 HB7.out).mono ?_
    rintro e w8 ⟨v, rfl, ⟨q8, c8, rfl, hc8, hq8, hs8⟩, hb8⟩
    have HB8 := Lib.hid (HB7.out.trans (hb8.mono HB7.out.size))
    have s8 := str_run b q8 c8 _ w8 hs8
    clear hc8 hq8 hs8 hb8 H6 HB7
    go_wp2_with fail
    refine ⟨HB8.out, ?_⟩
    try simp only [Act.put, List.setIfInBounds_toArray, List.set_cons_zero, List.set_cons_succ]
    refine ors_step (by rfl) (fun K hK => ?_)
    go_wp2_with fail
    refine ⟨HB8.out, ?_⟩
    try simp only [Act.put, List.setIfInBounds_toArray, List.set_cons_zero, List.set_cons_succ]
    (repeat (first
      | (refine ors_pure (v := ?_) (by rfl) ?_ ?_; rotate_left; (· intro w' hw; have t1 := S1.out w' hw; have t2 := S2.out w' hw; go_simp; try with_reducible rfl); try simp only [Act.put, List.setIfInBounds_toArray, List.set_cons_zero, List.set_cons_succ])
      | (refine ors_skip (by rfl) ?_; try simp only [Act.put, List.setIfInBounds_toArray, List.set_cons_zero, List.set_cons_succ])))
    refine ors_nil ?_
    go_wp2_with fail
    go_ret
    exact ⟨rfl, HB6.out.trans (HB8.out.mono HB6.out.size)⟩
end Go.Proofs.YtpfckamobjcdhacDoor
