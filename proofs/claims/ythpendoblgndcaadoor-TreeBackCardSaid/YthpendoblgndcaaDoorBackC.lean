/- The law TreeBack returns true at every input, and its arguments read as they did. No condition. -/
import Derived.Test.YthpendoblgndcaaDoorBase5
import Derived.Test.YthpendoblgndcaaDoorExt1
import Derived.Test.YthpendoblgndcaaDoorCards
import Derived.Test.YthpendoblgndcaaDoorTie
import Derived.ShutString
import Derived.ChangeOld
import Derived.SevenTiedAt
/- The law TreeBack: it returns true. Conditions: at most 40 entries have all bytes together at most 2^61, paths shorter than 2^63 bytes. -/
namespace Go.Proofs.YthpendoblgndcaaDoor
open Go.RowKit
set_option maxHeartbeats 16000000 in
set_option maxRecDepth 100000 in
theorem back8_any (C : List Ent) (q : Option Addr) (c : Nat) (p : ByteArray) (b : List (BitVec 8)) (qb : Option Addr) (cb : Nat) (hcap : C.length ≤ c) (hq : q = none → c = 0) (hb : C.length ≤ 40 → bytesT C ≤ 2305843009213693952) (hn : ∀ e ∈ C, e.1.size < 9223372036854775808) (hqb : qb = none → cb = 0) (w : World) (hs : Sees w w.heap.size q (rowC C)) (hE : Ents w C) (hsb : Sees w w.heap.size qb (b.map u8v)) :
    Calls Tryd.prog 6 #[.slice q C.length c, .string p, .slice qb b.length cb] w fun e w' => e = .returned (.bool true) ∧ Below w.heap.size w w' := by
  have HAW := Lib.hid (awake8_any w)
  have HG := Lib.hid (fun (h0 : C.length ≤ 40) w1 (h : Below w.heap.size w w1) => tgood_any C q c (by omega) hcap (by have := hb h0; omega) hn w1 ((hs.keep h).more h.size) (hE.keep h))
  have HBY := Lib.hid (fun (h0 : C.length ≤ 40) w1 (h : Below w.heap.size w w1) => tbytes_any C q c (by omega) hcap (by have := hb h0; omega) hn w1 ((hs.keep h).more h.size) (hE.keep h))
  have HFI := Lib.hid (fun (h0 : C.length ≤ 40) (hp : p.size ≤ 100) (hg : goodP C = true) w1 (h : Below w.heap.size w w1) => tFind_any C q c p (by omega) hcap (by have := hb h0; omega) hn (by omega) (fun e he _ => good_bytes hg e he) w1 ((hs.keep h).more h.size) (hE.keep h))
  have HPU := Lib.hid (fun (h0 : C.length ≤ 40) (hp : p.size ≤ 100) (hbl : b.length ≤ 500) w1 (h : Below w.heap.size w w1) => tput_any C q c p b qb cb (by omega) hcap hq (hb h0) hn (by omega) hqb (by omega) w1 ((hs.keep h).more h.size) (hE.keep h) ((hsb.keep h).more h.size))
  have HMK := Lib.hid (fun (h0 : C.length ≤ 40) (hp : p.size ≤ 100) w1 (h : Below w.heap.size w w1) => tmake_any C q c p (by omega) hcap hq (hb h0) hn (by omega) w1 ((hs.keep h).more h.size) (hE.keep h))
  have HTR : Hid (∀ w', Below w.heap.size w w' → TrV w' (.slice q C.length c) C ∧ Ents w' C) := Lib.hid (fun w' h => ⟨⟨q, c, rfl, hcap, hq, (hs.keep h).more h.size⟩, hE.keep h⟩)
  have HN := Lib.hid hn
  have HPG : Hid (goodP C = true → ∀ v, goodP (puttP C p b v).1 = true ∧ ((puttP C p b v).2 = 0 → (findP C p).2 = 5 → removeP (puttP C p b v).1 p = (C, 0)) ∧ (puttP C p b v).1.length ≤ C.length + 1 ∧ bytesT (puttP C p b v).1 ≤ bytesT C + b.length ∧ ∀ e ∈ (puttP C p b v).1, e.1 = p ∨ e ∈ C) := Lib.hid (fun hg v => ⟨putt_good hg p b v, fun h1 h2 => back_put hg h1 h2, putt_size v⟩)
  have HMG : Hid (goodP C = true → goodP (makeP C p).1 = true ∧ ((makeP C p).2 = 0 → removeP (makeP C p).1 p = (C, 0) ∧ (findP C p).2 = 5) ∧ (makeP C p).1.length ≤ C.length + 1 ∧ bytesT (makeP C p).1 ≤ bytesT C ∧ ∀ e ∈ (makeP C p).1, e.1 = p ∨ e ∈ C) := Lib.hid (fun hg => ⟨make_good hg p, fun h => back_make hg h, make_size⟩)
  have HBP : Hid (goodP C = true → bytesP C = bytesT C) := Lib.hid (fun h => by unfold bytesP; rw [if_pos h])
  have HSM : Hid (∀ (D2 : List Ent) q1 q2 c1 c2, D2 = C → C.length ≤ 40 → bytesT C ≤ 2305843009213693952 → goodP C = true → C.length ≤ c1 → C.length ≤ c2 → ∀ w1, Sees w1 w1.heap.size q1 (rowC C) → Sees w1 w1.heap.size q2 (rowC C) → Ents w1 C →
    Calls Tryd.prog 15 #[.agg #[.slice q1 C.length c1], .agg #[.slice q2 C.length c2]] w1 fun e w' => e = .returned (.bool true) ∧ Below w1.heap.size w1 w') := Lib.hid (fun D2 q1 q2 c1 c2 _ h1 h2 hg h3 h4 w1 s1 s2 e1 => by
    have h := tsame_any C C q1 q2 c1 c2 (by omega) (by omega) h3 h4 (by omega) (by omega) hn hn w1 s1 s2 e1 e1
    have e : sameT C C = true := by unfold sameT; rw [hg, likeT_self]; rfl
    rw [e] at h
    exact h)
  clear hs hE hsb hn
  go_enter Tryd.func6, Tryd.ntmps6
  go_wp2_with fail
  refine HAW.out.mono ?_
  rintro e w1 ⟨rfl, hb1⟩
  have HB := Lib.hid hb1
  clear hb1 HAW
  by_cases h40 : 40 < C.length
  · have k4 : (40 : Int) < (C.length : Int) := by omega
    go_wp2_with fail
    go_ret
    exact ⟨rfl, HB.out.alloc HB.out.size _⟩
  have h4 : C.length ≤ 40 := by omega
  have k4 : ((40 : Int) < (C.length : Int)) = False := eq_false (by omega)
  have hb0 := hb h4
  replace hb := hb h4
  replace HG := Lib.hid (HG.out h4)
  replace HBY := Lib.hid (HBY.out h4)
  have HT : Hid (Has (w1.alloc (.cells #[.slice q C.length c] 25)) w1.heap.size 25 [.slice q C.length c]) := Lib.hid (Has.made w1 _ _)
  replace HB : Hid (Below w.heap.size w (w1.alloc (.cells #[.slice q C.length c] 25))) := Lib.hid (HB.out.alloc HB.out.size _)
  go_wp2_with fail
  refine (HG.out _ HB.out).mono ?_
  rintro e w2 ⟨rfl, hb2⟩
  replace HB := Lib.hid (HB.out.trans (hb2.mono HB.out.size))
  replace HT := Lib.hid (HT.out.keep hb2 HT.out.lt)
  clear hb2 HG
  generalize w1.heap.size = BT at *
  cases hgp : goodP C with
  | false =>
    go_wp2_with fail
    go_ret
    exact ⟨rfl, HB.out⟩
  | true =>
  have HGD := Lib.hid hgp
  replace HPG := Lib.hid (HPG.out hgp)
  replace HMG := Lib.hid (HMG.out hgp)
  have HBQ := Lib.hid (HBP.out hgp)
  have ct := HT.out.cellv (i := 0) (v := .slice q C.length c) rfl
  clear hgp HBP
  go_wp2_with fail
  refine (HBY.out _ HB.out).mono ?_
  rintro e w3 ⟨rfl, hb3⟩
  replace HB := Lib.hid (HB.out.trans (hb3.mono HB.out.size))
  replace HT := Lib.hid (HT.out.keep hb3 HT.out.lt)
  clear hb3 ct HBY
  rw [HBQ.out]
  by_cases hb5 : 5000 < bytesT C
  · have k5 : (5000 : Int) < (bytesT C : Int) := by omega
    go_wp2_with fail
    go_ret
    exact ⟨rfl, HB.out⟩
  have k5 : ((5000 : Int) < (bytesT C : Int)) = False := eq_false (by omega)
  by_cases hp1 : 100 < p.size
  · have kp : (100 : Int) < (p.size : Int) := by omega
    go_wp2_with fail
    go_ret
    exact ⟨rfl, HB.out⟩
  have kp : ((100 : Int) < (p.size : Int)) = False := eq_false (by omega)
  by_cases hb5b : 500 < b.length
  · have kb : (500 : Int) < (b.length : Int) := by omega
    go_wp2_with fail
    go_ret
    exact ⟨rfl, HB.out⟩
  have kb : ((500 : Int) < (b.length : Int)) = False := eq_false (by omega)
  have hp2 : p.size ≤ 100 := by omega
  have hb2l : b.length ≤ 500 := by omega
  replace HFI := Lib.hid (HFI.out h4 hp2 HGD.out)
  replace HPU := Lib.hid (HPU.out h4 hp2 hb2l)
  replace HMK := Lib.hid (HMK.out h4 hp2)
  have ct := HT.out.cellv (i := 0) (v := .slice q C.length c) rfl
  go_wp2_with fail
  refine (HFI.out _ HB.out).mono ?_
  rintro e w4 ⟨⟨⟨x, d, bv, bb⟩, rfl, hOB, _⟩, hb4⟩
  obtain ⟨x5, m5, k5', hbv⟩ := own_slice' hOB
  have hbv' : bv = .slice x5 m5 k5' := hbv
  subst hbv'
  replace HB := Lib.hid (HB.out.trans (hb4.mono HB.out.size))
  replace HT := Lib.hid (HT.out.keep hb4 HT.out.lt)
  clear hb4 ct hOB hbv HFI
  simp only [entV]
  generalize hFE : (findP C p).2 = FE at *
  clear hFE
  have ct : ∀ o, (w4.alloc o).cell? ⟨BT, 0, none⟩ = some (.slice q C.length c) := fun o => (HT.out.alloc o).cellv (i := 0) rfl
  replace HB : Hid (Below w.heap.size w (w4.alloc (.cells #[.string x, .bool d, .slice x5 m5 k5'] 32))) := Lib.hid (HB.out.alloc HB.out.size _)
  replace HT := Lib.hid (HT.out.alloc (.cells #[.string x, .bool d, .slice x5 m5 k5'] 32))
  go_wp2_with fail
  refine (HPU.out _ HB.out).mono ?_
  rintro e w5 ⟨⟨v5, y5, rfl, hR5⟩, hb⟩
  replace HB := Lib.hid (HB.out.trans (hb.mono HB.out.size))
  replace HT := Lib.hid (HT.out.keep hb HT.out.lt)
  clear hb ct HPU
  obtain ⟨hXg, hXb, hXl, hXy, hXe⟩ := HPG.out y5
  clear HPG
  generalize puttP C p b y5 = RX at *
  obtain ⟨X, EX⟩ := RX
  simp only [] at hR5 hXg hXb hXl hXy hXe ⊢
  obtain ⟨⟨q5, c5, rfl, hc5, hq5, hs5⟩, hE5⟩ := hR5.tr (HTR.out w5 HB.out).1 (HTR.out w5 HB.out).2
  have hnX : ∀ e ∈ X, e.1.size < 9223372036854775808 := fun e he => by
    rcases hXe e he with h | h
    · rw [h]; omega
    · exact HN.out e h
  have HGX := Lib.hid (fun w1 h1 h2 => tgood_any X q5 c5 (by omega) hc5 (by omega) hnX w1 h1 h2)
  rw [hXg] at HGX
  have HRX := Lib.hid (fun w1 h1 h2 => tremove_any X q5 c5 p (by omega) hc5 hq5 (by omega) hnX (by omega) w1 h1 h2)
  have HXB := Lib.hid hXb
  have HTX : Hid (∀ w', Sees w' w'.heap.size q5 (rowC X) → TrV w' (.slice q5 X.length c5) X) := Lib.hid (fun w' h => ⟨q5, c5, rfl, hc5, hq5, h⟩)
  have hba := (Below.refl _ w5).alloc (Nat.le_refl _) (.cells #[.slice q5 X.length c5] 25)
  have HSX : Hid (Sees (w5.alloc (.cells #[.slice q5 X.length c5] 25)) (w5.alloc (.cells #[.slice q5 X.length c5] 25)).heap.size q5 (rowC X)) := Lib.hid ((hs5.keep hba).more hba.size)
  have HEX : Hid (Ents (w5.alloc (.cells #[.slice q5 X.length c5] 25)) X) := Lib.hid (hE5.keep hba)
  have ct : ∀ o, (w5.alloc o).cell? ⟨BT, 0, none⟩ = some (.slice q C.length c) := fun o => (HT.out.alloc o).cellv (i := 0) rfl
  replace HB : Hid (Below w.heap.size w (w5.alloc (.cells #[.slice q5 X.length c5] 25))) := Lib.hid (HB.out.alloc HB.out.size _)
  replace HT := Lib.hid (HT.out.alloc (.cells #[.slice q5 X.length c5] 25))
  have HX : Hid (Has (w5.alloc (.cells #[.slice q5 X.length c5] 25)) w5.heap.size 25 [.slice q5 X.length c5]) := Lib.hid (Has.made w5 _ _)
  clear hR5 hXg hXb hXl hXy hXe hc5 hq5 hs5 hE5 hnX hba
  go_wp2_with fail
  clear ct
  generalize w5.alloc (.cells #[.slice q5 X.length c5] 25) = W5 at *
  generalize w5.heap.size = B10 at *
  refine (HMK.out _ HB.out).mono ?_
  rintro e w6 ⟨⟨v6, rfl, hR6⟩, hb⟩
  replace HB := Lib.hid (HB.out.trans (hb.mono HB.out.size))
  replace HT := Lib.hid (HT.out.keep hb HT.out.lt)
  replace HX := Lib.hid (HX.out.keep hb HX.out.lt)
  replace HSX := Lib.hid ((HSX.out.keep hb).more hb.size)
  replace HEX := Lib.hid (HEX.out.keep hb)
  clear hb HMK
  obtain ⟨hYg, hYb, hYl, hYy, hYe⟩ := HMG.out
  clear HMG
  generalize makeP C p = RY at *
  obtain ⟨Y, EY⟩ := RY
  simp only [] at hR6 hYg hYb hYl hYy hYe ⊢
  obtain ⟨⟨q6, c6, rfl, hc6, hq6, hs6⟩, hE6⟩ := hR6.tr (HTR.out w6 HB.out).1 (HTR.out w6 HB.out).2
  have hnY : ∀ e ∈ Y, e.1.size < 9223372036854775808 := fun e he => by
    rcases hYe e he with h | h
    · rw [h]; omega
    · exact HN.out e h
  have HGY := Lib.hid (fun w1 h1 h2 => tgood_any Y q6 c6 (by omega) hc6 (by omega) hnY w1 h1 h2)
  rw [hYg] at HGY
  have HRY := Lib.hid (fun w1 h1 h2 => tremove_any Y q6 c6 p (by omega) hc6 hq6 (by omega) hnY (by omega) w1 h1 h2)
  have HYB := Lib.hid hYb
  have HTY : Hid (∀ w', Sees w' w'.heap.size q6 (rowC Y) → TrV w' (.slice q6 Y.length c6) Y) := Lib.hid (fun w' h => ⟨q6, c6, rfl, hc6, hq6, h⟩)
  have hb := (Below.refl _ w6).alloc (Nat.le_refl _) (.cells #[.slice q6 Y.length c6] 25)
  have HSY : Hid (Sees (w6.alloc (.cells #[.slice q6 Y.length c6] 25)) (w6.alloc (.cells #[.slice q6 Y.length c6] 25)).heap.size q6 (rowC Y)) := Lib.hid ((hs6.keep hb).more hb.size)
  have HEY : Hid (Ents (w6.alloc (.cells #[.slice q6 Y.length c6] 25)) Y) := Lib.hid (hE6.keep hb)
  have ct : ∀ o, (w6.alloc o).cell? ⟨BT, 0, none⟩ = some (.slice q C.length c) := fun o => (HT.out.alloc o).cellv (i := 0) rfl
  have cx : ∀ o, (w6.alloc o).cell? ⟨B10, 0, none⟩ = some (.slice q5 X.length c5) := fun o => (HX.out.alloc o).cellv (i := 0) rfl
  replace HB := Lib.hid (HB.out.trans (hb.mono HB.out.size))
  replace HT := Lib.hid (HT.out.keep hb HT.out.lt)
  replace HX := Lib.hid (HX.out.keep hb HX.out.lt)
  replace HSX := Lib.hid ((HSX.out.keep hb).more hb.size)
  replace HEX := Lib.hid (HEX.out.keep hb)
  have HY : Hid (Has (w6.alloc (.cells #[.slice q6 Y.length c6] 25)) w6.heap.size 25 [.slice q6 Y.length c6]) := Lib.hid (Has.made w6 _ _)
  clear hR6 hYg hYb hYl hYy hYe hc6 hq6 hs6 hE6 hnY hb
  by_cases hx : EX = 0
  · subst hx
    by_cases hfe : FE = 5
    · subst hfe
      have hrm := HXB.out rfl rfl
      simp only [hrm] at HRX
      clear HXB hrm
      go_wp2_with fail
      generalize w6.alloc (.cells #[.slice q6 Y.length c6] 25) = W6 at *
      generalize w6.heap.size = B12 at *
      clear ct cx
      refine (HRX.out _ HSX.out HEX.out).mono ?_
      rintro e u1 ⟨⟨v7, rfl, hR7⟩, hb⟩
      replace HB := Lib.hid (HB.out.trans (hb.mono HB.out.size))
      replace HT := Lib.hid (HT.out.keep hb HT.out.lt)
      replace HX := Lib.hid (HX.out.keep hb HX.out.lt)
      replace HY := Lib.hid (HY.out.keep hb HY.out.lt)
      replace HSX := Lib.hid ((HSX.out.keep hb).more hb.size)
      replace HEX := Lib.hid (HEX.out.keep hb)
      replace HSY := Lib.hid ((HSY.out.keep hb).more hb.size)
      replace HEY := Lib.hid (HEY.out.keep hb)
      clear hb
      obtain ⟨⟨q7, c7, rfl, hc7, hq7, hs7⟩, _⟩ := hR7.tr (HTX.out u1 HSX.out) HEX.out
      have ct : ∀ o, (u1.alloc o).cell? ⟨BT, 0, none⟩ = some (.slice q C.length c) := fun o => (HT.out.alloc o).cellv (i := 0) rfl
      have hb := (Below.refl _ u1).alloc (Nat.le_refl _) (.cells #[.slice q7 C.length c7] 25)
      have HS7 : Hid (Sees (u1.alloc (.cells #[.slice q7 C.length c7] 25)) (u1.alloc (.cells #[.slice q7 C.length c7] 25)).heap.size q7 (rowC C)) := Lib.hid ((hs7.keep hb).more hb.size)
      have HC7 := Lib.hid hc7
      replace HB := Lib.hid (HB.out.trans (hb.mono HB.out.size))
      replace HT := Lib.hid (HT.out.keep hb HT.out.lt)
      replace HX := Lib.hid (HX.out.keep hb HX.out.lt)
      replace HY := Lib.hid (HY.out.keep hb HY.out.lt)
      replace HSX := Lib.hid ((HSX.out.keep hb).more hb.size)
      replace HEX := Lib.hid (HEX.out.keep hb)
      replace HSY := Lib.hid ((HSY.out.keep hb).more hb.size)
      replace HEY := Lib.hid (HEY.out.keep hb)
      clear hb
      clear hR7 hc7 hq7 hs7
      go_wp2_with fail
      clear ct
      obtain ⟨⟨q8, c8, hq8, _, _, hs8⟩, hE8⟩ := HTR.out _ HB.out
      cases hq8
      refine (HSM.out C q7 q c7 c rfl h4 hb0 HGD.out HC7.out hcap _ HS7.out hs8 hE8).mono ?_
      clear hs8 hE8
      rintro e u2 ⟨rfl, hb⟩
      clear HS7 HC7
      replace HB := Lib.hid (HB.out.trans (hb.mono HB.out.size))
      replace HT := Lib.hid (HT.out.keep hb HT.out.lt)
      replace HX := Lib.hid (HX.out.keep hb HX.out.lt)
      replace HY := Lib.hid (HY.out.keep hb HY.out.lt)
      replace HSX := Lib.hid ((HSX.out.keep hb).more hb.size)
      replace HEX := Lib.hid (HEX.out.keep hb)
      replace HSY := Lib.hid ((HSY.out.keep hb).more hb.size)
      replace HEY := Lib.hid (HEY.out.keep hb)
      clear hb
      by_cases hy : EY = 0
      · subst hy
        have hrm := HYB.out rfl
        obtain ⟨hrm, hfe2⟩ := hrm
        clear hfe2
        simp only [hrm] at HRY
        clear HYB hrm
        have cY := HY.out.cellv (i := 0) (v := .slice q6 Y.length c6) rfl
        go_wp2_with fail
        clear cY
        refine (HRY.out _ HSY.out HEY.out).mono ?_
        rintro e u3 ⟨⟨v7, rfl, hR7⟩, hb⟩
        replace HB := Lib.hid (HB.out.trans (hb.mono HB.out.size))
        replace HT := Lib.hid (HT.out.keep hb HT.out.lt)
        replace HX := Lib.hid (HX.out.keep hb HX.out.lt)
        replace HY := Lib.hid (HY.out.keep hb HY.out.lt)
        replace HSX := Lib.hid ((HSX.out.keep hb).more hb.size)
        replace HEX := Lib.hid (HEX.out.keep hb)
        replace HSY := Lib.hid ((HSY.out.keep hb).more hb.size)
        replace HEY := Lib.hid (HEY.out.keep hb)
        clear hb
        obtain ⟨⟨q7, c7, rfl, hc7, hq7, hs7⟩, _⟩ := hR7.tr (HTY.out u3 HSY.out) HEY.out
        have ct : ∀ o, (u3.alloc o).cell? ⟨BT, 0, none⟩ = some (.slice q C.length c) := fun o => (HT.out.alloc o).cellv (i := 0) rfl
        have hb := (Below.refl _ u3).alloc (Nat.le_refl _) (.cells #[.slice q7 C.length c7] 25)
        have HS7 : Hid (Sees (u3.alloc (.cells #[.slice q7 C.length c7] 25)) (u3.alloc (.cells #[.slice q7 C.length c7] 25)).heap.size q7 (rowC C)) := Lib.hid ((hs7.keep hb).more hb.size)
        have HC7 := Lib.hid hc7
        replace HB := Lib.hid (HB.out.trans (hb.mono HB.out.size))
        replace HT := Lib.hid (HT.out.keep hb HT.out.lt)
        replace HX := Lib.hid (HX.out.keep hb HX.out.lt)
        replace HY := Lib.hid (HY.out.keep hb HY.out.lt)
        replace HSX := Lib.hid ((HSX.out.keep hb).more hb.size)
        replace HEX := Lib.hid (HEX.out.keep hb)
        replace HSY := Lib.hid ((HSY.out.keep hb).more hb.size)
        replace HEY := Lib.hid (HEY.out.keep hb)
        clear hb
        clear hR7 hc7 hq7 hs7
        go_wp2_with fail
        clear ct
        obtain ⟨⟨q8, c8, hq8, _, _, hs8⟩, hE8⟩ := HTR.out _ HB.out
        cases hq8
        refine (HSM.out C q7 q c7 c rfl h4 hb0 HGD.out HC7.out hcap _ HS7.out hs8 hE8).mono ?_
        clear hs8 hE8
        rintro e u4 ⟨rfl, hb⟩
        clear HS7 HC7
        replace HB := Lib.hid (HB.out.trans (hb.mono HB.out.size))
        replace HT := Lib.hid (HT.out.keep hb HT.out.lt)
        replace HX := Lib.hid (HX.out.keep hb HX.out.lt)
        replace HY := Lib.hid (HY.out.keep hb HY.out.lt)
        replace HSX := Lib.hid ((HSX.out.keep hb).more hb.size)
        replace HEX := Lib.hid (HEX.out.keep hb)
        replace HSY := Lib.hid ((HSY.out.keep hb).more hb.size)
        replace HEY := Lib.hid (HEY.out.keep hb)
        clear hb
        have cX := HX.out.cellv (i := 0) (v := .slice q5 X.length c5) rfl
        go_wp2_with fail
        clear cX
        refine (HGX.out _ HSX.out HEX.out).mono ?_
        rintro e u5 ⟨rfl, hb⟩
        replace HB := Lib.hid (HB.out.trans (hb.mono HB.out.size))
        replace HT := Lib.hid (HT.out.keep hb HT.out.lt)
        replace HX := Lib.hid (HX.out.keep hb HX.out.lt)
        replace HY := Lib.hid (HY.out.keep hb HY.out.lt)
        replace HSX := Lib.hid ((HSX.out.keep hb).more hb.size)
        replace HEX := Lib.hid (HEX.out.keep hb)
        replace HSY := Lib.hid ((HSY.out.keep hb).more hb.size)
        replace HEY := Lib.hid (HEY.out.keep hb)
        clear hb
        have cY := HY.out.cellv (i := 0) (v := .slice q6 Y.length c6) rfl
        go_wp2_with fail
        clear cY
        refine (HGY.out _ HSY.out HEY.out).mono ?_
        rintro e u6 ⟨rfl, hb⟩
        replace HB := Lib.hid (HB.out.trans (hb.mono HB.out.size))
        replace HT := Lib.hid (HT.out.keep hb HT.out.lt)
        replace HX := Lib.hid (HX.out.keep hb HX.out.lt)
        replace HY := Lib.hid (HY.out.keep hb HY.out.lt)
        replace HSX := Lib.hid ((HSX.out.keep hb).more hb.size)
        replace HEX := Lib.hid (HEX.out.keep hb)
        replace HSY := Lib.hid ((HSY.out.keep hb).more hb.size)
        replace HEY := Lib.hid (HEY.out.keep hb)
        clear hb
        go_wp2_with fail
        go_ret
        exact ⟨rfl, HB.out⟩
      · have kY : (EY = 0) = False := eq_false hy
        have kYb : (EY == 0) = false := by simpa using hy
        have kYn : (EY != 0) = true := by simpa using hy
        have cX := HX.out.cellv (i := 0) (v := .slice q5 X.length c5) rfl
        go_wp2_with fail
        clear cX
        refine (HGX.out _ HSX.out HEX.out).mono ?_
        rintro e u7 ⟨rfl, hb⟩
        replace HB := Lib.hid (HB.out.trans (hb.mono HB.out.size))
        replace HT := Lib.hid (HT.out.keep hb HT.out.lt)
        replace HX := Lib.hid (HX.out.keep hb HX.out.lt)
        replace HY := Lib.hid (HY.out.keep hb HY.out.lt)
        replace HSX := Lib.hid ((HSX.out.keep hb).more hb.size)
        replace HEX := Lib.hid (HEX.out.keep hb)
        replace HSY := Lib.hid ((HSY.out.keep hb).more hb.size)
        replace HEY := Lib.hid (HEY.out.keep hb)
        clear hb
        have cY := HY.out.cellv (i := 0) (v := .slice q6 Y.length c6) rfl
        go_wp2_with fail
        clear cY
        refine (HGY.out _ HSY.out HEY.out).mono ?_
        rintro e u8 ⟨rfl, hb⟩
        replace HB := Lib.hid (HB.out.trans (hb.mono HB.out.size))
        replace HT := Lib.hid (HT.out.keep hb HT.out.lt)
        replace HX := Lib.hid (HX.out.keep hb HX.out.lt)
        replace HY := Lib.hid (HY.out.keep hb HY.out.lt)
        replace HSX := Lib.hid ((HSX.out.keep hb).more hb.size)
        replace HEX := Lib.hid (HEX.out.keep hb)
        replace HSY := Lib.hid ((HSY.out.keep hb).more hb.size)
        replace HEY := Lib.hid (HEY.out.keep hb)
        clear hb
        go_wp2_with fail
        go_ret
        exact ⟨rfl, HB.out⟩
    · have kF : (FE = 5) = False := eq_false hfe
      have kFb : (FE == 5) = false := by simpa using hfe
      by_cases hy : EY = 0
      · subst hy
        have hrm := HYB.out rfl
        exact absurd hrm.2 hfe
      · have kY : (EY = 0) = False := eq_false hy
        have kYb : (EY == 0) = false := by simpa using hy
        have kYn : (EY != 0) = true := by simpa using hy
        go_wp2_with fail
        generalize w6.alloc (.cells #[.slice q6 Y.length c6] 25) = W6 at *
        generalize w6.heap.size = B12 at *
        clear ct cx
        refine (HGX.out _ HSX.out HEX.out).mono ?_
        rintro e u9 ⟨rfl, hb⟩
        replace HB := Lib.hid (HB.out.trans (hb.mono HB.out.size))
        replace HT := Lib.hid (HT.out.keep hb HT.out.lt)
        replace HX := Lib.hid (HX.out.keep hb HX.out.lt)
        replace HY := Lib.hid (HY.out.keep hb HY.out.lt)
        replace HSX := Lib.hid ((HSX.out.keep hb).more hb.size)
        replace HEX := Lib.hid (HEX.out.keep hb)
        replace HSY := Lib.hid ((HSY.out.keep hb).more hb.size)
        replace HEY := Lib.hid (HEY.out.keep hb)
        clear hb
        have cY := HY.out.cellv (i := 0) (v := .slice q6 Y.length c6) rfl
        go_wp2_with fail
        clear cY
        refine (HGY.out _ HSY.out HEY.out).mono ?_
        rintro e u10 ⟨rfl, hb⟩
        replace HB := Lib.hid (HB.out.trans (hb.mono HB.out.size))
        replace HT := Lib.hid (HT.out.keep hb HT.out.lt)
        replace HX := Lib.hid (HX.out.keep hb HX.out.lt)
        replace HY := Lib.hid (HY.out.keep hb HY.out.lt)
        replace HSX := Lib.hid ((HSX.out.keep hb).more hb.size)
        replace HEX := Lib.hid (HEX.out.keep hb)
        replace HSY := Lib.hid ((HSY.out.keep hb).more hb.size)
        replace HEY := Lib.hid (HEY.out.keep hb)
        clear hb
        go_wp2_with fail
        go_ret
        exact ⟨rfl, HB.out⟩
  · have kX : (EX = 0) = False := eq_false hx
    have kXb : (EX == 0) = false := by simpa using hx
    have kXn : (EX != 0) = true := by simpa using hx
    by_cases hy : EY = 0
    · subst hy
      have hrm := HYB.out rfl
      obtain ⟨hrm, hfe2⟩ := hrm
      subst hfe2
      simp only [hrm] at HRY
      clear HYB hrm
      go_wp2_with fail
      generalize w6.alloc (.cells #[.slice q6 Y.length c6] 25) = W6 at *
      generalize w6.heap.size = B12 at *
      clear ct cx
      refine (HRY.out _ HSY.out HEY.out).mono ?_
      rintro e u11 ⟨⟨v7, rfl, hR7⟩, hb⟩
      replace HB := Lib.hid (HB.out.trans (hb.mono HB.out.size))
      replace HT := Lib.hid (HT.out.keep hb HT.out.lt)
      replace HX := Lib.hid (HX.out.keep hb HX.out.lt)
      replace HY := Lib.hid (HY.out.keep hb HY.out.lt)
      replace HSX := Lib.hid ((HSX.out.keep hb).more hb.size)
      replace HEX := Lib.hid (HEX.out.keep hb)
      replace HSY := Lib.hid ((HSY.out.keep hb).more hb.size)
      replace HEY := Lib.hid (HEY.out.keep hb)
      clear hb
      obtain ⟨⟨q7, c7, rfl, hc7, hq7, hs7⟩, _⟩ := hR7.tr (HTY.out u11 HSY.out) HEY.out
      have ct : ∀ o, (u11.alloc o).cell? ⟨BT, 0, none⟩ = some (.slice q C.length c) := fun o => (HT.out.alloc o).cellv (i := 0) rfl
      have hb := (Below.refl _ u11).alloc (Nat.le_refl _) (.cells #[.slice q7 C.length c7] 25)
      have HS7 : Hid (Sees (u11.alloc (.cells #[.slice q7 C.length c7] 25)) (u11.alloc (.cells #[.slice q7 C.length c7] 25)).heap.size q7 (rowC C)) := Lib.hid ((hs7.keep hb).more hb.size)
      have HC7 := Lib.hid hc7
      replace HB := Lib.hid (HB.out.trans (hb.mono HB.out.size))
      replace HT := Lib.hid (HT.out.keep hb HT.out.lt)
      replace HX := Lib.hid (HX.out.keep hb HX.out.lt)
      replace HY := Lib.hid (HY.out.keep hb HY.out.lt)
      replace HSX := Lib.hid ((HSX.out.keep hb).more hb.size)
      replace HEX := Lib.hid (HEX.out.keep hb)
      replace HSY := Lib.hid ((HSY.out.keep hb).more hb.size)
      replace HEY := Lib.hid (HEY.out.keep hb)
      clear hb
      clear hR7 hc7 hq7 hs7
      go_wp2_with fail
      clear ct
      obtain ⟨⟨q8, c8, hq8, _, _, hs8⟩, hE8⟩ := HTR.out _ HB.out
      cases hq8
      refine (HSM.out C q7 q c7 c rfl h4 hb0 HGD.out HC7.out hcap _ HS7.out hs8 hE8).mono ?_
      clear hs8 hE8
      rintro e u12 ⟨rfl, hb⟩
      clear HS7 HC7
      replace HB := Lib.hid (HB.out.trans (hb.mono HB.out.size))
      replace HT := Lib.hid (HT.out.keep hb HT.out.lt)
      replace HX := Lib.hid (HX.out.keep hb HX.out.lt)
      replace HY := Lib.hid (HY.out.keep hb HY.out.lt)
      replace HSX := Lib.hid ((HSX.out.keep hb).more hb.size)
      replace HEX := Lib.hid (HEX.out.keep hb)
      replace HSY := Lib.hid ((HSY.out.keep hb).more hb.size)
      replace HEY := Lib.hid (HEY.out.keep hb)
      clear hb
      have cX := HX.out.cellv (i := 0) (v := .slice q5 X.length c5) rfl
      go_wp2_with fail
      clear cX
      refine (HGX.out _ HSX.out HEX.out).mono ?_
      rintro e u13 ⟨rfl, hb⟩
      replace HB := Lib.hid (HB.out.trans (hb.mono HB.out.size))
      replace HT := Lib.hid (HT.out.keep hb HT.out.lt)
      replace HX := Lib.hid (HX.out.keep hb HX.out.lt)
      replace HY := Lib.hid (HY.out.keep hb HY.out.lt)
      replace HSX := Lib.hid ((HSX.out.keep hb).more hb.size)
      replace HEX := Lib.hid (HEX.out.keep hb)
      replace HSY := Lib.hid ((HSY.out.keep hb).more hb.size)
      replace HEY := Lib.hid (HEY.out.keep hb)
      clear hb
      have cY := HY.out.cellv (i := 0) (v := .slice q6 Y.length c6) rfl
      go_wp2_with fail
      clear cY
      refine (HGY.out _ HSY.out HEY.out).mono ?_
      rintro e u14 ⟨rfl, hb⟩
      replace HB := Lib.hid (HB.out.trans (hb.mono HB.out.size))
      replace HT := Lib.hid (HT.out.keep hb HT.out.lt)
      replace HX := Lib.hid (HX.out.keep hb HX.out.lt)
      replace HY := Lib.hid (HY.out.keep hb HY.out.lt)
      replace HSX := Lib.hid ((HSX.out.keep hb).more hb.size)
      replace HEX := Lib.hid (HEX.out.keep hb)
      replace HSY := Lib.hid ((HSY.out.keep hb).more hb.size)
      replace HEY := Lib.hid (HEY.out.keep hb)
      clear hb
      go_wp2_with fail
      go_ret
      exact ⟨rfl, HB.out⟩
    · have kY : (EY = 0) = False := eq_false hy
      have kYb : (EY == 0) = false := by simpa using hy
      have kYn : (EY != 0) = true := by simpa using hy
      go_wp2_with fail
      generalize w6.alloc (.cells #[.slice q6 Y.length c6] 25) = W6 at *
      generalize w6.heap.size = B12 at *
      clear ct cx
      refine (HGX.out _ HSX.out HEX.out).mono ?_
      rintro e u15 ⟨rfl, hb⟩
      replace HB := Lib.hid (HB.out.trans (hb.mono HB.out.size))
      replace HT := Lib.hid (HT.out.keep hb HT.out.lt)
      replace HX := Lib.hid (HX.out.keep hb HX.out.lt)
      replace HY := Lib.hid (HY.out.keep hb HY.out.lt)
      replace HSX := Lib.hid ((HSX.out.keep hb).more hb.size)
      replace HEX := Lib.hid (HEX.out.keep hb)
      replace HSY := Lib.hid ((HSY.out.keep hb).more hb.size)
      replace HEY := Lib.hid (HEY.out.keep hb)
      clear hb
      have cY := HY.out.cellv (i := 0) (v := .slice q6 Y.length c6) rfl
      go_wp2_with fail
      clear cY
      refine (HGY.out _ HSY.out HEY.out).mono ?_
      rintro e u16 ⟨rfl, hb⟩
      replace HB := Lib.hid (HB.out.trans (hb.mono HB.out.size))
      replace HT := Lib.hid (HT.out.keep hb HT.out.lt)
      replace HX := Lib.hid (HX.out.keep hb HX.out.lt)
      replace HY := Lib.hid (HY.out.keep hb HY.out.lt)
      replace HSX := Lib.hid ((HSX.out.keep hb).more hb.size)
      replace HEX := Lib.hid (HEX.out.keep hb)
      replace HSY := Lib.hid ((HSY.out.keep hb).more hb.size)
      replace HEY := Lib.hid (HEY.out.keep hb)
      clear hb
      go_wp2_with fail
      go_ret
      exact ⟨rfl, HB.out⟩
end Go.Proofs.YthpendoblgndcaaDoor
namespace Go.Proofs.YthpendoblgndcaaDoor
open Go.ChangeShapes Go.WideShapes Go.ChangeAt Go.RowKit Go.ChangeMaps
set_option maxRecDepth 100000 in
theorem back8_lifted (os : Os) (started : os.Started) (H : Type) (enc : TypeId × Value → H) :
    ReturnsInHanded {} Tryd.checked os 6 .any (fun w args => (Rows.treeBackSpec.pre enc Tryd.prog Tryd.f6 [] false w args ∧ laidMetH Tryd.prog laidVars w) ∧ sizedMet enc Tryd.prog Tryd.f6 (OpenSpec.ofChange Rows.treeBackSpec) false w args)
      (Rows.treeBackSpec.post enc Tryd.prog Tryd.f6 false true false false) := by
  refine returnsInHanded_of_change_and (C := Tryd.checked) (X := fun w _ => laidMetH Tryd.prog laidVars w) (fun _ _ _ hh h => h.of_heap hh) own started (by kernel_rfl) Tryd.func6
    (ChangeSpec.witness_shaped (enc := enc) (C := Tryd.checked) (os := os) (X := fun w _ => laidMetH Tryd.prog laidVars w) false (World.laidAll Tryd.prog os laidVars) #[.slice none 0 0, .string ⟨#[]⟩, .slice none 0 0] 8 (World.laidAll_os _ _ _) (World.shaped_of_ZipB (by kernel_rfl) (by kernel_rfl)) (by kernel_rfl) (by kernel_rfl) (by kernel_rfl) (laid_met os _)) ?_
  intro W base args ds gs before hval0 hW _ hsz0 hL _
  have hval : ∀ (j : Nat) t v, Tryd.f6.params[j]? = some t → args[j]? = some v → Value.okWide Tryd.prog W .any base t v := hval0
  have hW' := hW
  obtain ⟨p, q, hA0, hV, rfl, hfz, hnd⟩ := hW
  have hA : DataW.TrodAll enc Tryd.prog W 0 (fun _ => true) true Tryd.f6.params.toList args.toList ds p := hA0
  have hsz : (DataW.weightsEach Tryd.prog (Tryd.f6.params.toList ++ Rows.treeBackSpec.plain.varTypes Tryd.prog) (ds ++ gs)).all (· ≤ reachBytes) = true := hsz0
  rw [Tryd.params6] at hA hval hsz
  obtain ⟨v0, vs0, d0, ds0, p0, g0, hargs, rfl, rfl, h0, r0⟩ := trodAll_cons hA
  obtain ⟨v1, vs1, d1, ds1, p1, g1, rfl, rfl, rfl, h1, r1⟩ := trodAll_cons r0
  obtain ⟨v2, vs2, d2, ds2, p2, g2, rfl, rfl, rfl, h2, r2⟩ := trodAll_cons r1
  obtain ⟨rfl, rfl, rfl⟩ := trodAll_nil r2
  obtain rfl : args = #[v0, v1, v2] := by cases args; simp_all
  obtain ⟨rfl, rfl⟩ := trodVars_none hV
  have k0 := h0
  have lt0 : ∀ x ∈ p0, x.block < W.heap.size := by obtain ⟨m, hm⟩ := k0; exact DataW.trod_lt m _ _ _ hm
  obtain ⟨l0, q0, c0, rfl, hc0, hq0, hn0, hs0, hE0, hw0⟩ := open_ents (hval 0 23 v0 rfl rfl) h0
  have z0 : ∀ e ∈ l0, e.by.length ≤ reachBytes := fun e he => by
    rcases hw0 e he with h | ⟨n, hn, hle⟩
    · omega
    · exact Nat.le_trans hle (of_decide_eq_true (List.all_eq_true.1 hsz n (DataW.weights_mem_each (j := 0) rfl rfl n hn)))
  obtain ⟨s1, rfl, rfl, rfl, m1⟩ := open_string Tryd.underlying9 (hval 1 9 v1 rfl rfl) h1
  have z1 : s1.size ≤ reachBytes := sized_string hsz (j := 1) (t := 9) rfl rfl
  have k2 := h2
  have lt2 : ∀ x ∈ p2, x.block < W.heap.size := by obtain ⟨m, hm⟩ := k2; exact DataW.trod_lt m _ _ _ hm
  obtain ⟨b2, ⟨q2, c2, hv2, hc2, hq2, hs2⟩, hm2, hw2⟩ := open_bytes8 (hval 2 30 v2 rfl rfl) h2
  subst hv2
  clear hA0 hval0
  refine (back8_any l0 q0 c0 s1 b2 q2 c2 hc0 hq0 (bytes_bound z0) (paths_bound hn0) hq2 W hs0 hE0 hs2).mono fun e W' ⟨he, bel⟩ => ?_
  subst he
  exact ⟨_, rfl, _, _, _, [], _, [], hW', trodAll_mk1 (shut_bool Tryd.underlying4 _), (trodAll_cons_mk (Below.trod laidOut (by kernel_rfl) (of_decide_eq_true (by kernel_rfl)) k0 bel lt0) (trodAll_cons_mk (shut_string Tryd.underlying9 m1) (trodAll_cons_mk (Below.trod laidOut (by kernel_rfl) (of_decide_eq_true (by kernel_rfl)) k2 bel lt2) trodAll_mk0))), rfl, bel.frame _, fun h => by cases h⟩
theorem back8_row : Rows.TreeBackSaid :=
  OpenClaim.holds_of_wide 6 Tryd.f6 rfl rfl rfl rfl rfl rfl rfl ⟨rfl, rfl, rfl, rfl, rfl⟩ rfl rfl rfl rfl rfl (by kernel_rfl) Tryd.func6 (by kernel_rfl)
    (of_decide_eq_true (by kernel_rfl)) (by unfold Func.isWrapper; first | (rw [if_pos (by decide +kernel)]; kernel_rfl) | (rw [if_neg (by decide +kernel)]; exact ⟨rfl, rfl⟩))
    (fun os started H enc _ => back8_lifted os started H enc)
theorem treeBack_holds : Rows.TreeBackCardSaid :=
  Claim7.holds_tied_plain_at .later [] [.data, .pinned] true Rows.treeBackCard.stood.harness Rows.treeBackCard.stood.looks
    back8_row (fun _ h => by cases h) (by kernel_rfl) (fun _ h => by cases h) treeBack_row_tie rfl ⟨rfl, rfl⟩ (by kernel_rfl) rfl
    (fun f fn hf hfn => by
      obtain rfl : f = 6 := Option.some.inj ((show Tryd.prog.funcNamed "tallyman/tallymanlaw8.TreeBack" = some 6 by kernel_rfl).symm.trans hf) |>.symm
      obtain rfl : fn = Tryd.f6 := (Option.some.inj (Tryd.func6.symm.trans hfn)).symm
      exact ⟨by kernel_rfl, fun j t ht => by
        rw [Tryd.params6] at ht
        have hm : t ∈ [23, 9, 30] := by simpa using Array.mem_of_getElem? ht
        have hall : ([23, 9, 30].all fun u => !Tryd.prog.wantsStandIn u) = true := by kernel_rfl
        exact (show Tryd.prog.wantsStandIn t = false by simpa using List.all_eq_true.1 hall t hm)⟩)
    (by kernel_rfl)
#print axioms treeBack_holds
end Go.Proofs.YthpendoblgndcaaDoor
