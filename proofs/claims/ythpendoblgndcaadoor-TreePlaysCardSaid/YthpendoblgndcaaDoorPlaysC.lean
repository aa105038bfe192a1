/- The law TreePlays returns true at every input, and its arguments read as they did. No condition. -/
import Derived.Test.YthpendoblgndcaaDoorBase5
import Derived.Test.YthpendoblgndcaaDoorPly1
import Derived.Test.YthpendoblgndcaaDoorExt1
import Derived.Test.YthpendoblgndcaaDoorCards
import Derived.Test.YthpendoblgndcaaDoorTie
import Derived.ShutString
import Derived.ChangeOld
import Derived.SevenTiedAt
/- The law TreePlays: it returns true. No condition. -/
namespace Go.Proofs.YthpendoblgndcaaDoor
open Go.RowKit
/-- Both trees, as they stand between two calls. -/
def Plays (w : World) (BT : Nat) (v6 : Value) (C D : List Ent) (qt : Option Addr) (ct : Nat) : Prop :=
  goodP C = true ∧ Sim C D ∧ Has w BT 25 [.slice qt C.length ct] ∧ C.length ≤ ct ∧ (qt = none → ct = 0) ∧ Sees w w.heap.size qt (rowC C) ∧ Ents w C ∧ TrV w v6 D ∧ Ents w D
set_option maxHeartbeats 64000000 in
set_option maxRecDepth 100000 in
theorem plays8_any (L : List ActE) (q : Option Addr) (c : Nat) (p : ByteArray) (w : World) (hs : Sees w w.heap.size q (rowA L)) (hB : ∀ a ∈ L, Bs w a.2.2.2.1 a.2.2.2.2) :
    Calls Tryd.prog 4 #[.slice q L.length c, .string p] w fun e w' => e = .returned (.bool true) ∧ Below w.heap.size w w' := by
  have HAW := Lib.hid (awake8_any w)
  have HSA := Lib.hid hs
  have HBA := Lib.hid hB
  clear hs hB
  go_enter Tryd.func4, Tryd.ntmps4
  go_wp2_with fail
  refine HAW.out.mono ?_
  rintro e w1 ⟨rfl, hb1⟩
  have HB := Lib.hid hb1
  clear hb1 HAW
  by_cases hl0 : 60 < L.length
  · have k1 : (60 : Int) < (L.length : Int) := by omega
    go_wp2_with fail
    go_ret
    exact ⟨rfl, HB.out⟩
  have k1 : ((60 : Int) < (L.length : Int)) = False := eq_false (by omega)
  by_cases hp0 : 100 < p.size
  · have k3 : (100 : Int) < (p.size : Int) := by omega
    go_wp2_with fail
    go_ret
    exact ⟨rfl, HB.out⟩
  have k3 : ((100 : Int) < (p.size : Int)) = False := eq_false (by omega)
  have hp : p.size ≤ 100 := by omega
  have hL : L.length ≤ 60 := by omega
  clear hl0 hp0
  go_wp2_with fail
  have HT : Hid (Has ((w1.alloc (.cells #[.slice none 0 0] 25)).alloc (.cells #[] 51)) w1.heap.size 25 [.slice none 0 0]) := Lib.hid ((Has.made w1 _ _).alloc _)
  have hBT : w.heap.size ≤ w1.heap.size := HB.out.size
  replace HB : Hid (Below w.heap.size w ((w1.alloc (.cells #[.slice none 0 0] 25)).alloc (.cells #[] 51))) := Lib.hid ((HB.out.alloc HB.out.size _).alloc (by have := HB.out.size; simp; omega) _)
  have HPL : Hid (Plays ((w1.alloc (.cells #[.slice none 0 0] 25)).alloc (.cells #[] 51)) w1.heap.size (.slice (some ⟨w1.heap.size + 1, 0, none⟩) 0 0) [] [] none 0) := Lib.hid ⟨rfl, rfl, HT.out, Nat.le_refl _, fun _ => rfl, Sees.nil _ _ _, (fun _ h => nomatch h), ⟨_, 0, rfl, Nat.le_refl _, (fun h => by cases h), Sees.nil _ _ _⟩, (fun _ h => nomatch h)⟩
  clear HT k1 k3
  generalize (w1.alloc (.cells #[.slice none 0 0] 25)).alloc (.cells #[] 51) = W1 at *
  generalize (.slice (some ⟨w1.heap.size + 1, 0, none⟩) 0 0 : Value) = V6 at *
  generalize w1.heap.size = BT at *
  go_loopw [6, 7] (fun v6 vi wr => ∃ (i : Nat) (C D : List Ent) (qt : Option Addr) (ct : Nat), i ≤ L.length ∧ vi = .int .i64 i ∧ Plays wr BT v6 C D qt ct ∧ Below w.heap.size w wr) (fun _ vi _ => L.length - (intOf vi).toNat)
  case atStart => exact ⟨0, [], [], none, 0, by omega, rfl, HPL.out, HB.out⟩
  case round =>
    obtain ⟨i, C, D, qt, ct, hi, rfl, ⟨hg, hsim, hT, hct, hqt, hsC, hEC, ⟨qd, cd, rfl, hcd, hqd, hsD⟩, hED⟩, hB⟩ := hrel
    obtain ⟨hC1, hC2, hC3⟩ := good_small8 hg
    have hD1 : D.length ≤ 40 := by rw [← hsim.len]; exact hC1
    have hD2 : bytesT D ≤ 16384 := by rw [← hsim.bytes]; exact hC2
    have HNC : Hid (∀ e ∈ C, e.1.size < 9223372036854775808) := Lib.hid (fun e he => by have := hC3 e he; omega)
    have HND : Hid (∀ e ∈ D, e.1.size ≤ 1048576) := Lib.hid (fun e he => by have := hsim.names hC3 e he; omega)
    have HB := Lib.hid hB
    have HT := Lib.hid hT
    have HSC := Lib.hid hsC
    have HEC := Lib.hid hEC
    have HSD := Lib.hid hsD
    have HED := Lib.hid hED
    have HG := Lib.hid hg
    have HSIM := Lib.hid hsim
    have HCT : Hid (C.length ≤ ct ∧ (qt = none → ct = 0)) := Lib.hid ⟨hct, hqt⟩
    have HCD : Hid (D.length ≤ cd ∧ (qd = none → cd = 0)) := Lib.hid ⟨hcd, hqd⟩
    clear hB hT hsC hEC hsD hED hg hsim hct hqt hcd hqd hC3 HPL
    by_cases hlt : i < L.length
    · skip
      obtain ⟨a, rfl, ha, hc⟩ := HSA.out.act hlt
      obtain ⟨c0, c1, c2, c3⟩ := hc wr HB.out
      obtain ⟨qb, cb, hv, hcb, hqb, hsb⟩ := HBA.out L[i] (List.getElem_mem hlt)
      have kk : (i : Int) < (L.length : Int) := by omega
      obtain ⟨e, he⟩ : ∃ e, L[i] = e := ⟨_, rfl⟩
      rw [he] at c0 c1 c2 c3 hv hcb hsb
      obtain ⟨op, pa, to, bv, bb⟩ := e
      have hv' : bv = .slice qb (List.length bb) cb := hv
      subst hv'
      simp only [] at c0 c1 c2 c3 hcb hsb
      have HSBB : Hid (∀ w', Below w.heap.size w w' → Sees w' w'.heap.size qb (bb.map u8v)) := Lib.hid (fun w' h => (hsb.keep h).more h.size)
      have HQB := Lib.hid hqb
      clear hc ha hv he hcb hsb hqb
      have hb := (Below.refl _ wr).alloc (Nat.le_refl _) (.cells #[.int .i64 op, .string pa, .string to, .slice qb bb.length cb] 46)
      have HA : Hid (Has (wr.alloc (.cells #[.int .i64 op, .string pa, .string to, .slice qb bb.length cb] 46)) wr.heap.size 46 [.int .i64 op, .string pa, .string to, .slice qb bb.length cb]) := Lib.hid (Has.made wr _ _)
      have HBA0 := Lib.hid hb
      by_cases hx1 : 100 < pa.size
      · have k1 : (100 : Int) < (pa.size : Int) := by omega
        go_wp2_with fail
        go_ret
        exact ⟨rfl, HB.out.trans (hb.mono HB.out.size)⟩
      have k1 : ((100 : Int) < (pa.size : Int)) = False := eq_false (by omega)
      by_cases hx2 : 100 < to.size
      · have k2 : (100 : Int) < (to.size : Int) := by omega
        go_wp2_with fail
        go_ret
        exact ⟨rfl, HB.out.trans (hb.mono HB.out.size)⟩
      have k2 : ((100 : Int) < (to.size : Int)) = False := eq_false (by omega)
      by_cases hx3 : 2100 < bb.length
      · have k3 : (2100 : Int) < (bb.length : Int) := by omega
        go_wp2_with fail
        go_ret
        exact ⟨rfl, HB.out.trans (hb.mono HB.out.size)⟩
      have k3 : ((2100 : Int) < (bb.length : Int)) = False := eq_false (by omega)
      have hpa : pa.size ≤ 100 := by omega
      have hto : to.size ≤ 100 := by omega
      have hbb : bb.length ≤ 2100 := by omega
      clear hx1 hx2 hx3
      replace HB := Lib.hid (HB.out.trans (hb.mono HB.out.size))
      replace HT := Lib.hid (HT.out.keep hb HT.out.lt)
      replace HSC := Lib.hid ((HSC.out.keep hb).more hb.size)
      replace HEC := Lib.hid (HEC.out.keep hb)
      replace HSD := Lib.hid ((HSD.out.keep hb).more hb.size)
      replace HED := Lib.hid (HED.out.keep hb)
      clear hb HBA0
      by_cases hop0 : op = 0
      · subst hop0
        have HPR : Hid (∀ v v', goodP (puttP C pa bb v).1 = true ∧ (puttP C pa bb v).2 = (putT D pa bb v').2 ∧ Sim (puttP C pa bb v).1 (putT D pa bb v').1) := Lib.hid (fun v v' => by rw [putT_P]; exact ⟨putt_good HG.out pa bb v, HSIM.out.puttP pa bb v v'⟩)
        have ct := HT.out.cellv (i := 0) (v := .slice qt C.length ct) rfl
        have a1 := HA.out.cellv (i := 1) (v := .string pa) rfl
        have a3 := HA.out.cellv (i := 3) (v := .slice qb bb.length cb) rfl
        go_wp2_with fail
        clear ct a1 a3
        generalize wr.alloc (.cells #[.int .i64 0, .string pa, .string to, .slice qb bb.length cb] 46) = W10 at *
        generalize wr.heap.size = BA at *
        refine (tput_any C qt ct pa bb qb cb (by omega) HCT.out.1 HCT.out.2 (by omega) HNC.out (by omega) HQB.out (by omega) _ HSC.out HEC.out (HSBB.out _ HB.out)).mono ?_
        rintro e w1 ⟨⟨v, v5, rfl, hR⟩, hb⟩
        replace HB := Lib.hid (HB.out.trans (hb.mono HB.out.size))
        replace HT := Lib.hid (HT.out.keep hb HT.out.lt)
        replace HA := Lib.hid (HA.out.keep hb HA.out.lt)
        replace HSC := Lib.hid ((HSC.out.keep hb).more hb.size)
        replace HEC := Lib.hid (HEC.out.keep hb)
        replace HSD := Lib.hid ((HSD.out.keep hb).more hb.size)
        replace HED := Lib.hid (HED.out.keep hb)
        clear hb
        obtain ⟨hTX, hEX⟩ := hR.tr ⟨qt, ct, rfl, HCT.out.1, HCT.out.2, HSC.out⟩ HEC.out
        clear hR
        have HPX := Lib.hid (HPR.out v5)
        clear HPR
        generalize puttP C pa bb v5 = RX at *
        obtain ⟨X, EX⟩ := RX
        simp only [] at hTX hEX HPX ⊢
        obtain ⟨qx, cx, rfl, hcx, hqx, hsx⟩ := hTX
        have hne : BT ≠ BA := HT.out.apart HA.out (by decide)
        have ct := HT.out.cellv (i := 0) (v := .slice qt C.length ct) rfl
        have ft := HT.out.free 0
        have HSX : Hid (Sees (w1.setCell ⟨BT, 0, none⟩ (.slice qx X.length cx)) (w1.setCell ⟨BT, 0, none⟩ (.slice qx X.length cx)).heap.size qx (rowC X)) := Lib.hid (by rw [size_set]; exact hsx.offC HT.out)
        have HEX : Hid (Ents (w1.setCell ⟨BT, 0, none⟩ (.slice qx X.length cx)) X) := Lib.hid (hEX.offC HT.out)
        have HCX : Hid (X.length ≤ cx ∧ (qx = none → cx = 0)) := Lib.hid ⟨hcx, hqx⟩
        replace HSD : Hid (Sees (w1.setCell ⟨BT, 0, none⟩ (.slice qx X.length cx)) (w1.setCell ⟨BT, 0, none⟩ (.slice qx X.length cx)).heap.size qd (rowC D)) := Lib.hid (by rw [size_set]; exact HSD.out.offC HT.out)
        replace HED : Hid (Ents (w1.setCell ⟨BT, 0, none⟩ (.slice qx X.length cx)) D) := Lib.hid (HED.out.offC HT.out)
        replace HA : Hid (Has (w1.setCell ⟨BT, 0, none⟩ (.slice qx X.length cx)) BA 46 [.int .i64 0, .string pa, .string to, .slice qb bb.length cb]) := Lib.hid (HA.out.off hne.symm _)
        replace HT : Hid (Has (w1.setCell ⟨BT, 0, none⟩ (.slice qx X.length cx)) BT 25 [.slice qx X.length cx]) := Lib.hid (HT.out.put 0 _)
        replace HB : Hid (Below w.heap.size w (w1.setCell ⟨BT, 0, none⟩ (.slice qx X.length cx))) := Lib.hid (HB.out.setCell (p := ⟨BT, 0, none⟩) hBT _)
        clear hcx hqx hsx hEX hne HSC HEC HCT HNC
        have a1 := HA.out.cellv (i := 1) (v := .string pa) rfl
        have a3 := HA.out.cellv (i := 3) (v := .slice qb bb.length cb) rfl
        go_wp2_with fail
        clear ct ft a1 a3
        generalize w1.setCell ⟨BT, 0, none⟩ (.slice qx X.length cx) = W3 at *
        refine (rput_any D qd cd pa bb qb cb (by omega) HCD.out.1 HCD.out.2 (by omega) (by omega) HND.out (by omega) HQB.out _ HSD.out HED.out (HSBB.out _ HB.out)).mono ?_
        rintro e w2 ⟨⟨v, v7, rfl, hTY, hEY⟩, hb⟩
        replace HB := Lib.hid (HB.out.trans (hb.mono HB.out.size))
        replace HT := Lib.hid (HT.out.keep hb HT.out.lt)
        replace HSX := Lib.hid ((HSX.out.keep hb).more hb.size)
        replace HEX := Lib.hid (HEX.out.keep hb)
        clear hb
        obtain ⟨hgX, hEE, hSS⟩ := HPX.out v7
        clear HPX
        generalize putT D pa bb v7 = RY at *
        obtain ⟨Y, EY⟩ := RY
        simp only [] at hTY hEY hEE hSS ⊢
        have hEE' : EX = EY := hEE
        subst hEE'
        obtain ⟨qy, cy, rfl, hcy, hqy, hsy⟩ := hTY
        have HSY := Lib.hid hsy
        have HEY := Lib.hid hEY
        have HCY : Hid (Y.length ≤ cy ∧ (qy = none → cy = 0)) := Lib.hid ⟨hcy, hqy⟩
        have HSXY : Hid (Sim X Y) := Lib.hid hSS
        have HGX : Hid (goodP X = true) := Lib.hid hgX
        clear hEE hSS hgX hcy hqy hsy hEY HSD HED HCD HND HA
        clear hD1 hD2 hC1 hC2 HSIM HG
        obtain ⟨hX1, hX2, hX3⟩ := good_small8 HGX.out
        have hY1 : Y.length ≤ 40 := by rw [← HSXY.out.len]; exact hX1
        have hY2 : bytesT Y ≤ 16384 := by rw [← HSXY.out.bytes]; exact hX2
        have HNX : Hid (∀ e ∈ X, e.1.size < 9223372036854775808) := Lib.hid (fun e he => by have := hX3 e he; omega)
        have HNY : Hid (∀ e ∈ Y, e.1.size ≤ 1048576) := Lib.hid (fun e he => by have := HSXY.out.names hX3 e he; omega)
        have hRE : rerrT Y p.data.toList = (findP X p).2 := by rw [rerr_P, ← HSXY.out.find]
        have HKD : Hid (kidsT Y p.data.toList = kidsP X p.data.toList) := Lib.hid (by rw [kidsT_P, ← HSXY.out.kids])
        have HKL : Hid ((kidsP X p.data.toList).length ≤ 1000000) := Lib.hid (by
          have : (kidsP X p.data.toList).length ≤ X.length := by
            unfold kidsP inT
            split
            · rw [List.length_map]; exact List.length_filter_le _ _
            · simp
          omega)
        have HBY0 : Hid (bytesP X = bytesT Y) := Lib.hid (by unfold bytesP; rw [if_pos HGX.out]; exact HSXY.out.bytes)
        clear hX3
        have ct := HT.out.cellv (i := 0) (v := .slice qx X.length cx) rfl
        go_wp2_with fail
        clear ct
        refine (tFind_any X qx cx p (by omega) HCX.out.1 (by omega) HNX.out (by omega) (fun e he hgd => by have := good_by hgd e he; omega) _ HSX.out HEX.out).mono ?_
        rintro e x3 ⟨⟨⟨x, d, bv, b2⟩, rfl, hFR⟩, hb⟩
        replace HB := Lib.hid (HB.out.trans (hb.mono HB.out.size))
        replace HT := Lib.hid (HT.out.keep hb HT.out.lt)
        replace HSX := Lib.hid ((HSX.out.keep hb).more hb.size)
        replace HEX := Lib.hid (HEX.out.keep hb)
        replace HSY := Lib.hid ((HSY.out.keep hb).more hb.size)
        replace HEY := Lib.hid (HEY.out.keep hb)
        clear hb
        have HFR := Lib.hid hFR
        obtain ⟨q1, c1x, hv1, _, _, hs1⟩ := hFR.1.bs
        have hv1' : bv = .slice q1 (List.length b2) c1x := hv1
        subst hv1'
        have HS1 : Hid (Sees x3 x3.heap.size q1 (b2.map u8v)) := Lib.hid hs1
        clear hv1 hs1 hFR
        simp only [entV]
        have hb := (Below.refl _ x3).alloc (Nat.le_refl _) (.cells #[.string x, .bool d, .slice q1 b2.length c1x] 32)
        have HBX : Hid (Has (x3.alloc (.cells #[.string x, .bool d, .slice q1 b2.length c1x] 32)) x3.heap.size 32 [.string x, .bool d, .slice q1 b2.length c1x]) := Lib.hid (Has.made x3 _ _)
        replace HS1 := Lib.hid ((HS1.out.keep hb).more hb.size)
        replace HB := Lib.hid (HB.out.trans (hb.mono HB.out.size))
        replace HT := Lib.hid (HT.out.keep hb HT.out.lt)
        replace HSX := Lib.hid ((HSX.out.keep hb).more hb.size)
        replace HEX := Lib.hid (HEX.out.keep hb)
        replace HSY := Lib.hid ((HSY.out.keep hb).more hb.size)
        replace HEY := Lib.hid (HEY.out.keep hb)
        clear hb
        go_wp2_with fail
        generalize x3.alloc (.cells #[.string x, .bool d, .slice q1 b2.length c1x] 32) = V1 at *
        generalize x3.heap.size = BX at *
        refine (rfind_any Y qy cy p (by omega) (by omega) (by omega) HNY.out _ HSY.out HEY.out).mono ?_
        rintro e x4 ⟨⟨⟨x', d', bv', b2'⟩, rfl, hbs, hRF⟩, hb⟩
        replace HB := Lib.hid (HB.out.trans (hb.mono HB.out.size))
        replace HT := Lib.hid (HT.out.keep hb HT.out.lt)
        replace HSX := Lib.hid ((HSX.out.keep hb).more hb.size)
        replace HEX := Lib.hid (HEX.out.keep hb)
        replace HSY := Lib.hid ((HSY.out.keep hb).more hb.size)
        replace HEY := Lib.hid (HEY.out.keep hb)
        replace HBX := Lib.hid (HBX.out.keep hb HBX.out.lt)
        replace HS1 := Lib.hid ((HS1.out.keep hb).more hb.size)
        obtain ⟨e1, e2, e3⟩ := find_same HSXY.out HFR.out hRF
        have e1' : x = x' := e1
        have e2' : d = d' := e2
        have e3' : b2 = b2' := e3
        subst e1' e2' e3'
        rw [hRE]
        generalize (findP X p).2 = FE at *
        obtain ⟨q2, c2x, hv2, _, _, hs2⟩ := hbs
        have hv2' : bv' = .slice q2 (List.length b2) c2x := hv2
        subst hv2'
        have HS2 : Hid (Sees x4 x4.heap.size q2 (b2.map u8v)) := Lib.hid hs2
        clear hb hv2 hs2 hRF e1 e2 e3 HFR hRE
        simp only [entV]
        have hb := (Below.refl _ x4).alloc (Nat.le_refl _) (.cells #[.string x, .bool d, .slice q2 b2.length c2x] 51)
        have HBY : Hid (Has (x4.alloc (.cells #[.string x, .bool d, .slice q2 b2.length c2x] 51)) x4.heap.size 51 [.string x, .bool d, .slice q2 b2.length c2x]) := Lib.hid (Has.made x4 _ _)
        replace HB := Lib.hid (HB.out.trans (hb.mono HB.out.size))
        replace HT := Lib.hid (HT.out.keep hb HT.out.lt)
        replace HSX := Lib.hid ((HSX.out.keep hb).more hb.size)
        replace HEX := Lib.hid (HEX.out.keep hb)
        replace HSY := Lib.hid ((HSY.out.keep hb).more hb.size)
        replace HEY := Lib.hid (HEY.out.keep hb)
        replace HBX := Lib.hid (HBX.out.keep hb HBX.out.lt)
        replace HS1 := Lib.hid ((HS1.out.keep hb).more hb.size)
        replace HS2 := Lib.hid ((HS2.out.keep hb).more hb.size)
        clear hb
        have kEE : (EX != EX) = false := by simp
        have ct := HT.out.cellv (i := 0) (v := .slice qx X.length cx) rfl
        go_wp2_with fail
        clear ct
        generalize x4.alloc (.cells #[.string x, .bool d, .slice q2 b2.length c2x] 51) = V2 at *
        generalize x4.heap.size = BY at *
        refine (own8_any X qx cx (by omega) _ HSX.out HEX.out).mono ?_
        rintro e x5 ⟨⟨v, rfl, ⟨qo, co, rfl, _, _, hso⟩⟩, hb⟩
        replace HB := Lib.hid (HB.out.trans (hb.mono HB.out.size))
        replace HT := Lib.hid (HT.out.keep hb HT.out.lt)
        replace HSX := Lib.hid ((HSX.out.keep hb).more hb.size)
        replace HEX := Lib.hid (HEX.out.keep hb)
        replace HSY := Lib.hid ((HSY.out.keep hb).more hb.size)
        replace HEY := Lib.hid (HEY.out.keep hb)
        replace HBX := Lib.hid (HBX.out.keep hb HBX.out.lt)
        replace HBY := Lib.hid (HBY.out.keep hb HBY.out.lt)
        replace HS1 := Lib.hid ((HS1.out.keep hb).more hb.size)
        replace HS2 := Lib.hid ((HS2.out.keep hb).more hb.size)
        clear hb
        have HSO := Lib.hid hso
        clear hso
        have ct := HT.out.cellv (i := 0) (v := .slice qx X.length cx) rfl
        go_wp2_with fail
        clear ct
        refine (ralike_any X Y qo qy co cy (by omega) _ HSO.out HSY.out HEX.out HEY.out).mono ?_
        rintro e x6 ⟨rfl, hb⟩
        replace HB := Lib.hid (HB.out.trans (hb.mono HB.out.size))
        replace HT := Lib.hid (HT.out.keep hb HT.out.lt)
        replace HSX := Lib.hid ((HSX.out.keep hb).more hb.size)
        replace HEX := Lib.hid (HEX.out.keep hb)
        replace HSY := Lib.hid ((HSY.out.keep hb).more hb.size)
        replace HEY := Lib.hid (HEY.out.keep hb)
        replace HBX := Lib.hid (HBX.out.keep hb HBX.out.lt)
        replace HBY := Lib.hid (HBY.out.keep hb HBY.out.lt)
        replace HS1 := Lib.hid ((HS1.out.keep hb).more hb.size)
        replace HS2 := Lib.hid ((HS2.out.keep hb).more hb.size)
        clear hb
        rw [sim_like HSXY.out]
        clear HSO
        have ct := HT.out.cellv (i := 0) (v := .slice qx X.length cx) rfl
        go_wp2_with fail
        clear ct
        refine (tgood_any X qx cx (by omega) HCX.out.1 (by omega) HNX.out _ HSX.out HEX.out).mono ?_
        rintro e x7 ⟨rfl, hb⟩
        replace HB := Lib.hid (HB.out.trans (hb.mono HB.out.size))
        replace HT := Lib.hid (HT.out.keep hb HT.out.lt)
        replace HSX := Lib.hid ((HSX.out.keep hb).more hb.size)
        replace HEX := Lib.hid (HEX.out.keep hb)
        replace HSY := Lib.hid ((HSY.out.keep hb).more hb.size)
        replace HEY := Lib.hid (HEY.out.keep hb)
        replace HBX := Lib.hid (HBX.out.keep hb HBX.out.lt)
        replace HBY := Lib.hid (HBY.out.keep hb HBY.out.lt)
        replace HS1 := Lib.hid ((HS1.out.keep hb).more hb.size)
        replace HS2 := Lib.hid ((HS2.out.keep hb).more hb.size)
        clear hb
        rw [HGX.out]
        have x0 := HBX.out.cellv (i := 0) (v := .string x) rfl
        have x1 := HBX.out.cellv (i := 1) (v := .bool d) rfl
        have x2 := HBX.out.cellv (i := 2) (v := .slice q1 b2.length c1x) rfl
        have y0 := HBY.out.cellv (i := 0) (v := .string x) rfl
        have y1 := HBY.out.cellv (i := 1) (v := .bool d) rfl
        have y2 := HBY.out.cellv (i := 2) (v := .slice q2 b2.length c2x) rfl
        have r1 := str_run b2 q1 c1x _ _ HS1.out
        have r2 := str_run b2 q2 c2x _ _ HS2.out
        have kFE : (FE != FE) = false := by simp
        have ct := HT.out.cellv (i := 0) (v := .slice qx X.length cx) rfl
        go_wp2_with fail
        clear ct x0 x1 x2 y0 y1 y2 r1 r2 HS1 HS2
        refine (tkids_any X qx cx p (by omega) HCX.out.1 (by omega) HNX.out _ HSX.out HEX.out).mono ?_
        rintro e x8 ⟨⟨v, rfl, ⟨qk, ck, rfl, _, hsk⟩⟩, hb⟩
        replace HB := Lib.hid (HB.out.trans (hb.mono HB.out.size))
        replace HT := Lib.hid (HT.out.keep hb HT.out.lt)
        replace HSX := Lib.hid ((HSX.out.keep hb).more hb.size)
        replace HEX := Lib.hid (HEX.out.keep hb)
        replace HSY := Lib.hid ((HSY.out.keep hb).more hb.size)
        replace HEY := Lib.hid (HEY.out.keep hb)
        clear hb
        have HSK := Lib.hid hsk
        clear hsk HBX HBY
        go_wp2_with fail
        refine (rkids_any Y qy cy p (by omega) (by omega) HNY.out _ HSY.out HEY.out).mono ?_
        rintro e x9 ⟨⟨v, rfl, hts⟩, hb⟩
        replace HB := Lib.hid (HB.out.trans (hb.mono HB.out.size))
        replace HT := Lib.hid (HT.out.keep hb HT.out.lt)
        replace HSX := Lib.hid ((HSX.out.keep hb).more hb.size)
        replace HEX := Lib.hid (HEX.out.keep hb)
        replace HSY := Lib.hid ((HSY.out.keep hb).more hb.size)
        replace HEY := Lib.hid (HEY.out.keep hb)
        replace HSK := Lib.hid ((HSK.out.keep hb).more hb.size)
        clear hb
        rw [HKD.out] at hts
        obtain ⟨qm, cm, rfl, _, hsm⟩ := hts
        have HSM := Lib.hid hsm
        clear hsm
        go_wp2_with fail
        refine (texts8_any (kidsP X p.data.toList) qk qm ck cm HKL.out _ HSK.out HSM.out).mono ?_
        rintro e x10 ⟨rfl, hb⟩
        replace HB := Lib.hid (HB.out.trans (hb.mono HB.out.size))
        replace HT := Lib.hid (HT.out.keep hb HT.out.lt)
        replace HSX := Lib.hid ((HSX.out.keep hb).more hb.size)
        replace HEX := Lib.hid (HEX.out.keep hb)
        replace HSY := Lib.hid ((HSY.out.keep hb).more hb.size)
        replace HEY := Lib.hid (HEY.out.keep hb)
        clear hb
        clear HSK HSM
        have ct := HT.out.cellv (i := 0) (v := .slice qx X.length cx) rfl
        go_wp2_with fail
        clear ct
        refine (tbytes_any X qx cx (by omega) HCX.out.1 (by omega) HNX.out _ HSX.out HEX.out).mono ?_
        rintro e x11 ⟨rfl, hb⟩
        replace HB := Lib.hid (HB.out.trans (hb.mono HB.out.size))
        replace HT := Lib.hid (HT.out.keep hb HT.out.lt)
        replace HSX := Lib.hid ((HSX.out.keep hb).more hb.size)
        replace HEX := Lib.hid (HEX.out.keep hb)
        replace HSY := Lib.hid ((HSY.out.keep hb).more hb.size)
        replace HEY := Lib.hid (HEY.out.keep hb)
        clear hb
        rw [HBY0.out]
        go_wp2_with fail
        refine (rbytes_any Y qy cy (by omega) (by omega) _ HSY.out HEY.out).mono ?_
        rintro e x99 ⟨rfl, rfl⟩
        have kBB : ((bytesT Y : Int) != (bytesT Y : Int)) = false := by simp
        go_wp2_with fail
        go_roundw
        case rel => exact ⟨i + 1, X, Y, qx, cx, by omega, by go_num, ⟨HGX.out, HSXY.out, HT.out, HCX.out.1, HCX.out.2, HSX.out, HEX.out, ⟨qy, cy, rfl, HCY.out.1, HCY.out.2, HSY.out⟩, HEY.out⟩, HB.out⟩
        case measure => simp [intOf]; omega
      have ko0 : (op = 0) = False := eq_false hop0
      have kob0 : (op == 0) = false := by simpa using hop0
      by_cases hop1 : op = 1
      · subst hop1
        clear ko0 kob0 hop0
        have HPR : Hid (goodP (makeP C pa).1 = true ∧ (makeP C pa).2 = (makeT D pa).2 ∧ Sim (makeP C pa).1 (makeT D pa).1) := Lib.hid (by rw [makeT_P]; exact ⟨make_good HG.out pa, HSIM.out.makeP pa⟩)
        have ct := HT.out.cellv (i := 0) (v := .slice qt C.length ct) rfl
        have a1 := HA.out.cellv (i := 1) (v := .string pa) rfl
        go_wp2_with fail
        clear ct a1
        generalize wr.alloc (.cells #[.int .i64 1, .string pa, .string to, .slice qb bb.length cb] 46) = W10 at *
        generalize wr.heap.size = BA at *
        refine (tmake_any C qt ct pa (by omega) HCT.out.1 HCT.out.2 (by omega) HNC.out (by omega) _ HSC.out HEC.out).mono ?_
        rintro e w15 ⟨⟨v, rfl, hR⟩, hb⟩
        replace HB := Lib.hid (HB.out.trans (hb.mono HB.out.size))
        replace HT := Lib.hid (HT.out.keep hb HT.out.lt)
        replace HA := Lib.hid (HA.out.keep hb HA.out.lt)
        replace HSC := Lib.hid ((HSC.out.keep hb).more hb.size)
        replace HEC := Lib.hid (HEC.out.keep hb)
        replace HSD := Lib.hid ((HSD.out.keep hb).more hb.size)
        replace HED := Lib.hid (HED.out.keep hb)
        clear hb
        obtain ⟨hTX, hEX⟩ := hR.tr ⟨qt, ct, rfl, HCT.out.1, HCT.out.2, HSC.out⟩ HEC.out
        clear hR
        generalize makeP C pa = RX at *
        obtain ⟨X, EX⟩ := RX
        simp only [] at hTX hEX HPR ⊢
        obtain ⟨qx, cx, rfl, hcx, hqx, hsx⟩ := hTX
        have hne : BT ≠ BA := HT.out.apart HA.out (by decide)
        have ct := HT.out.cellv (i := 0) (v := .slice qt C.length ct) rfl
        have ft := HT.out.free 0
        have HSX : Hid (Sees (w15.setCell ⟨BT, 0, none⟩ (.slice qx X.length cx)) (w15.setCell ⟨BT, 0, none⟩ (.slice qx X.length cx)).heap.size qx (rowC X)) := Lib.hid (by rw [size_set]; exact hsx.offC HT.out)
        have HEX : Hid (Ents (w15.setCell ⟨BT, 0, none⟩ (.slice qx X.length cx)) X) := Lib.hid (hEX.offC HT.out)
        have HCX : Hid (X.length ≤ cx ∧ (qx = none → cx = 0)) := Lib.hid ⟨hcx, hqx⟩
        replace HSD : Hid (Sees (w15.setCell ⟨BT, 0, none⟩ (.slice qx X.length cx)) (w15.setCell ⟨BT, 0, none⟩ (.slice qx X.length cx)).heap.size qd (rowC D)) := Lib.hid (by rw [size_set]; exact HSD.out.offC HT.out)
        replace HED : Hid (Ents (w15.setCell ⟨BT, 0, none⟩ (.slice qx X.length cx)) D) := Lib.hid (HED.out.offC HT.out)
        replace HA : Hid (Has (w15.setCell ⟨BT, 0, none⟩ (.slice qx X.length cx)) BA 46 [.int .i64 1, .string pa, .string to, .slice qb bb.length cb]) := Lib.hid (HA.out.off hne.symm _)
        replace HT : Hid (Has (w15.setCell ⟨BT, 0, none⟩ (.slice qx X.length cx)) BT 25 [.slice qx X.length cx]) := Lib.hid (HT.out.put 0 _)
        replace HB : Hid (Below w.heap.size w (w15.setCell ⟨BT, 0, none⟩ (.slice qx X.length cx))) := Lib.hid (HB.out.setCell (p := ⟨BT, 0, none⟩) hBT _)
        clear hcx hqx hsx hEX hne HSC HEC HCT HNC
        have a1 := HA.out.cellv (i := 1) (v := .string pa) rfl
        go_wp2_with fail
        clear ct ft a1
        generalize w15.setCell ⟨BT, 0, none⟩ (.slice qx X.length cx) = W3 at *
        refine (rmake_any D qd cd pa (by omega) HCD.out.1 HCD.out.2 (by omega) (by omega) HND.out _ HSD.out HED.out).mono ?_
        rintro e w16 ⟨⟨v, rfl, hTY, hEY⟩, hb⟩
        replace HB := Lib.hid (HB.out.trans (hb.mono HB.out.size))
        replace HT := Lib.hid (HT.out.keep hb HT.out.lt)
        replace HSX := Lib.hid ((HSX.out.keep hb).more hb.size)
        replace HEX := Lib.hid (HEX.out.keep hb)
        clear hb
        obtain ⟨hgX, hEE, hSS⟩ := HPR.out
        clear HPR
        generalize makeT D pa = RY at *
        obtain ⟨Y, EY⟩ := RY
        simp only [] at hTY hEY hEE hSS ⊢
        have hEE' : EX = EY := hEE
        subst hEE'
        obtain ⟨qy, cy, rfl, hcy, hqy, hsy⟩ := hTY
        have HSY := Lib.hid hsy
        have HEY := Lib.hid hEY
        have HCY : Hid (Y.length ≤ cy ∧ (qy = none → cy = 0)) := Lib.hid ⟨hcy, hqy⟩
        have HSXY : Hid (Sim X Y) := Lib.hid hSS
        have HGX : Hid (goodP X = true) := Lib.hid hgX
        clear hEE hSS hgX hcy hqy hsy hEY HSD HED HCD HND HA
        clear hD1 hD2 hC1 hC2 HSIM HG
        obtain ⟨hX1, hX2, hX3⟩ := good_small8 HGX.out
        have hY1 : Y.length ≤ 40 := by rw [← HSXY.out.len]; exact hX1
        have hY2 : bytesT Y ≤ 16384 := by rw [← HSXY.out.bytes]; exact hX2
        have HNX : Hid (∀ e ∈ X, e.1.size < 9223372036854775808) := Lib.hid (fun e he => by have := hX3 e he; omega)
        have HNY : Hid (∀ e ∈ Y, e.1.size ≤ 1048576) := Lib.hid (fun e he => by have := HSXY.out.names hX3 e he; omega)
        have hRE : rerrT Y p.data.toList = (findP X p).2 := by rw [rerr_P, ← HSXY.out.find]
        have HKD : Hid (kidsT Y p.data.toList = kidsP X p.data.toList) := Lib.hid (by rw [kidsT_P, ← HSXY.out.kids])
        have HKL : Hid ((kidsP X p.data.toList).length ≤ 1000000) := Lib.hid (by
          have : (kidsP X p.data.toList).length ≤ X.length := by
            unfold kidsP inT
            split
            · rw [List.length_map]; exact List.length_filter_le _ _
            · simp
          omega)
        have HBY0 : Hid (bytesP X = bytesT Y) := Lib.hid (by unfold bytesP; rw [if_pos HGX.out]; exact HSXY.out.bytes)
        clear hX3
        have ct := HT.out.cellv (i := 0) (v := .slice qx X.length cx) rfl
        go_wp2_with fail
        clear ct
        refine (tFind_any X qx cx p (by omega) HCX.out.1 (by omega) HNX.out (by omega) (fun e he hgd => by have := good_by hgd e he; omega) _ HSX.out HEX.out).mono ?_
        rintro e x17 ⟨⟨⟨x, d, bv, b2⟩, rfl, hFR⟩, hb⟩
        replace HB := Lib.hid (HB.out.trans (hb.mono HB.out.size))
        replace HT := Lib.hid (HT.out.keep hb HT.out.lt)
        replace HSX := Lib.hid ((HSX.out.keep hb).more hb.size)
        replace HEX := Lib.hid (HEX.out.keep hb)
        replace HSY := Lib.hid ((HSY.out.keep hb).more hb.size)
        replace HEY := Lib.hid (HEY.out.keep hb)
        clear hb
        have HFR := Lib.hid hFR
        obtain ⟨q1, c1x, hv1, _, _, hs1⟩ := hFR.1.bs
        have hv1' : bv = .slice q1 (List.length b2) c1x := hv1
        subst hv1'
        have HS1 : Hid (Sees x17 x17.heap.size q1 (b2.map u8v)) := Lib.hid hs1
        clear hv1 hs1 hFR
        simp only [entV]
        have hb := (Below.refl _ x17).alloc (Nat.le_refl _) (.cells #[.string x, .bool d, .slice q1 b2.length c1x] 32)
        have HBX : Hid (Has (x17.alloc (.cells #[.string x, .bool d, .slice q1 b2.length c1x] 32)) x17.heap.size 32 [.string x, .bool d, .slice q1 b2.length c1x]) := Lib.hid (Has.made x17 _ _)
        replace HS1 := Lib.hid ((HS1.out.keep hb).more hb.size)
        replace HB := Lib.hid (HB.out.trans (hb.mono HB.out.size))
        replace HT := Lib.hid (HT.out.keep hb HT.out.lt)
        replace HSX := Lib.hid ((HSX.out.keep hb).more hb.size)
        replace HEX := Lib.hid (HEX.out.keep hb)
        replace HSY := Lib.hid ((HSY.out.keep hb).more hb.size)
        replace HEY := Lib.hid (HEY.out.keep hb)
        clear hb
        go_wp2_with fail
        generalize x17.alloc (.cells #[.string x, .bool d, .slice q1 b2.length c1x] 32) = V1 at *
        generalize x17.heap.size = BX at *
        refine (rfind_any Y qy cy p (by omega) (by omega) (by omega) HNY.out _ HSY.out HEY.out).mono ?_
        rintro e x18 ⟨⟨⟨x', d', bv', b2'⟩, rfl, hbs, hRF⟩, hb⟩
        replace HB := Lib.hid (HB.out.trans (hb.mono HB.out.size))
        replace HT := Lib.hid (HT.out.keep hb HT.out.lt)
        replace HSX := Lib.hid ((HSX.out.keep hb).more hb.size)
        replace HEX := Lib.hid (HEX.out.keep hb)
        replace HSY := Lib.hid ((HSY.out.keep hb).more hb.size)
        replace HEY := Lib.hid (HEY.out.keep hb)
        replace HBX := Lib.hid (HBX.out.keep hb HBX.out.lt)
        replace HS1 := Lib.hid ((HS1.out.keep hb).more hb.size)
        obtain ⟨e1, e2, e3⟩ := find_same HSXY.out HFR.out hRF
        have e1' : x = x' := e1
        have e2' : d = d' := e2
        have e3' : b2 = b2' := e3
        subst e1' e2' e3'
        rw [hRE]
        generalize (findP X p).2 = FE at *
        obtain ⟨q2, c2x, hv2, _, _, hs2⟩ := hbs
        have hv2' : bv' = .slice q2 (List.length b2) c2x := hv2
        subst hv2'
        have HS2 : Hid (Sees x18 x18.heap.size q2 (b2.map u8v)) := Lib.hid hs2
        clear hb hv2 hs2 hRF e1 e2 e3 HFR hRE
        simp only [entV]
        have hb := (Below.refl _ x18).alloc (Nat.le_refl _) (.cells #[.string x, .bool d, .slice q2 b2.length c2x] 51)
        have HBY : Hid (Has (x18.alloc (.cells #[.string x, .bool d, .slice q2 b2.length c2x] 51)) x18.heap.size 51 [.string x, .bool d, .slice q2 b2.length c2x]) := Lib.hid (Has.made x18 _ _)
        replace HB := Lib.hid (HB.out.trans (hb.mono HB.out.size))
        replace HT := Lib.hid (HT.out.keep hb HT.out.lt)
        replace HSX := Lib.hid ((HSX.out.keep hb).more hb.size)
        replace HEX := Lib.hid (HEX.out.keep hb)
        replace HSY := Lib.hid ((HSY.out.keep hb).more hb.size)
        replace HEY := Lib.hid (HEY.out.keep hb)
        replace HBX := Lib.hid (HBX.out.keep hb HBX.out.lt)
        replace HS1 := Lib.hid ((HS1.out.keep hb).more hb.size)
        replace HS2 := Lib.hid ((HS2.out.keep hb).more hb.size)
        clear hb
        have kEE : (EX != EX) = false := by simp
        have ct := HT.out.cellv (i := 0) (v := .slice qx X.length cx) rfl
        go_wp2_with fail
        clear ct
        generalize x18.alloc (.cells #[.string x, .bool d, .slice q2 b2.length c2x] 51) = V2 at *
        generalize x18.heap.size = BY at *
        refine (own8_any X qx cx (by omega) _ HSX.out HEX.out).mono ?_
        rintro e x19 ⟨⟨v, rfl, ⟨qo, co, rfl, _, _, hso⟩⟩, hb⟩
        replace HB := Lib.hid (HB.out.trans (hb.mono HB.out.size))
        replace HT := Lib.hid (HT.out.keep hb HT.out.lt)
        replace HSX := Lib.hid ((HSX.out.keep hb).more hb.size)
        replace HEX := Lib.hid (HEX.out.keep hb)
        replace HSY := Lib.hid ((HSY.out.keep hb).more hb.size)
        replace HEY := Lib.hid (HEY.out.keep hb)
        replace HBX := Lib.hid (HBX.out.keep hb HBX.out.lt)
        replace HBY := Lib.hid (HBY.out.keep hb HBY.out.lt)
        replace HS1 := Lib.hid ((HS1.out.keep hb).more hb.size)
        replace HS2 := Lib.hid ((HS2.out.keep hb).more hb.size)
        clear hb
        have HSO := Lib.hid hso
        clear hso
        have ct := HT.out.cellv (i := 0) (v := .slice qx X.length cx) rfl
        go_wp2_with fail
        clear ct
        refine (ralike_any X Y qo qy co cy (by omega) _ HSO.out HSY.out HEX.out HEY.out).mono ?_
        rintro e x20 ⟨rfl, hb⟩
        replace HB := Lib.hid (HB.out.trans (hb.mono HB.out.size))
        replace HT := Lib.hid (HT.out.keep hb HT.out.lt)
        replace HSX := Lib.hid ((HSX.out.keep hb).more hb.size)
        replace HEX := Lib.hid (HEX.out.keep hb)
        replace HSY := Lib.hid ((HSY.out.keep hb).more hb.size)
        replace HEY := Lib.hid (HEY.out.keep hb)
        replace HBX := Lib.hid (HBX.out.keep hb HBX.out.lt)
        replace HBY := Lib.hid (HBY.out.keep hb HBY.out.lt)
        replace HS1 := Lib.hid ((HS1.out.keep hb).more hb.size)
        replace HS2 := Lib.hid ((HS2.out.keep hb).more hb.size)
        clear hb
        rw [sim_like HSXY.out]
        clear HSO
        have ct := HT.out.cellv (i := 0) (v := .slice qx X.length cx) rfl
        go_wp2_with fail
        clear ct
        refine (tgood_any X qx cx (by omega) HCX.out.1 (by omega) HNX.out _ HSX.out HEX.out).mono ?_
        rintro e x21 ⟨rfl, hb⟩
        replace HB := Lib.hid (HB.out.trans (hb.mono HB.out.size))
        replace HT := Lib.hid (HT.out.keep hb HT.out.lt)
        replace HSX := Lib.hid ((HSX.out.keep hb).more hb.size)
        replace HEX := Lib.hid (HEX.out.keep hb)
        replace HSY := Lib.hid ((HSY.out.keep hb).more hb.size)
        replace HEY := Lib.hid (HEY.out.keep hb)
        replace HBX := Lib.hid (HBX.out.keep hb HBX.out.lt)
        replace HBY := Lib.hid (HBY.out.keep hb HBY.out.lt)
        replace HS1 := Lib.hid ((HS1.out.keep hb).more hb.size)
        replace HS2 := Lib.hid ((HS2.out.keep hb).more hb.size)
        clear hb
        rw [HGX.out]
        have x0 := HBX.out.cellv (i := 0) (v := .string x) rfl
        have x1 := HBX.out.cellv (i := 1) (v := .bool d) rfl
        have x2 := HBX.out.cellv (i := 2) (v := .slice q1 b2.length c1x) rfl
        have y0 := HBY.out.cellv (i := 0) (v := .string x) rfl
        have y1 := HBY.out.cellv (i := 1) (v := .bool d) rfl
        have y2 := HBY.out.cellv (i := 2) (v := .slice q2 b2.length c2x) rfl
        have r1 := str_run b2 q1 c1x _ _ HS1.out
        have r2 := str_run b2 q2 c2x _ _ HS2.out
        have kFE : (FE != FE) = false := by simp
        have ct := HT.out.cellv (i := 0) (v := .slice qx X.length cx) rfl
        go_wp2_with fail
        clear ct x0 x1 x2 y0 y1 y2 r1 r2 HS1 HS2
        refine (tkids_any X qx cx p (by omega) HCX.out.1 (by omega) HNX.out _ HSX.out HEX.out).mono ?_
        rintro e x22 ⟨⟨v, rfl, ⟨qk, ck, rfl, _, hsk⟩⟩, hb⟩
        replace HB := Lib.hid (HB.out.trans (hb.mono HB.out.size))
        replace HT := Lib.hid (HT.out.keep hb HT.out.lt)
        replace HSX := Lib.hid ((HSX.out.keep hb).more hb.size)
        replace HEX := Lib.hid (HEX.out.keep hb)
        replace HSY := Lib.hid ((HSY.out.keep hb).more hb.size)
        replace HEY := Lib.hid (HEY.out.keep hb)
        clear hb
        have HSK := Lib.hid hsk
        clear hsk HBX HBY
        go_wp2_with fail
        refine (rkids_any Y qy cy p (by omega) (by omega) HNY.out _ HSY.out HEY.out).mono ?_
        rintro e x23 ⟨⟨v, rfl, hts⟩, hb⟩
        replace HB := Lib.hid (HB.out.trans (hb.mono HB.out.size))
        replace HT := Lib.hid (HT.out.keep hb HT.out.lt)
        replace HSX := Lib.hid ((HSX.out.keep hb).more hb.size)
        replace HEX := Lib.hid (HEX.out.keep hb)
        replace HSY := Lib.hid ((HSY.out.keep hb).more hb.size)
        replace HEY := Lib.hid (HEY.out.keep hb)
        replace HSK := Lib.hid ((HSK.out.keep hb).more hb.size)
        clear hb
        rw [HKD.out] at hts
        obtain ⟨qm, cm, rfl, _, hsm⟩ := hts
        have HSM := Lib.hid hsm
        clear hsm
        go_wp2_with fail
        refine (texts8_any (kidsP X p.data.toList) qk qm ck cm HKL.out _ HSK.out HSM.out).mono ?_
        rintro e x24 ⟨rfl, hb⟩
        replace HB := Lib.hid (HB.out.trans (hb.mono HB.out.size))
        replace HT := Lib.hid (HT.out.keep hb HT.out.lt)
        replace HSX := Lib.hid ((HSX.out.keep hb).more hb.size)
        replace HEX := Lib.hid (HEX.out.keep hb)
        replace HSY := Lib.hid ((HSY.out.keep hb).more hb.size)
        replace HEY := Lib.hid (HEY.out.keep hb)
        clear hb
        clear HSK HSM
        have ct := HT.out.cellv (i := 0) (v := .slice qx X.length cx) rfl
        go_wp2_with fail
        clear ct
        refine (tbytes_any X qx cx (by omega) HCX.out.1 (by omega) HNX.out _ HSX.out HEX.out).mono ?_
        rintro e x25 ⟨rfl, hb⟩
        replace HB := Lib.hid (HB.out.trans (hb.mono HB.out.size))
        replace HT := Lib.hid (HT.out.keep hb HT.out.lt)
        replace HSX := Lib.hid ((HSX.out.keep hb).more hb.size)
        replace HEX := Lib.hid (HEX.out.keep hb)
        replace HSY := Lib.hid ((HSY.out.keep hb).more hb.size)
        replace HEY := Lib.hid (HEY.out.keep hb)
        clear hb
        rw [HBY0.out]
        go_wp2_with fail
        refine (rbytes_any Y qy cy (by omega) (by omega) _ HSY.out HEY.out).mono ?_
        rintro e x99 ⟨rfl, rfl⟩
        have kBB : ((bytesT Y : Int) != (bytesT Y : Int)) = false := by simp
        go_wp2_with fail
        go_roundw
        case rel => exact ⟨i + 1, X, Y, qx, cx, by omega, by go_num, ⟨HGX.out, HSXY.out, HT.out, HCX.out.1, HCX.out.2, HSX.out, HEX.out, ⟨qy, cy, rfl, HCY.out.1, HCY.out.2, HSY.out⟩, HEY.out⟩, HB.out⟩
        case measure => simp [intOf]; omega
      have ko1 : (op = 1) = False := eq_false hop1
      have kob1 : (op == 1) = false := by simpa using hop1
      by_cases hop2 : op = 2
      · subst hop2
        clear ko0 kob0 hop0 ko1 kob1 hop1
        have HPR : Hid (goodP (removeP C pa).1 = true ∧ (removeP C pa).2 = (removeT D pa.data.toList).2 ∧ Sim (removeP C pa).1 (removeT D pa.data.toList).1) := Lib.hid (by rw [removeT_P]; exact ⟨remove_good HG.out pa, HSIM.out.removeP pa⟩)
        have ct := HT.out.cellv (i := 0) (v := .slice qt C.length ct) rfl
        have a1 := HA.out.cellv (i := 1) (v := .string pa) rfl
        go_wp2_with fail
        clear ct a1
        generalize wr.alloc (.cells #[.int .i64 2, .string pa, .string to, .slice qb bb.length cb] 46) = W10 at *
        generalize wr.heap.size = BA at *
        refine (tremove_any C qt ct pa (by omega) HCT.out.1 HCT.out.2 (by omega) HNC.out (by omega) _ HSC.out HEC.out).mono ?_
        rintro e w29 ⟨⟨v, rfl, hR⟩, hb⟩
        replace HB := Lib.hid (HB.out.trans (hb.mono HB.out.size))
        replace HT := Lib.hid (HT.out.keep hb HT.out.lt)
        replace HA := Lib.hid (HA.out.keep hb HA.out.lt)
        replace HSC := Lib.hid ((HSC.out.keep hb).more hb.size)
        replace HEC := Lib.hid (HEC.out.keep hb)
        replace HSD := Lib.hid ((HSD.out.keep hb).more hb.size)
        replace HED := Lib.hid (HED.out.keep hb)
        clear hb
        obtain ⟨hTX, hEX⟩ := hR.tr ⟨qt, ct, rfl, HCT.out.1, HCT.out.2, HSC.out⟩ HEC.out
        clear hR
        generalize removeP C pa = RX at *
        obtain ⟨X, EX⟩ := RX
        simp only [] at hTX hEX HPR ⊢
        obtain ⟨qx, cx, rfl, hcx, hqx, hsx⟩ := hTX
        have hne : BT ≠ BA := HT.out.apart HA.out (by decide)
        have ct := HT.out.cellv (i := 0) (v := .slice qt C.length ct) rfl
        have ft := HT.out.free 0
        have HSX : Hid (Sees (w29.setCell ⟨BT, 0, none⟩ (.slice qx X.length cx)) (w29.setCell ⟨BT, 0, none⟩ (.slice qx X.length cx)).heap.size qx (rowC X)) := Lib.hid (by rw [size_set]; exact hsx.offC HT.out)
        have HEX : Hid (Ents (w29.setCell ⟨BT, 0, none⟩ (.slice qx X.length cx)) X) := Lib.hid (hEX.offC HT.out)
        have HCX : Hid (X.length ≤ cx ∧ (qx = none → cx = 0)) := Lib.hid ⟨hcx, hqx⟩
        replace HSD : Hid (Sees (w29.setCell ⟨BT, 0, none⟩ (.slice qx X.length cx)) (w29.setCell ⟨BT, 0, none⟩ (.slice qx X.length cx)).heap.size qd (rowC D)) := Lib.hid (by rw [size_set]; exact HSD.out.offC HT.out)
        replace HED : Hid (Ents (w29.setCell ⟨BT, 0, none⟩ (.slice qx X.length cx)) D) := Lib.hid (HED.out.offC HT.out)
        replace HA : Hid (Has (w29.setCell ⟨BT, 0, none⟩ (.slice qx X.length cx)) BA 46 [.int .i64 2, .string pa, .string to, .slice qb bb.length cb]) := Lib.hid (HA.out.off hne.symm _)
        replace HT : Hid (Has (w29.setCell ⟨BT, 0, none⟩ (.slice qx X.length cx)) BT 25 [.slice qx X.length cx]) := Lib.hid (HT.out.put 0 _)
        replace HB : Hid (Below w.heap.size w (w29.setCell ⟨BT, 0, none⟩ (.slice qx X.length cx))) := Lib.hid (HB.out.setCell (p := ⟨BT, 0, none⟩) hBT _)
        clear hcx hqx hsx hEX hne HSC HEC HCT HNC
        have a1 := HA.out.cellv (i := 1) (v := .string pa) rfl
        go_wp2_with fail
        clear ct ft a1
        generalize w29.setCell ⟨BT, 0, none⟩ (.slice qx X.length cx) = W3 at *
        refine (rremove_any D qd cd pa (by omega) HCD.out.1 HCD.out.2 (by omega) (by omega) HND.out _ HSD.out HED.out).mono ?_
        rintro e w30 ⟨⟨v, rfl, hTY, hEY⟩, hb⟩
        replace HB := Lib.hid (HB.out.trans (hb.mono HB.out.size))
        replace HT := Lib.hid (HT.out.keep hb HT.out.lt)
        replace HSX := Lib.hid ((HSX.out.keep hb).more hb.size)
        replace HEX := Lib.hid (HEX.out.keep hb)
        clear hb
        obtain ⟨hgX, hEE, hSS⟩ := HPR.out
        clear HPR
        generalize removeT D pa.data.toList = RY at *
        obtain ⟨Y, EY⟩ := RY
        simp only [] at hTY hEY hEE hSS ⊢
        have hEE' : EX = EY := hEE
        subst hEE'
        obtain ⟨qy, cy, rfl, hcy, hqy, hsy⟩ := hTY
        have HSY := Lib.hid hsy
        have HEY := Lib.hid hEY
        have HCY : Hid (Y.length ≤ cy ∧ (qy = none → cy = 0)) := Lib.hid ⟨hcy, hqy⟩
        have HSXY : Hid (Sim X Y) := Lib.hid hSS
        have HGX : Hid (goodP X = true) := Lib.hid hgX
        clear hEE hSS hgX hcy hqy hsy hEY HSD HED HCD HND HA
        clear hD1 hD2 hC1 hC2 HSIM HG
        obtain ⟨hX1, hX2, hX3⟩ := good_small8 HGX.out
        have hY1 : Y.length ≤ 40 := by rw [← HSXY.out.len]; exact hX1
        have hY2 : bytesT Y ≤ 16384 := by rw [← HSXY.out.bytes]; exact hX2
        have HNX : Hid (∀ e ∈ X, e.1.size < 9223372036854775808) := Lib.hid (fun e he => by have := hX3 e he; omega)
        have HNY : Hid (∀ e ∈ Y, e.1.size ≤ 1048576) := Lib.hid (fun e he => by have := HSXY.out.names hX3 e he; omega)
        have hRE : rerrT Y p.data.toList = (findP X p).2 := by rw [rerr_P, ← HSXY.out.find]
        have HKD : Hid (kidsT Y p.data.toList = kidsP X p.data.toList) := Lib.hid (by rw [kidsT_P, ← HSXY.out.kids])
        have HKL : Hid ((kidsP X p.data.toList).length ≤ 1000000) := Lib.hid (by
          have : (kidsP X p.data.toList).length ≤ X.length := by
            unfold kidsP inT
            split
            · rw [List.length_map]; exact List.length_filter_le _ _
            · simp
          omega)
        have HBY0 : Hid (bytesP X = bytesT Y) := Lib.hid (by unfold bytesP; rw [if_pos HGX.out]; exact HSXY.out.bytes)
        clear hX3
        have ct := HT.out.cellv (i := 0) (v := .slice qx X.length cx) rfl
        go_wp2_with fail
        clear ct
        refine (tFind_any X qx cx p (by omega) HCX.out.1 (by omega) HNX.out (by omega) (fun e he hgd => by have := good_by hgd e he; omega) _ HSX.out HEX.out).mono ?_
        rintro e x31 ⟨⟨⟨x, d, bv, b2⟩, rfl, hFR⟩, hb⟩
        replace HB := Lib.hid (HB.out.trans (hb.mono HB.out.size))
        replace HT := Lib.hid (HT.out.keep hb HT.out.lt)
        replace HSX := Lib.hid ((HSX.out.keep hb).more hb.size)
        replace HEX := Lib.hid (HEX.out.keep hb)
        replace HSY := Lib.hid ((HSY.out.keep hb).more hb.size)
        replace HEY := Lib.hid (HEY.out.keep hb)
        clear hb
        have HFR := Lib.hid hFR
        obtain ⟨q1, c1x, hv1, _, _, hs1⟩ := hFR.1.bs
        have hv1' : bv = .slice q1 (List.length b2) c1x := hv1
        subst hv1'
        have HS1 : Hid (Sees x31 x31.heap.size q1 (b2.map u8v)) := Lib.hid hs1
        clear hv1 hs1 hFR
        simp only [entV]
        have hb := (Below.refl _ x31).alloc (Nat.le_refl _) (.cells #[.string x, .bool d, .slice q1 b2.length c1x] 32)
        have HBX : Hid (Has (x31.alloc (.cells #[.string x, .bool d, .slice q1 b2.length c1x] 32)) x31.heap.size 32 [.string x, .bool d, .slice q1 b2.length c1x]) := Lib.hid (Has.made x31 _ _)
        replace HS1 := Lib.hid ((HS1.out.keep hb).more hb.size)
        replace HB := Lib.hid (HB.out.trans (hb.mono HB.out.size))
        replace HT := Lib.hid (HT.out.keep hb HT.out.lt)
        replace HSX := Lib.hid ((HSX.out.keep hb).more hb.size)
        replace HEX := Lib.hid (HEX.out.keep hb)
        replace HSY := Lib.hid ((HSY.out.keep hb).more hb.size)
        replace HEY := Lib.hid (HEY.out.keep hb)
        clear hb
        go_wp2_with fail
        generalize x31.alloc (.cells #[.string x, .bool d, .slice q1 b2.length c1x] 32) = V1 at *
        generalize x31.heap.size = BX at *
        refine (rfind_any Y qy cy p (by omega) (by omega) (by omega) HNY.out _ HSY.out HEY.out).mono ?_
        rintro e x32 ⟨⟨⟨x', d', bv', b2'⟩, rfl, hbs, hRF⟩, hb⟩
        replace HB := Lib.hid (HB.out.trans (hb.mono HB.out.size))
        replace HT := Lib.hid (HT.out.keep hb HT.out.lt)
        replace HSX := Lib.hid ((HSX.out.keep hb).more hb.size)
        replace HEX := Lib.hid (HEX.out.keep hb)
        replace HSY := Lib.hid ((HSY.out.keep hb).more hb.size)
        replace HEY := Lib.hid (HEY.out.keep hb)
        replace HBX := Lib.hid (HBX.out.keep hb HBX.out.lt)
        replace HS1 := Lib.hid ((HS1.out.keep hb).more hb.size)
        obtain ⟨e1, e2, e3⟩ := find_same HSXY.out HFR.out hRF
        have e1' : x = x' := e1
        have e2' : d = d' := e2
        have e3' : b2 = b2' := e3
        subst e1' e2' e3'
        rw [hRE]
        generalize (findP X p).2 = FE at *
        obtain ⟨q2, c2x, hv2, _, _, hs2⟩ := hbs
        have hv2' : bv' = .slice q2 (List.length b2) c2x := hv2
        subst hv2'
        have HS2 : Hid (Sees x32 x32.heap.size q2 (b2.map u8v)) := Lib.hid hs2
        clear hb hv2 hs2 hRF e1 e2 e3 HFR hRE
        simp only [entV]
        have hb := (Below.refl _ x32).alloc (Nat.le_refl _) (.cells #[.string x, .bool d, .slice q2 b2.length c2x] 51)
        have HBY : Hid (Has (x32.alloc (.cells #[.string x, .bool d, .slice q2 b2.length c2x] 51)) x32.heap.size 51 [.string x, .bool d, .slice q2 b2.length c2x]) := Lib.hid (Has.made x32 _ _)
        replace HB := Lib.hid (HB.out.trans (hb.mono HB.out.size))
        replace HT := Lib.hid (HT.out.keep hb HT.out.lt)
        replace HSX := Lib.hid ((HSX.out.keep hb).more hb.size)
        replace HEX := Lib.hid (HEX.out.keep hb)
        replace HSY := Lib.hid ((HSY.out.keep hb).more hb.size)
        replace HEY := Lib.hid (HEY.out.keep hb)
        replace HBX := Lib.hid (HBX.out.keep hb HBX.out.lt)
        replace HS1 := Lib.hid ((HS1.out.keep hb).more hb.size)
        replace HS2 := Lib.hid ((HS2.out.keep hb).more hb.size)
        clear hb
        have kEE : (EX != EX) = false := by simp
        have ct := HT.out.cellv (i := 0) (v := .slice qx X.length cx) rfl
        go_wp2_with fail
        clear ct
        generalize x32.alloc (.cells #[.string x, .bool d, .slice q2 b2.length c2x] 51) = V2 at *
        generalize x32.heap.size = BY at *
        refine (own8_any X qx cx (by omega) _ HSX.out HEX.out).mono ?_
        rintro e x33 ⟨⟨v, rfl, ⟨qo, co, rfl, _, _, hso⟩⟩, hb⟩
        replace HB := Lib.hid (HB.out.trans (hb.mono HB.out.size))
        replace HT := Lib.hid (HT.out.keep hb HT.out.lt)
        replace HSX := Lib.hid ((HSX.out.keep hb).more hb.size)
        replace HEX := Lib.hid (HEX.out.keep hb)
        replace HSY := Lib.hid ((HSY.out.keep hb).more hb.size)
        replace HEY := Lib.hid (HEY.out.keep hb)
        replace HBX := Lib.hid (HBX.out.keep hb HBX.out.lt)
        replace HBY := Lib.hid (HBY.out.keep hb HBY.out.lt)
        replace HS1 := Lib.hid ((HS1.out.keep hb).more hb.size)
        replace HS2 := Lib.hid ((HS2.out.keep hb).more hb.size)
        clear hb
        have HSO := Lib.hid hso
        clear hso
        have ct := HT.out.cellv (i := 0) (v := .slice qx X.length cx) rfl
        go_wp2_with fail
        clear ct
        refine (ralike_any X Y qo qy co cy (by omega) _ HSO.out HSY.out HEX.out HEY.out).mono ?_
        rintro e x34 ⟨rfl, hb⟩
        replace HB := Lib.hid (HB.out.trans (hb.mono HB.out.size))
        replace HT := Lib.hid (HT.out.keep hb HT.out.lt)
        replace HSX := Lib.hid ((HSX.out.keep hb).more hb.size)
        replace HEX := Lib.hid (HEX.out.keep hb)
        replace HSY := Lib.hid ((HSY.out.keep hb).more hb.size)
        replace HEY := Lib.hid (HEY.out.keep hb)
        replace HBX := Lib.hid (HBX.out.keep hb HBX.out.lt)
        replace HBY := Lib.hid (HBY.out.keep hb HBY.out.lt)
        replace HS1 := Lib.hid ((HS1.out.keep hb).more hb.size)
        replace HS2 := Lib.hid ((HS2.out.keep hb).more hb.size)
        clear hb
        rw [sim_like HSXY.out]
        clear HSO
        have ct := HT.out.cellv (i := 0) (v := .slice qx X.length cx) rfl
        go_wp2_with fail
        clear ct
        refine (tgood_any X qx cx (by omega) HCX.out.1 (by omega) HNX.out _ HSX.out HEX.out).mono ?_
        rintro e x35 ⟨rfl, hb⟩
        replace HB := Lib.hid (HB.out.trans (hb.mono HB.out.size))
        replace HT := Lib.hid (HT.out.keep hb HT.out.lt)
        replace HSX := Lib.hid ((HSX.out.keep hb).more hb.size)
        replace HEX := Lib.hid (HEX.out.keep hb)
        replace HSY := Lib.hid ((HSY.out.keep hb).more hb.size)
        replace HEY := Lib.hid (HEY.out.keep hb)
        replace HBX := Lib.hid (HBX.out.keep hb HBX.out.lt)
        replace HBY := Lib.hid (HBY.out.keep hb HBY.out.lt)
        replace HS1 := Lib.hid ((HS1.out.keep hb).more hb.size)
        replace HS2 := Lib.hid ((HS2.out.keep hb).more hb.size)
        clear hb
        rw [HGX.out]
        have x0 := HBX.out.cellv (i := 0) (v := .string x) rfl
        have x1 := HBX.out.cellv (i := 1) (v := .bool d) rfl
        have x2 := HBX.out.cellv (i := 2) (v := .slice q1 b2.length c1x) rfl
        have y0 := HBY.out.cellv (i := 0) (v := .string x) rfl
        have y1 := HBY.out.cellv (i := 1) (v := .bool d) rfl
        have y2 := HBY.out.cellv (i := 2) (v := .slice q2 b2.length c2x) rfl
        have r1 := str_run b2 q1 c1x _ _ HS1.out
        have r2 := str_run b2 q2 c2x _ _ HS2.out
        have kFE : (FE != FE) = false := by simp
        have ct := HT.out.cellv (i := 0) (v := .slice qx X.length cx) rfl
        go_wp2_with fail
        clear ct x0 x1 x2 y0 y1 y2 r1 r2 HS1 HS2
        refine (tkids_any X qx cx p (by omega) HCX.out.1 (by omega) HNX.out _ HSX.out HEX.out).mono ?_
        rintro e x36 ⟨⟨v, rfl, ⟨qk, ck, rfl, _, hsk⟩⟩, hb⟩
        replace HB := Lib.hid (HB.out.trans (hb.mono HB.out.size))
        replace HT := Lib.hid (HT.out.keep hb HT.out.lt)
        replace HSX := Lib.hid ((HSX.out.keep hb).more hb.size)
        replace HEX := Lib.hid (HEX.out.keep hb)
        replace HSY := Lib.hid ((HSY.out.keep hb).more hb.size)
        replace HEY := Lib.hid (HEY.out.keep hb)
        clear hb
        have HSK := Lib.hid hsk
        clear hsk HBX HBY
        go_wp2_with fail
        refine (rkids_any Y qy cy p (by omega) (by omega) HNY.out _ HSY.out HEY.out).mono ?_
        rintro e x37 ⟨⟨v, rfl, hts⟩, hb⟩
        replace HB := Lib.hid (HB.out.trans (hb.mono HB.out.size))
        replace HT := Lib.hid (HT.out.keep hb HT.out.lt)
        replace HSX := Lib.hid ((HSX.out.keep hb).more hb.size)
        replace HEX := Lib.hid (HEX.out.keep hb)
        replace HSY := Lib.hid ((HSY.out.keep hb).more hb.size)
        replace HEY := Lib.hid (HEY.out.keep hb)
        replace HSK := Lib.hid ((HSK.out.keep hb).more hb.size)
        clear hb
        rw [HKD.out] at hts
        obtain ⟨qm, cm, rfl, _, hsm⟩ := hts
        have HSM := Lib.hid hsm
        clear hsm
        go_wp2_with fail
        refine (texts8_any (kidsP X p.data.toList) qk qm ck cm HKL.out _ HSK.out HSM.out).mono ?_
        rintro e x38 ⟨rfl, hb⟩
        replace HB := Lib.hid (HB.out.trans (hb.mono HB.out.size))
        replace HT := Lib.hid (HT.out.keep hb HT.out.lt)
        replace HSX := Lib.hid ((HSX.out.keep hb).more hb.size)
        replace HEX := Lib.hid (HEX.out.keep hb)
        replace HSY := Lib.hid ((HSY.out.keep hb).more hb.size)
        replace HEY := Lib.hid (HEY.out.keep hb)
        clear hb
        clear HSK HSM
        have ct := HT.out.cellv (i := 0) (v := .slice qx X.length cx) rfl
        go_wp2_with fail
        clear ct
        refine (tbytes_any X qx cx (by omega) HCX.out.1 (by omega) HNX.out _ HSX.out HEX.out).mono ?_
        rintro e x39 ⟨rfl, hb⟩
        replace HB := Lib.hid (HB.out.trans (hb.mono HB.out.size))
        replace HT := Lib.hid (HT.out.keep hb HT.out.lt)
        replace HSX := Lib.hid ((HSX.out.keep hb).more hb.size)
        replace HEX := Lib.hid (HEX.out.keep hb)
        replace HSY := Lib.hid ((HSY.out.keep hb).more hb.size)
        replace HEY := Lib.hid (HEY.out.keep hb)
        clear hb
        rw [HBY0.out]
        go_wp2_with fail
        refine (rbytes_any Y qy cy (by omega) (by omega) _ HSY.out HEY.out).mono ?_
        rintro e x99 ⟨rfl, rfl⟩
        have kBB : ((bytesT Y : Int) != (bytesT Y : Int)) = false := by simp
        go_wp2_with fail
        go_roundw
        case rel => exact ⟨i + 1, X, Y, qx, cx, by omega, by go_num, ⟨HGX.out, HSXY.out, HT.out, HCX.out.1, HCX.out.2, HSX.out, HEX.out, ⟨qy, cy, rfl, HCY.out.1, HCY.out.2, HSY.out⟩, HEY.out⟩, HB.out⟩
        case measure => simp [intOf]; omega
      have ko2 : (op = 2) = False := eq_false hop2
      have kob2 : (op == 2) = false := by simpa using hop2
      have HPR : Hid (∀ v v', goodP (moveP C pa to v).1 = true ∧ (moveP C pa to v).2 = (rmoveT D pa to v').2 ∧ Sim (moveP C pa to v).1 (rmoveT D pa to v').1) := Lib.hid (fun v v' => by rw [rmoveT_P]; exact ⟨move_good HG.out pa to v, HSIM.out.moveP pa to v v'⟩)
      have ct := HT.out.cellv (i := 0) (v := .slice qt C.length ct) rfl
      have a1 := HA.out.cellv (i := 1) (v := .string pa) rfl
      have a2 := HA.out.cellv (i := 2) (v := .string to) rfl
      go_wp2_with fail
      clear ct a1 a2
      generalize wr.alloc (.cells #[.int .i64 op, .string pa, .string to, .slice qb bb.length cb] 46) = W10 at *
      generalize wr.heap.size = BA at *
      refine (tmove_any C qt ct pa to (by omega) HCT.out.1 HCT.out.2 (by omega) HNC.out (by omega) (by omega) _ HSC.out HEC.out).mono ?_
      rintro e w43 ⟨⟨v, v5, rfl, hTX, hEX⟩, hb⟩
      replace HB := Lib.hid (HB.out.trans (hb.mono HB.out.size))
      replace HT := Lib.hid (HT.out.keep hb HT.out.lt)
      replace HA := Lib.hid (HA.out.keep hb HA.out.lt)
      replace HSC := Lib.hid ((HSC.out.keep hb).more hb.size)
      replace HEC := Lib.hid (HEC.out.keep hb)
      replace HSD := Lib.hid ((HSD.out.keep hb).more hb.size)
      replace HED := Lib.hid (HED.out.keep hb)
      clear hb
      have HPX := Lib.hid (HPR.out v5)
      clear HPR
      generalize moveP C pa to v5 = RX at *
      obtain ⟨X, EX⟩ := RX
      simp only [] at hTX hEX HPX ⊢
      obtain ⟨qx, cx, rfl, hcx, hqx, hsx⟩ := hTX
      have hne : BT ≠ BA := HT.out.apart HA.out (by decide)
      have ct := HT.out.cellv (i := 0) (v := .slice qt C.length ct) rfl
      have ft := HT.out.free 0
      have HSX : Hid (Sees (w43.setCell ⟨BT, 0, none⟩ (.slice qx X.length cx)) (w43.setCell ⟨BT, 0, none⟩ (.slice qx X.length cx)).heap.size qx (rowC X)) := Lib.hid (by rw [size_set]; exact hsx.offC HT.out)
      have HEX : Hid (Ents (w43.setCell ⟨BT, 0, none⟩ (.slice qx X.length cx)) X) := Lib.hid (hEX.offC HT.out)
      have HCX : Hid (X.length ≤ cx ∧ (qx = none → cx = 0)) := Lib.hid ⟨hcx, hqx⟩
      replace HSD : Hid (Sees (w43.setCell ⟨BT, 0, none⟩ (.slice qx X.length cx)) (w43.setCell ⟨BT, 0, none⟩ (.slice qx X.length cx)).heap.size qd (rowC D)) := Lib.hid (by rw [size_set]; exact HSD.out.offC HT.out)
      replace HED : Hid (Ents (w43.setCell ⟨BT, 0, none⟩ (.slice qx X.length cx)) D) := Lib.hid (HED.out.offC HT.out)
      replace HA : Hid (Has (w43.setCell ⟨BT, 0, none⟩ (.slice qx X.length cx)) BA 46 [.int .i64 op, .string pa, .string to, .slice qb bb.length cb]) := Lib.hid (HA.out.off hne.symm _)
      replace HT : Hid (Has (w43.setCell ⟨BT, 0, none⟩ (.slice qx X.length cx)) BT 25 [.slice qx X.length cx]) := Lib.hid (HT.out.put 0 _)
      replace HB : Hid (Below w.heap.size w (w43.setCell ⟨BT, 0, none⟩ (.slice qx X.length cx))) := Lib.hid (HB.out.setCell (p := ⟨BT, 0, none⟩) hBT _)
      clear hcx hqx hsx hEX hne HSC HEC HCT HNC
      have a1 := HA.out.cellv (i := 1) (v := .string pa) rfl
      have a2 := HA.out.cellv (i := 2) (v := .string to) rfl
      go_wp2_with fail
      clear ct ft a1 a2
      generalize w43.setCell ⟨BT, 0, none⟩ (.slice qx X.length cx) = W3 at *
      refine (rmove_any D qd cd pa to (by omega) HCD.out.1 HCD.out.2 (by omega) (by omega) (by omega) HND.out _ HSD.out HED.out).mono ?_
      rintro e w44 ⟨⟨v, v7, rfl, hTY, hEY⟩, hb⟩
      replace HB := Lib.hid (HB.out.trans (hb.mono HB.out.size))
      replace HT := Lib.hid (HT.out.keep hb HT.out.lt)
      replace HSX := Lib.hid ((HSX.out.keep hb).more hb.size)
      replace HEX := Lib.hid (HEX.out.keep hb)
      clear hb
      obtain ⟨hgX, hEE, hSS⟩ := HPX.out v7
      clear HPX
      generalize rmoveT D pa to v7 = RY at *
      obtain ⟨Y, EY⟩ := RY
      simp only [] at hTY hEY hEE hSS ⊢
      have hEE' : EX = EY := hEE
      subst hEE'
      obtain ⟨qy, cy, rfl, hcy, hqy, hsy⟩ := hTY
      have HSY := Lib.hid hsy
      have HEY := Lib.hid hEY
      have HCY : Hid (Y.length ≤ cy ∧ (qy = none → cy = 0)) := Lib.hid ⟨hcy, hqy⟩
      have HSXY : Hid (Sim X Y) := Lib.hid hSS
      have HGX : Hid (goodP X = true) := Lib.hid hgX
      clear hEE hSS hgX hcy hqy hsy hEY HSD HED HCD HND HA
      clear hD1 hD2 hC1 hC2 HSIM HG
      obtain ⟨hX1, hX2, hX3⟩ := good_small8 HGX.out
      have hY1 : Y.length ≤ 40 := by rw [← HSXY.out.len]; exact hX1
      have hY2 : bytesT Y ≤ 16384 := by rw [← HSXY.out.bytes]; exact hX2
      have HNX : Hid (∀ e ∈ X, e.1.size < 9223372036854775808) := Lib.hid (fun e he => by have := hX3 e he; omega)
      have HNY : Hid (∀ e ∈ Y, e.1.size ≤ 1048576) := Lib.hid (fun e he => by have := HSXY.out.names hX3 e he; omega)
      have hRE : rerrT Y p.data.toList = (findP X p).2 := by rw [rerr_P, ← HSXY.out.find]
      have HKD : Hid (kidsT Y p.data.toList = kidsP X p.data.toList) := Lib.hid (by rw [kidsT_P, ← HSXY.out.kids])
      have HKL : Hid ((kidsP X p.data.toList).length ≤ 1000000) := Lib.hid (by
        have : (kidsP X p.data.toList).length ≤ X.length := by
          unfold kidsP inT
          split
          · rw [List.length_map]; exact List.length_filter_le _ _
          · simp
        omega)
      have HBY0 : Hid (bytesP X = bytesT Y) := Lib.hid (by unfold bytesP; rw [if_pos HGX.out]; exact HSXY.out.bytes)
      clear hX3
      have ct := HT.out.cellv (i := 0) (v := .slice qx X.length cx) rfl
      go_wp2_with fail
      clear ct
      refine (tFind_any X qx cx p (by omega) HCX.out.1 (by omega) HNX.out (by omega) (fun e he hgd => by have := good_by hgd e he; omega) _ HSX.out HEX.out).mono ?_
      rintro e x45 ⟨⟨⟨x, d, bv, b2⟩, rfl, hFR⟩, hb⟩
      replace HB := Lib.hid (HB.out.trans (hb.mono HB.out.size))
      replace HT := Lib.hid (HT.out.keep hb HT.out.lt)
      replace HSX := Lib.hid ((HSX.out.keep hb).more hb.size)
      replace HEX := Lib.hid (HEX.out.keep hb)
      replace HSY := Lib.hid ((HSY.out.keep hb).more hb.size)
      replace HEY := Lib.hid (HEY.out.keep hb)
      clear hb
      have HFR := Lib.hid hFR
      obtain ⟨q1, c1x, hv1, _, _, hs1⟩ := hFR.1.bs
      have hv1' : bv = .slice q1 (List.length b2) c1x := hv1
      subst hv1'
      have HS1 : Hid (Sees x45 x45.heap.size q1 (b2.map u8v)) := Lib.hid hs1
      clear hv1 hs1 hFR
      simp only [entV]
      have hb := (Below.refl _ x45).alloc (Nat.le_refl _) (.cells #[.string x, .bool d, .slice q1 b2.length c1x] 32)
      have HBX : Hid (Has (x45.alloc (.cells #[.string x, .bool d, .slice q1 b2.length c1x] 32)) x45.heap.size 32 [.string x, .bool d, .slice q1 b2.length c1x]) := Lib.hid (Has.made x45 _ _)
      replace HS1 := Lib.hid ((HS1.out.keep hb).more hb.size)
      replace HB := Lib.hid (HB.out.trans (hb.mono HB.out.size))
      replace HT := Lib.hid (HT.out.keep hb HT.out.lt)
      replace HSX := Lib.hid ((HSX.out.keep hb).more hb.size)
      replace HEX := Lib.hid (HEX.out.keep hb)
      replace HSY := Lib.hid ((HSY.out.keep hb).more hb.size)
      replace HEY := Lib.hid (HEY.out.keep hb)
      clear hb
      go_wp2_with fail
      generalize x45.alloc (.cells #[.string x, .bool d, .slice q1 b2.length c1x] 32) = V1 at *
      generalize x45.heap.size = BX at *
      refine (rfind_any Y qy cy p (by omega) (by omega) (by omega) HNY.out _ HSY.out HEY.out).mono ?_
      rintro e x46 ⟨⟨⟨x', d', bv', b2'⟩, rfl, hbs, hRF⟩, hb⟩
      replace HB := Lib.hid (HB.out.trans (hb.mono HB.out.size))
      replace HT := Lib.hid (HT.out.keep hb HT.out.lt)
      replace HSX := Lib.hid ((HSX.out.keep hb).more hb.size)
      replace HEX := Lib.hid (HEX.out.keep hb)
      replace HSY := Lib.hid ((HSY.out.keep hb).more hb.size)
      replace HEY := Lib.hid (HEY.out.keep hb)
      replace HBX := Lib.hid (HBX.out.keep hb HBX.out.lt)
      replace HS1 := Lib.hid ((HS1.out.keep hb).more hb.size)
      obtain ⟨e1, e2, e3⟩ := find_same HSXY.out HFR.out hRF
      have e1' : x = x' := e1
      have e2' : d = d' := e2
      have e3' : b2 = b2' := e3
      subst e1' e2' e3'
      rw [hRE]
      generalize (findP X p).2 = FE at *
      obtain ⟨q2, c2x, hv2, _, _, hs2⟩ := hbs
      have hv2' : bv' = .slice q2 (List.length b2) c2x := hv2
      subst hv2'
      have HS2 : Hid (Sees x46 x46.heap.size q2 (b2.map u8v)) := Lib.hid hs2
      clear hb hv2 hs2 hRF e1 e2 e3 HFR hRE
      simp only [entV]
      have hb := (Below.refl _ x46).alloc (Nat.le_refl _) (.cells #[.string x, .bool d, .slice q2 b2.length c2x] 51)
      have HBY : Hid (Has (x46.alloc (.cells #[.string x, .bool d, .slice q2 b2.length c2x] 51)) x46.heap.size 51 [.string x, .bool d, .slice q2 b2.length c2x]) := Lib.hid (Has.made x46 _ _)
      replace HB := Lib.hid (HB.out.trans (hb.mono HB.out.size))
      replace HT := Lib.hid (HT.out.keep hb HT.out.lt)
      replace HSX := Lib.hid ((HSX.out.keep hb).more hb.size)
      replace HEX := Lib.hid (HEX.out.keep hb)
      replace HSY := Lib.hid ((HSY.out.keep hb).more hb.size)
      replace HEY := Lib.hid (HEY.out.keep hb)
      replace HBX := Lib.hid (HBX.out.keep hb HBX.out.lt)
      replace HS1 := Lib.hid ((HS1.out.keep hb).more hb.size)
      replace HS2 := Lib.hid ((HS2.out.keep hb).more hb.size)
      clear hb
      have kEE : (EX != EX) = false := by simp
      have ct := HT.out.cellv (i := 0) (v := .slice qx X.length cx) rfl
      go_wp2_with fail
      clear ct
      generalize x46.alloc (.cells #[.string x, .bool d, .slice q2 b2.length c2x] 51) = V2 at *
      generalize x46.heap.size = BY at *
      refine (own8_any X qx cx (by omega) _ HSX.out HEX.out).mono ?_
      rintro e x47 ⟨⟨v, rfl, ⟨qo, co, rfl, _, _, hso⟩⟩, hb⟩
      replace HB := Lib.hid (HB.out.trans (hb.mono HB.out.size))
      replace HT := Lib.hid (HT.out.keep hb HT.out.lt)
      replace HSX := Lib.hid ((HSX.out.keep hb).more hb.size)
      replace HEX := Lib.hid (HEX.out.keep hb)
      replace HSY := Lib.hid ((HSY.out.keep hb).more hb.size)
      replace HEY := Lib.hid (HEY.out.keep hb)
      replace HBX := Lib.hid (HBX.out.keep hb HBX.out.lt)
      replace HBY := Lib.hid (HBY.out.keep hb HBY.out.lt)
      replace HS1 := Lib.hid ((HS1.out.keep hb).more hb.size)
      replace HS2 := Lib.hid ((HS2.out.keep hb).more hb.size)
      clear hb
      have HSO := Lib.hid hso
      clear hso
      have ct := HT.out.cellv (i := 0) (v := .slice qx X.length cx) rfl
      go_wp2_with fail
      clear ct
      refine (ralike_any X Y qo qy co cy (by omega) _ HSO.out HSY.out HEX.out HEY.out).mono ?_
      rintro e x48 ⟨rfl, hb⟩
      replace HB := Lib.hid (HB.out.trans (hb.mono HB.out.size))
      replace HT := Lib.hid (HT.out.keep hb HT.out.lt)
      replace HSX := Lib.hid ((HSX.out.keep hb).more hb.size)
      replace HEX := Lib.hid (HEX.out.keep hb)
      replace HSY := Lib.hid ((HSY.out.keep hb).more hb.size)
      replace HEY := Lib.hid (HEY.out.keep hb)
      replace HBX := Lib.hid (HBX.out.keep hb HBX.out.lt)
      replace HBY := Lib.hid (HBY.out.keep hb HBY.out.lt)
      replace HS1 := Lib.hid ((HS1.out.keep hb).more hb.size)
      replace HS2 := Lib.hid ((HS2.out.keep hb).more hb.size)
      clear hb
      rw [sim_like HSXY.out]
      clear HSO
      have ct := HT.out.cellv (i := 0) (v := .slice qx X.length cx) rfl
      go_wp2_with fail
      clear ct
      refine (tgood_any X qx cx (by omega) HCX.out.1 (by omega) HNX.out _ HSX.out HEX.out).mono ?_
      rintro e x49 ⟨rfl, hb⟩
      replace HB := Lib.hid (HB.out.trans (hb.mono HB.out.size))
      replace HT := Lib.hid (HT.out.keep hb HT.out.lt)
      replace HSX := Lib.hid ((HSX.out.keep hb).more hb.size)
      replace HEX := Lib.hid (HEX.out.keep hb)
      replace HSY := Lib.hid ((HSY.out.keep hb).more hb.size)
      replace HEY := Lib.hid (HEY.out.keep hb)
      replace HBX := Lib.hid (HBX.out.keep hb HBX.out.lt)
      replace HBY := Lib.hid (HBY.out.keep hb HBY.out.lt)
      replace HS1 := Lib.hid ((HS1.out.keep hb).more hb.size)
      replace HS2 := Lib.hid ((HS2.out.keep hb).more hb.size)
      clear hb
      rw [HGX.out]
      have x0 := HBX.out.cellv (i := 0) (v := .string x) rfl
      have x1 := HBX.out.cellv (i := 1) (v := .bool d) rfl
      have x2 := HBX.out.cellv (i := 2) (v := .slice q1 b2.length c1x) rfl
      have y0 := HBY.out.cellv (i := 0) (v := .string x) rfl
      have y1 := HBY.out.cellv (i := 1) (v := .bool d) rfl
      have y2 := HBY.out.cellv (i := 2) (v := .slice q2 b2.length c2x) rfl
      have r1 := str_run b2 q1 c1x _ _ HS1.out
      have r2 := str_run b2 q2 c2x _ _ HS2.out
      have kFE : (FE != FE) = false := by simp
      have ct := HT.out.cellv (i := 0) (v := .slice qx X.length cx) rfl
      go_wp2_with fail
      clear ct x0 x1 x2 y0 y1 y2 r1 r2 HS1 HS2
      refine (tkids_any X qx cx p (by omega) HCX.out.1 (by omega) HNX.out _ HSX.out HEX.out).mono ?_
      rintro e x50 ⟨⟨v, rfl, ⟨qk, ck, rfl, _, hsk⟩⟩, hb⟩
      replace HB := Lib.hid (HB.out.trans (hb.mono HB.out.size))
      replace HT := Lib.hid (HT.out.keep hb HT.out.lt)
      replace HSX := Lib.hid ((HSX.out.keep hb).more hb.size)
      replace HEX := Lib.hid (HEX.out.keep hb)
      replace HSY := Lib.hid ((HSY.out.keep hb).more hb.size)
      replace HEY := Lib.hid (HEY.out.keep hb)
      clear hb
      have HSK := Lib.hid hsk
      clear hsk HBX HBY
      go_wp2_with fail
      refine (rkids_any Y qy cy p (by omega) (by omega) HNY.out _ HSY.out HEY.out).mono ?_
      rintro e x51 ⟨⟨v, rfl, hts⟩, hb⟩
      replace HB := Lib.hid (HB.out.trans (hb.mono HB.out.size))
      replace HT := Lib.hid (HT.out.keep hb HT.out.lt)
      replace HSX := Lib.hid ((HSX.out.keep hb).more hb.size)
      replace HEX := Lib.hid (HEX.out.keep hb)
      replace HSY := Lib.hid ((HSY.out.keep hb).more hb.size)
      replace HEY := Lib.hid (HEY.out.keep hb)
      replace HSK := Lib.hid ((HSK.out.keep hb).more hb.size)
      clear hb
      rw [HKD.out] at hts
      obtain ⟨qm, cm, rfl, _, hsm⟩ := hts
      have HSM := Lib.hid hsm
      clear hsm
      go_wp2_with fail
      refine (texts8_any (kidsP X p.data.toList) qk qm ck cm HKL.out _ HSK.out HSM.out).mono ?_
      rintro e x52 ⟨rfl, hb⟩
      replace HB := Lib.hid (HB.out.trans (hb.mono HB.out.size))
      replace HT := Lib.hid (HT.out.keep hb HT.out.lt)
      replace HSX := Lib.hid ((HSX.out.keep hb).more hb.size)
      replace HEX := Lib.hid (HEX.out.keep hb)
      replace HSY := Lib.hid ((HSY.out.keep hb).more hb.size)
      replace HEY := Lib.hid (HEY.out.keep hb)
      clear hb
      clear HSK HSM
      have ct := HT.out.cellv (i := 0) (v := .slice qx X.length cx) rfl
      go_wp2_with fail
      clear ct
      refine (tbytes_any X qx cx (by omega) HCX.out.1 (by omega) HNX.out _ HSX.out HEX.out).mono ?_
      rintro e x53 ⟨rfl, hb⟩
      replace HB := Lib.hid (HB.out.trans (hb.mono HB.out.size))
      replace HT := Lib.hid (HT.out.keep hb HT.out.lt)
      replace HSX := Lib.hid ((HSX.out.keep hb).more hb.size)
      replace HEX := Lib.hid (HEX.out.keep hb)
      replace HSY := Lib.hid ((HSY.out.keep hb).more hb.size)
      replace HEY := Lib.hid (HEY.out.keep hb)
      clear hb
      rw [HBY0.out]
      go_wp2_with fail
      refine (rbytes_any Y qy cy (by omega) (by omega) _ HSY.out HEY.out).mono ?_
      rintro e x99 ⟨rfl, rfl⟩
      have kBB : ((bytesT Y : Int) != (bytesT Y : Int)) = false := by simp
      go_wp2_with fail
      go_roundw
      case rel => exact ⟨i + 1, X, Y, qx, cx, by omega, by go_num, ⟨HGX.out, HSXY.out, HT.out, HCX.out.1, HCX.out.2, HSX.out, HEX.out, ⟨qy, cy, rfl, HCY.out.1, HCY.out.2, HSY.out⟩, HEY.out⟩, HB.out⟩
      case measure => simp [intOf]; omega
    · skip
      have hil : i = L.length := by omega
      subst hil
      have k0 : ¬ (L.length : Int) < (L.length : Int) := by omega
      clear hlt
      have HLC : Hid ((cleanP C).length ≤ 100000) := Lib.hid (by
        have : (cleanP C).length ≤ C.length := by
          unfold cleanP
          split
          · exact List.length_filter_le _ _
          · exact Nat.le_refl _
        omega)
      have HECL : Hid (∀ (A : List Ent) w1, Ents w1 A → Ents w1 (cleanP A)) := Lib.hid (fun A w1 h e he => h e (by
        unfold cleanP at he
        split at he
        · exact (List.mem_filter.1 he).1
        · exact he))
      have HCC : Hid (cleanT D = cleanP D) := Lib.hid (cleanT_P D)
      have HSC2 : Hid (likeT (cleanP C) (cleanP D) = true) := Lib.hid (sim_like HSIM.out.clean)
      have HSS : Hid (sameT C C = true) := Lib.hid (by unfold sameT; rw [HG.out, likeT_self]; rfl)
      have ct := HT.out.cellv (i := 0) (v := .slice qt C.length ct) rfl
      go_wp2_with fail
      clear ct
      refine (tclean_any C qt ct (by omega) HCT.out.1 HCT.out.2 (by omega) HNC.out _ HSC.out HEC.out).mono ?_
      rintro e z57 ⟨⟨v, rfl, ⟨qc, cc, rfl, _, _, hs1⟩⟩, hb⟩
      replace HB := Lib.hid (HB.out.trans (hb.mono HB.out.size))
      replace HT := Lib.hid (HT.out.keep hb HT.out.lt)
      replace HSC := Lib.hid ((HSC.out.keep hb).more hb.size)
      replace HEC := Lib.hid (HEC.out.keep hb)
      replace HSD := Lib.hid ((HSD.out.keep hb).more hb.size)
      replace HED := Lib.hid (HED.out.keep hb)
      clear hb
      have HS1 := Lib.hid hs1
      clear hs1
      have ct := HT.out.cellv (i := 0) (v := .slice qt C.length ct) rfl
      go_wp2_with fail
      clear ct
      refine (own8_any (cleanP C) qc cc HLC.out _ HS1.out (HECL.out C _ HEC.out)).mono ?_
      rintro e z58 ⟨⟨v, rfl, ⟨qo, co, rfl, _, _, hs1⟩⟩, hb⟩
      replace HB := Lib.hid (HB.out.trans (hb.mono HB.out.size))
      replace HT := Lib.hid (HT.out.keep hb HT.out.lt)
      replace HSC := Lib.hid ((HSC.out.keep hb).more hb.size)
      replace HEC := Lib.hid (HEC.out.keep hb)
      replace HSD := Lib.hid ((HSD.out.keep hb).more hb.size)
      replace HED := Lib.hid (HED.out.keep hb)
      clear hb
      have HS2 := Lib.hid hs1
      clear hs1 HS1
      have ct := HT.out.cellv (i := 0) (v := .slice qt C.length ct) rfl
      go_wp2_with fail
      clear ct
      refine (rclean_any D qd cd (by omega) HCD.out.1 HCD.out.2 (by omega) HND.out _ HSD.out HED.out).mono ?_
      rintro e z59 ⟨⟨v, rfl, hts⟩, hb⟩
      replace HB := Lib.hid (HB.out.trans (hb.mono HB.out.size))
      replace HT := Lib.hid (HT.out.keep hb HT.out.lt)
      replace HSC := Lib.hid ((HSC.out.keep hb).more hb.size)
      replace HEC := Lib.hid (HEC.out.keep hb)
      replace HSD := Lib.hid ((HSD.out.keep hb).more hb.size)
      replace HED := Lib.hid (HED.out.keep hb)
      rw [HCC.out] at hts
      obtain ⟨qm, cm, rfl, _, _, hs1⟩ := hts
      have HS3 := Lib.hid hs1
      replace HS2 := Lib.hid ((HS2.out.keep hb).more hb.size)
      clear hs1
      clear hb
      have ct := HT.out.cellv (i := 0) (v := .slice qt C.length ct) rfl
      go_wp2_with fail
      clear ct
      refine (ralike_any (cleanP C) (cleanP D) qo qm co cm HLC.out _ HS2.out HS3.out (HECL.out C _ HEC.out) (HECL.out D _ HED.out)).mono ?_
      rintro e z60 ⟨rfl, hb⟩
      replace HB := Lib.hid (HB.out.trans (hb.mono HB.out.size))
      replace HT := Lib.hid (HT.out.keep hb HT.out.lt)
      replace HSC := Lib.hid ((HSC.out.keep hb).more hb.size)
      replace HEC := Lib.hid (HEC.out.keep hb)
      replace HSD := Lib.hid ((HSD.out.keep hb).more hb.size)
      replace HED := Lib.hid (HED.out.keep hb)
      clear hb
      rw [HSC2.out]
      clear HS2 HS3
      have ct := HT.out.cellv (i := 0) (v := .slice qt C.length ct) rfl
      go_wp2_with fail
      clear ct
      refine (tsame_any C C qt qt ct ct (by omega) (by omega) HCT.out.1 HCT.out.1 (by omega) (by omega) HNC.out HNC.out _ HSC.out HSC.out HEC.out HEC.out).mono ?_
      rintro e z61 ⟨rfl, hb⟩
      replace HB := Lib.hid (HB.out.trans (hb.mono HB.out.size))
      replace HT := Lib.hid (HT.out.keep hb HT.out.lt)
      replace HSC := Lib.hid ((HSC.out.keep hb).more hb.size)
      replace HEC := Lib.hid (HEC.out.keep hb)
      replace HSD := Lib.hid ((HSD.out.keep hb).more hb.size)
      replace HED := Lib.hid (HED.out.keep hb)
      clear hb
      rw [HSS.out]
      go_wp2_with fail
      go_ret
      exact ⟨rfl, HB.out⟩
end Go.Proofs.YthpendoblgndcaaDoor
namespace Go.Proofs.YthpendoblgndcaaDoor
open Go.ChangeShapes Go.WideShapes Go.ChangeAt Go.RowKit Go.ChangeMaps
set_option maxRecDepth 100000 in
theorem plays8_lifted (os : Os) (started : os.Started) (H : Type) (enc : TypeId × Value → H) :
    ReturnsInHanded {} Tryd.checked os 4 .any (fun w args => (Rows.treePlaysSpec.pre enc Tryd.prog Tryd.f4 [] false w args ∧ laidMetH Tryd.prog laidVars w) ∧ sizedMet enc Tryd.prog Tryd.f4 (OpenSpec.ofChange Rows.treePlaysSpec) false w args)
      (Rows.treePlaysSpec.post enc Tryd.prog Tryd.f4 false true false false) := by
  refine returnsInHanded_of_change_and (C := Tryd.checked) (X := fun w _ => laidMetH Tryd.prog laidVars w) (fun _ _ _ hh h => h.of_heap hh) own started (by kernel_rfl) Tryd.func4
    (ChangeSpec.witness_shaped (enc := enc) (C := Tryd.checked) (os := os) (X := fun w _ => laidMetH Tryd.prog laidVars w) false (World.laidAll Tryd.prog os laidVars) #[.slice none 0 0, .string ⟨#[]⟩] 8 (World.laidAll_os _ _ _) (World.shaped_of_ZipB (by kernel_rfl) (by kernel_rfl)) (by kernel_rfl) (by kernel_rfl) (by kernel_rfl) (laid_met os _)) ?_
  intro W base args ds gs before hval0 hW _ hsz0 hL _
  have hval : ∀ (j : Nat) t v, Tryd.f4.params[j]? = some t → args[j]? = some v → Value.okWide Tryd.prog W .any base t v := hval0
  have hW' := hW
  obtain ⟨p, q, hA0, hV, rfl, hfz, hnd⟩ := hW
  have hA : DataW.TrodAll enc Tryd.prog W 0 (fun _ => true) true Tryd.f4.params.toList args.toList ds p := hA0
  have hsz : (DataW.weightsEach Tryd.prog (Tryd.f4.params.toList ++ Rows.treePlaysSpec.plain.varTypes Tryd.prog) (ds ++ gs)).all (· ≤ reachBytes) = true := hsz0
  rw [Tryd.params4] at hA hval hsz
  obtain ⟨v0, vs0, d0, ds0, p0, g0, hargs, rfl, rfl, h0, r0⟩ := trodAll_cons hA
  obtain ⟨v1, vs1, d1, ds1, p1, g1, rfl, rfl, rfl, h1, r1⟩ := trodAll_cons r0
  obtain ⟨rfl, rfl, rfl⟩ := trodAll_nil r1
  obtain rfl : args = #[v0, v1] := by cases args; simp_all
  obtain ⟨rfl, rfl⟩ := trodVars_none hV
  have k0 := h0
  have lt0 : ∀ x ∈ p0, x.block < W.heap.size := by obtain ⟨m, hm⟩ := k0; exact DataW.trod_lt m _ _ _ hm
  obtain ⟨l0, q0, c0, rfl, hs0, hB0⟩ := open_acts (hval 0 42 v0 rfl rfl) h0
  obtain ⟨s1, rfl, rfl, rfl, m1⟩ := open_string Tryd.underlying9 (hval 1 9 v1 rfl rfl) h1
  have z1 : s1.size ≤ reachBytes := sized_string hsz (j := 1) (t := 9) rfl rfl
  clear hA0 hval0
  refine (plays8_any l0 q0 c0 s1 W hs0 hB0).mono fun e W' ⟨he, bel⟩ => ?_
  subst he
  exact ⟨_, rfl, _, _, _, [], _, [], hW', trodAll_mk1 (shut_bool Tryd.underlying4 _), (trodAll_cons_mk (Below.trod laidOut (by kernel_rfl) (of_decide_eq_true (by kernel_rfl)) k0 bel lt0) (trodAll_cons_mk (shut_string Tryd.underlying9 m1) trodAll_mk0)), rfl, bel.frame _, fun h => by cases h⟩
theorem plays8_row : Rows.TreePlaysSaid :=
  OpenClaim.holds_of_wide 4 Tryd.f4 rfl rfl rfl rfl rfl rfl rfl ⟨rfl, rfl, rfl, rfl, rfl⟩ rfl rfl rfl rfl rfl (by kernel_rfl) Tryd.func4 (by kernel_rfl)
    (of_decide_eq_true (by kernel_rfl)) (by unfold Func.isWrapper; first | (rw [if_pos (by decide +kernel)]; kernel_rfl) | (rw [if_neg (by decide +kernel)]; exact ⟨rfl, rfl⟩))
    (fun os started H enc _ => plays8_lifted os started H enc)
theorem treePlays_holds : Rows.TreePlaysCardSaid :=
  Claim7.holds_tied_plain_at .later [] [.data, .pinned] true Rows.treePlaysCard.stood.harness Rows.treePlaysCard.stood.looks
    plays8_row (fun _ h => by cases h) (by kernel_rfl) (fun _ h => by cases h) treePlays_row_tie rfl ⟨rfl, rfl⟩ (by kernel_rfl) rfl
    (fun f fn hf hfn => by
      obtain rfl : f = 4 := Option.some.inj ((show Tryd.prog.funcNamed "tallyman/tallymanlaw8.TreePlays" = some 4 by kernel_rfl).symm.trans hf) |>.symm
      obtain rfl : fn = Tryd.f4 := (Option.some.inj (Tryd.func4.symm.trans hfn)).symm
      exact ⟨by kernel_rfl, fun j t ht => by
        rw [Tryd.params4] at ht
        have hm : t ∈ [42, 9] := by simpa using Array.mem_of_getElem? ht
        have hall : ([42, 9].all fun u => !Tryd.prog.wantsStandIn u) = true := by kernel_rfl
        exact (show Tryd.prog.wantsStandIn t = false by simpa using List.all_eq_true.1 hall t hm)⟩)
    (by kernel_rfl)
#print axioms treePlays_holds
end Go.Proofs.YthpendoblgndcaaDoor
