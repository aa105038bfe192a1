/- The law TreeKnown returns true. No condition. -/
import Derived.Test.YtefamkckoikeoaaDoorBask1
import Derived.Laws.DeepStrings4
import Derived.Test.YtefamkckoikeoaaDoorBase5
import Derived.Test.YtefamkckoikeoaaDoorCards
import Derived.Test.YtefamkckoikeoaaDoorTie
import Derived.ShutString
import Derived.ChangeOld
import Derived.SevenTiedAt
/- The law TreeKnown: it returns true. No condition. -/
namespace Go.Proofs.YtefamkckoikeoaaDoor
open Go.RowKit
noncomputable def chkK12 : Array Oper := regOf Tryd.f3.body 12
set_option maxRecDepth 100000 in
theorem chkK12_ok : flOk [(0, true), (1, false), (2, false), (3, true), (4, true), (5, true)] 6 [(7, false), (8, true)] chkK12 = true := by kernel_rfl
noncomputable def chkK28 : Array Oper := regOf Tryd.f3.body 28
set_option maxRecDepth 100000 in
theorem chkK28_ok : flOk [(0, true), (1, true), (2, true), (3, true), (4, true), (5, true), (6, false), (7, true), (8, true), (9, true)] 10 [(11, false), (12, true)] chkK28 = true := by kernel_rfl
theorem kbad1 : kBad.length = 2 := rfl
theorem kbad2 : bytesT kBad = 0 := by kernel_rfl
theorem kbad3 : ∀ e ∈ kBad, e.1.size = 1 := fun e he => by
  rcases List.mem_cons.1 he with rfl | he
  · rfl
  · rw [List.mem_singleton.1 he]; rfl
theorem kbad4 : ∀ e ∈ kBad, e.by = [] ∧ e.val = .slice none 0 0 := fun e he => by
  rcases List.mem_cons.1 he with rfl | he
  · exact ⟨rfl, rfl⟩
  · rw [List.mem_singleton.1 he]; exact ⟨rfl, rfl⟩
theorem kslice (i : Nat) (hi : i < 38) (w : World) : (Instr.slice 9 (.string kNames) (some (.int .i64 (i : Int))) (some (.int .i64 ((i : Int) + 1))) none).run Tryd.prog w = .ok (.string (kNames.extract i (i + 1))) w := by
  have hs : kNames.size = 38 := rfl
  rw [run_slice_string_if w 9 kNames .i64 .i64 (i : Int) ((i : Int) + 1) Tryd.underlying9, if_pos (by rw [hs]; omega), if_pos (by omega)]
  rfl
def kF39 : List Ent := (makeP (kFull 38) kAb).1
def kF40 : List Ent := (makeP kF39 kAc).1
set_option maxRecDepth 100000 in
theorem kF39g : goodP kF39 = true := by kernel_rfl
set_option maxRecDepth 100000 in
theorem kF40g : goodP kF40 = true := by kernel_rfl
theorem kF39d : (makeP (kFull 38) kAb).1 = kF39 := rfl
theorem kF40d : (makeP kF39 kAc).1 = kF40 := rfl
theorem kF39e : (makeP (kFull 38) kAb).2 = 0 := congrArg Prod.snd kfull1
theorem kF40e : (makeP kF39 kAc).2 = 0 := congrArg Prod.snd kfull2
theorem kF41e : (makeP kF40 kAd).2 = 9 := kfull3
theorem kF40l : kF40.length = 40 := kfull4
theorem kgood5 (vx vc vw : Value) : goodP (kW5 vx vc vw) = true := by kernel_rfl
theorem kgood4 (vx vc : Value) : goodP (kW4 vx vc) = true := by kernel_rfl
theorem kput2 (v : Value) : goodP [dirE pA, fileE pAB v [120]] = true := by kernel_rfl
set_option maxHeartbeats 64000000 in
set_option maxRecDepth 100000 in
theorem known8_any (w : World) : Calls Tryd.prog 3 #[] w fun e w' => e = .returned (.bool true) ∧ Below w.heap.size w w' := by
  have HAW := Lib.hid (awake8_any w)
  go_enter Tryd.func3, Tryd.ntmps3
  go_wp2_with fail
  refine HAW.out.mono ?_
  rintro e w1 ⟨rfl, hb1⟩
  have HB := Lib.hid hb1
  clear hb1 HAW
  have H := Lib.hid (g_make [] rfl none 0 (Nat.le_refl _) w1 (Sees.nil _ _ _) (fun _ h => nomatch h) (fun _ => rfl) pA (by decide))
  simp only [awk1] at H
  go_wp2_with fail
  refine H.out.mono ?_
  rintro e w2 ⟨⟨v1, rfl, ⟨q1, c1, rfl, hz1, hz2, hz3⟩, hz4⟩, hb⟩
  replace HB := Lib.hid (HB.out.trans (hb.mono HB.out.size))
  have HC1 : Hid ([dirE pA].length ≤ c1 ∧ (q1 = none → c1 = 0)) := Lib.hid ⟨hz1, hz2⟩
  have HS1 := Lib.hid hz3
  have HE1 := Lib.hid hz4
  clear hz1 hz2 hz3 hz4 hb H
  obtain ⟨w3, hA⟩ : ∃ w3, w3 = (w2.alloc (.cells #[.slice q1 1 c1] 25)).alloc (.cells #[.int .u8 120] 5 (1, 2)) := ⟨_, rfl⟩
  have hcv := conv_new (w2.alloc (.cells #[.slice q1 1 c1] 25)) #[.int .u8 120] 1 1
  rw [show (#[Value.int .u8 120] : Array Value).size = 1 from rfl, ← hA] at hcv
  simp only [World.size_alloc] at hcv
  have hb : Below w2.heap.size w2 w3 := by rw [hA]; exact ((Below.refl _ _).alloc (Nat.le_refl _) _).alloc (by simp) _
  have HT : Hid (Has w3 w2.heap.size 25 [.slice q1 1 c1]) := Lib.hid (by rw [hA]; exact (Has.made w2 _ _).alloc _)
  have hS2 : Sees w3 w3.heap.size (some ⟨w2.heap.size + 1, 0, none⟩) ([120#8].map u8v) := by
    have h := (made_sees (w2.alloc (.cells #[.slice q1 1 c1] 25)) [120#8] #[.int .u8 120] (1, 2) rfl)
    rw [hA]
    simp only [World.size_alloc] at h ⊢
    exact h
  have HBT : Hid (w.heap.size ≤ w2.heap.size) := Lib.hid HB.out.size
  replace HB := Lib.hid (HB.out.trans (hb.mono HB.out.size))
  replace HS1 := Lib.hid ((HS1.out.keep hb).more hb.size)
  replace HE1 := Lib.hid (HE1.out.keep hb)
  have ct := HT.out.cellv (i := 0) (v := .slice q1 1 c1) rfl
  have hcx : (w2.alloc (.cells #[.slice q1 1 c1] 25)).cell? ⟨w2.heap.size, 0, none⟩ = some (.slice q1 1 c1) := (Has.made w2 _ _).cellv rfl
  have H := Lib.hid (g_put [dirE pA] (by kernel_rfl) q1 c1 HC1.out.1 w3 HS1.out HE1.out HC1.out.2 pAB (by decide) [120] (some ⟨w2.heap.size + 1, 0, none⟩) 1 (fun h => by cases h) (by simp) hS2)
  simp only [awk2] at H
  clear hA hS2 hb
  go_wp2_with fail
  clear ct hcx hcv
  generalize w2.heap.size = BT at *
  refine H.out.mono ?_
  rintro e w4 ⟨⟨v3, vx, rfl, ⟨q3, c3, rfl, hz1, hz2, hz3⟩, hz4⟩, hb⟩
  replace HB := Lib.hid (HB.out.trans (hb.mono HB.out.size))
  replace HT := Lib.hid (HT.out.keep hb HT.out.lt)
  have HC3 : Hid ([dirE pA, fileE pAB vx [120]].length ≤ c3 ∧ (q3 = none → c3 = 0)) := Lib.hid ⟨hz1, hz2⟩
  have HS3 : Hid (Sees (w4.setCell ⟨BT, 0, none⟩ (.slice q3 2 c3)) (w4.setCell ⟨BT, 0, none⟩ (.slice q3 2 c3)).heap.size q3 (rowC [dirE pA, fileE pAB vx [120]])) := Lib.hid (by rw [size_set]; exact hz3.offC HT.out)
  have HE3 : Hid (Ents (w4.setCell ⟨BT, 0, none⟩ (.slice q3 2 c3)) [dirE pA, fileE pAB vx [120]]) := Lib.hid (hz4.offC HT.out)
  have ct := HT.out.cellv (i := 0) (v := .slice q1 1 c1) rfl
  have ft := HT.out.free 0
  replace HT : Hid (Has (w4.setCell ⟨BT, 0, none⟩ (.slice q3 2 c3)) BT 25 [.slice q3 2 c3]) := Lib.hid (HT.out.put 0 _)
  replace HB : Hid (Below w.heap.size w (w4.setCell ⟨BT, 0, none⟩ (.slice q3 2 c3))) := Lib.hid (HB.out.setCell (p := ⟨BT, 0, none⟩) HBT.out _)
  have ct2 := HT.out.cellv (i := 0) (v := .slice q3 2 c3) rfl
  clear hz1 hz2 hz3 hz4 hb H HS1 HE1 HC1
  go_wp2_with fail
  clear ct ft ct2
  generalize w4.setCell ⟨BT, 0, none⟩ (.slice q3 2 c3) = w5 at *
  have H := Lib.hid (g_put [dirE pA, fileE pAB vx [120]] (kput2 vx) q3 c3 HC3.out.1 w5 HS3.out HE3.out HC3.out.2 kC (by decide) [] none 0 (fun _ => rfl) (by simp) (Sees.nil _ _ _))
  simp only [k3] at H
  refine H.out.mono ?_
  rintro e w6 ⟨⟨v5, vc, rfl, ⟨qt, ct, rfl, hz1, hz2, hz3⟩, hz4⟩, hb⟩
  replace HB := Lib.hid (HB.out.trans (hb.mono HB.out.size))
  replace HT := Lib.hid (HT.out.keep hb HT.out.lt)
  have HCT : Hid ((kT vx vc).length ≤ ct ∧ (qt = none → ct = 0)) := Lib.hid ⟨hz1, hz2⟩
  have HST : Hid (Sees (w6.setCell ⟨BT, 0, none⟩ (.slice qt (kT vx vc).length ct)) (w6.setCell ⟨BT, 0, none⟩ (.slice qt (kT vx vc).length ct)).heap.size qt (rowC (kT vx vc))) := Lib.hid (by rw [size_set]; exact hz3.offC HT.out)
  have HET : Hid (Ents (w6.setCell ⟨BT, 0, none⟩ (.slice qt (kT vx vc).length ct)) (kT vx vc)) := Lib.hid (hz4.offC HT.out)
  have ct0 := HT.out.cellv (i := 0) (v := .slice q3 2 c3) rfl
  have ft := HT.out.free 0
  replace HT : Hid (Has (w6.setCell ⟨BT, 0, none⟩ (.slice qt (kT vx vc).length ct)) BT 25 [.slice qt (kT vx vc).length ct]) := Lib.hid (HT.out.put 0 _)
  replace HB : Hid (Below w.heap.size w (w6.setCell ⟨BT, 0, none⟩ (.slice qt (kT vx vc).length ct))) := Lib.hid (HB.out.setCell (p := ⟨BT, 0, none⟩) HBT.out _)
  have ct2 := HT.out.cellv (i := 0) (v := .slice qt (kT vx vc).length ct) rfl
  clear hz1 hz2 hz3 hz4 hb H HS3 HE3 HC3
  go_wp2_with fail
  clear ct0 ft ct2
  generalize w6.setCell ⟨BT, 0, none⟩ (.slice qt (kT vx vc).length ct) = w7 at *
  have H := Lib.hid (g_find (kT vx vc) (kgood vx vc) qt ct HCT.out.1 _ HST.out HET.out kBigA (by decide))
  simp only [kf1] at H
  refine H.out.mono ?_
  rintro e u1 ⟨⟨⟨x, d, bv, bb⟩, rfl, hFR⟩, hb⟩
  replace HB := Lib.hid (HB.out.trans (hb.mono HB.out.size))
  replace HT := Lib.hid (HT.out.keep hb HT.out.lt)
  replace HST := Lib.hid ((HST.out.keep hb).more hb.size)
  replace HET := Lib.hid (HET.out.keep hb)
  clear hb H
  obtain ⟨q9, c9, hv9, _, _, _⟩ := hFR.1.bs
  have hv9' : bv = .slice q9 (List.length bb) c9 := hv9
  subst hv9'
  clear hv9 hFR
  simp only [entV]
  have hb := (Below.refl _ u1).alloc (Nat.le_refl _) (.cells #[.string x, .bool d, .slice q9 bb.length c9] 32)
  replace HB := Lib.hid (HB.out.trans (hb.mono HB.out.size))
  replace HT := Lib.hid (HT.out.keep hb HT.out.lt)
  replace HST := Lib.hid ((HST.out.keep hb).more hb.size)
  replace HET := Lib.hid (HET.out.keep hb)
  clear hb
  have ct := HT.out.cellv (i := 0) (v := .slice qt (kT vx vc).length ct) rfl
  go_wp2_with fail
  clear ct
  generalize u1.alloc (.cells #[.string x, .bool d, .slice q9 bb.length c9] 32) = w2 at *
  have H := Lib.hid (g_find (kT vx vc) (kgood vx vc) qt ct HCT.out.1 _ HST.out HET.out kZ (by decide))
  simp only [kf2] at H
  refine H.out.mono ?_
  rintro e u3 ⟨⟨⟨x, d, bv, bb⟩, rfl, hFR⟩, hb⟩
  replace HB := Lib.hid (HB.out.trans (hb.mono HB.out.size))
  replace HT := Lib.hid (HT.out.keep hb HT.out.lt)
  replace HST := Lib.hid ((HST.out.keep hb).more hb.size)
  replace HET := Lib.hid (HET.out.keep hb)
  clear hb H
  obtain ⟨q9, c9, hv9, _, _, _⟩ := hFR.1.bs
  have hv9' : bv = .slice q9 (List.length bb) c9 := hv9
  subst hv9'
  clear hv9 hFR
  simp only [entV]
  have hb := (Below.refl _ u3).alloc (Nat.le_refl _) (.cells #[.string x, .bool d, .slice q9 bb.length c9] 32)
  replace HB := Lib.hid (HB.out.trans (hb.mono HB.out.size))
  replace HT := Lib.hid (HT.out.keep hb HT.out.lt)
  replace HST := Lib.hid ((HST.out.keep hb).more hb.size)
  replace HET := Lib.hid (HET.out.keep hb)
  clear hb
  have ct := HT.out.cellv (i := 0) (v := .slice qt (kT vx vc).length ct) rfl
  go_wp2_with fail
  clear ct
  generalize u3.alloc (.cells #[.string x, .bool d, .slice q9 bb.length c9] 32) = w4 at *
  have H := Lib.hid (g_find (kT vx vc) (kgood vx vc) qt ct HCT.out.1 _ HST.out HET.out pAB (by decide))
  simp only [kf3] at H
  refine H.out.mono ?_
  rintro e u5 ⟨⟨⟨x, d, bv, bb⟩, rfl, hFR⟩, hb⟩
  replace HB := Lib.hid (HB.out.trans (hb.mono HB.out.size))
  replace HT := Lib.hid (HT.out.keep hb HT.out.lt)
  replace HST := Lib.hid ((HST.out.keep hb).more hb.size)
  replace HET := Lib.hid (HET.out.keep hb)
  clear hb H
  have hbb : bb = [120] := by
    rcases hFR.2 with ⟨_, hk, _, _, h⟩ | ⟨h, _⟩
    · have h' : bb = ((kT vx vc)[(findP (kT vx vc) pAB).1]).by := h
      simp only [kf3] at h'
      exact h'
    · rw [kf3] at h; exact absurd rfl h
  subst hbb
  obtain ⟨qx, cx, hv9, _, _, hs9⟩ := hFR.1.bs
  have hv9' : bv = .slice qx 1 cx := hv9
  subst hv9'
  have HSx : Hid (Sees u5 u5.heap.size qx ([120#8].map u8v)) := Lib.hid hs9
  clear hv9 hs9 hFR
  simp only [entV]
  have HX : Hid (Has (u5.alloc (.cells #[.string x, .bool d, .slice qx 1 cx] 32)) u5.heap.size 32 [.string x, .bool d, .slice qx 1 cx]) := Lib.hid (Has.made u5 _ _)
  have hb := (Below.refl _ u5).alloc (Nat.le_refl _) (.cells #[.string x, .bool d, .slice qx 1 cx] 32)
  replace HB := Lib.hid (HB.out.trans (hb.mono HB.out.size))
  replace HT := Lib.hid (HT.out.keep hb HT.out.lt)
  replace HST := Lib.hid ((HST.out.keep hb).more hb.size)
  replace HET := Lib.hid (HET.out.keep hb)
  replace HSx := Lib.hid ((HSx.out.keep hb).more hb.size)
  clear hb
  have ct := HT.out.cellv (i := 0) (v := .slice qt (kT vx vc).length ct) rfl
  go_wp2_with fail
  clear ct
  generalize u5.alloc (.cells #[.string x, .bool d, .slice qx 1 cx] 32) = w6 at *
  generalize u5.heap.size = BX at *
  have H := Lib.hid (g_put (kT vx vc) (kgood vx vc) qt ct HCT.out.1 _ HST.out HET.out HCT.out.2 kZY (by decide) [] none 0 (fun _ => rfl) (by simp) (Sees.nil _ _ _))
  simp only [kp1] at H
  refine H.out.mono ?_
  rintro e u7 ⟨⟨v9, w5, rfl, ⟨qz, cz, rfl, hz1, hz2, hz3⟩, hz4⟩, hb⟩
  replace HB := Lib.hid (HB.out.trans (hb.mono HB.out.size))
  replace HT := Lib.hid (HT.out.keep hb HT.out.lt)
  replace HST := Lib.hid ((HST.out.keep hb).more hb.size)
  replace HET := Lib.hid (HET.out.keep hb)
  replace HSx := Lib.hid ((HSx.out.keep hb).more hb.size)
  replace HX := Lib.hid (HX.out.keep hb HX.out.lt)
  clear hb H
  clear hz1 hz2 hz3 hz4
  have hb := (Below.refl _ u7).alloc (Nat.le_refl _) (.cells #[.slice qz (kT vx vc).length cz] 25)
  replace HB := Lib.hid (HB.out.trans (hb.mono HB.out.size))
  replace HT := Lib.hid (HT.out.keep hb HT.out.lt)
  replace HST := Lib.hid ((HST.out.keep hb).more hb.size)
  replace HET := Lib.hid (HET.out.keep hb)
  replace HSx := Lib.hid ((HSx.out.keep hb).more hb.size)
  replace HX := Lib.hid (HX.out.keep hb HX.out.lt)
  clear hb
  have ct := HT.out.cellv (i := 0) (v := .slice qt (kT vx vc).length ct) rfl
  go_wp2_with fail
  clear ct
  generalize u7.alloc (.cells #[.slice qz (kT vx vc).length cz] 25) = w8 at *
  have H := Lib.hid (g_put (kT vx vc) (kgood vx vc) qt ct HCT.out.1 _ HST.out HET.out HCT.out.2 kCY (by decide) [] none 0 (fun _ => rfl) (by simp) (Sees.nil _ _ _))
  simp only [kp2] at H
  refine H.out.mono ?_
  rintro e u10 ⟨⟨v12, w5, rfl, ⟨qz, cz, rfl, hz1, hz2, hz3⟩, hz4⟩, hb⟩
  replace HB := Lib.hid (HB.out.trans (hb.mono HB.out.size))
  replace HT := Lib.hid (HT.out.keep hb HT.out.lt)
  replace HST := Lib.hid ((HST.out.keep hb).more hb.size)
  replace HET := Lib.hid (HET.out.keep hb)
  replace HSx := Lib.hid ((HSx.out.keep hb).more hb.size)
  replace HX := Lib.hid (HX.out.keep hb HX.out.lt)
  clear hb H
  clear hz1 hz2 hz3 hz4
  have hb := (Below.refl _ u10).alloc (Nat.le_refl _) (.cells #[.slice qz (kT vx vc).length cz] 25)
  replace HB := Lib.hid (HB.out.trans (hb.mono HB.out.size))
  replace HT := Lib.hid (HT.out.keep hb HT.out.lt)
  replace HST := Lib.hid ((HST.out.keep hb).more hb.size)
  replace HET := Lib.hid (HET.out.keep hb)
  replace HSx := Lib.hid ((HSx.out.keep hb).more hb.size)
  replace HX := Lib.hid (HX.out.keep hb HX.out.lt)
  clear hb
  have ct := HT.out.cellv (i := 0) (v := .slice qt (kT vx vc).length ct) rfl
  go_wp2_with fail
  clear ct
  generalize u10.alloc (.cells #[.slice qz (kT vx vc).length cz] 25) = w11 at *
  have H := Lib.hid (g_put (kT vx vc) (kgood vx vc) qt ct HCT.out.1 _ HST.out HET.out HCT.out.2 pA (by decide) [] none 0 (fun _ => rfl) (by simp) (Sees.nil _ _ _))
  simp only [kp3] at H
  refine H.out.mono ?_
  rintro e u13 ⟨⟨v15, w5, rfl, ⟨qz, cz, rfl, hz1, hz2, hz3⟩, hz4⟩, hb⟩
  replace HB := Lib.hid (HB.out.trans (hb.mono HB.out.size))
  replace HT := Lib.hid (HT.out.keep hb HT.out.lt)
  replace HST := Lib.hid ((HST.out.keep hb).more hb.size)
  replace HET := Lib.hid (HET.out.keep hb)
  replace HSx := Lib.hid ((HSx.out.keep hb).more hb.size)
  replace HX := Lib.hid (HX.out.keep hb HX.out.lt)
  clear hb H
  clear hz1 hz2 hz3 hz4
  have hb := (Below.refl _ u13).alloc (Nat.le_refl _) (.cells #[.slice qz (kT vx vc).length cz] 25)
  replace HB := Lib.hid (HB.out.trans (hb.mono HB.out.size))
  replace HT := Lib.hid (HT.out.keep hb HT.out.lt)
  replace HST := Lib.hid ((HST.out.keep hb).more hb.size)
  replace HET := Lib.hid (HET.out.keep hb)
  replace HSx := Lib.hid ((HSx.out.keep hb).more hb.size)
  replace HX := Lib.hid (HX.out.keep hb HX.out.lt)
  clear hb
  have ct := HT.out.cellv (i := 0) (v := .slice qt (kT vx vc).length ct) rfl
  go_wp2_with fail
  clear ct
  generalize u13.alloc (.cells #[.slice qz (kT vx vc).length cz] 25) = w14 at *
  refine wp_join (fun a a' w' => ∃ x0 x1 x2 x3 x4 x5 x6, a' = ((((((((a.put (some 96) x0).put (some 97) x1).put (some 98) x2).put (some 95) x3).put (some 99) x4).put (some 100) x5).put (some 15) x6).put (some 16) (.int .i64 9)) ∧ Below w14.heap.size w14 w') ?_ ?_
  · skip
    refine wp_region_fl [(0, true), (1, false), (2, false), (3, true), (4, true), (5, true)] 6 [(7, false), (8, true)] _ rfl rfl (by kernel_rfl) (by kernel_rfl) _ chkK12_ok rfl (fun w' => Below w.heap.size w w' ∧ Has w' BT 25 [.slice qt (kT vx vc).length ct]) ⟨HB.out.drew, HT.out.drew⟩ ?_
    have hb := (Below.refl w14.heap.size w14).drew
    have HFW := Lib.hid hb
    replace HB := Lib.hid (HB.out.trans (hb.mono HB.out.size))
    replace HT := Lib.hid (HT.out.keep hb HT.out.lt)
    replace HST := Lib.hid ((HST.out.keep hb).more hb.size)
    replace HET := Lib.hid (HET.out.keep hb)
    replace HSx := Lib.hid ((HSx.out.keep hb).more hb.size)
    replace HX := Lib.hid (HX.out.keep hb HX.out.lt)
    clear hb
    generalize w14.drew = wd at *
    have HF := Lib.hid (Below.refl wd.heap.size wd)
    have hl : (List.replicate 2049 (0 : BitVec 8)).length = 2049 := List.length_replicate
    simp only [pickOrs, List.getElem?_cons_zero, List.getElem?_cons_succ]
    refine fl_pure (v := ?_) (by kernel_rfl) ?_ ?_
    rotate_left
    · intro w' hv; have cx := hv.2.cellv (i := 0) (v := .slice qt (kT vx vc).length ct) rfl; clear hv; go_simp; try with_reducible rfl
    try simp only [Act.put, List.setIfInBounds_toArray, List.set_cons_zero, List.set_cons_succ]
    refine fl_step rfl (fun K hK => ?_) (fun K hK => ?_)
    · skip
      have hmk := mk2049 wd
      go_wp2_with fail
      have HSm : Hid (Sees (wd.alloc (.cells (madeCells #[Value.int .u8 0] 2049) 5)) (wd.alloc (.cells (madeCells #[Value.int .u8 0] 2049) 5)).heap.size (some ⟨wd.heap.size, 0, none⟩) ((List.replicate 2049 (0 : BitVec 8)).map u8v)) := Lib.hid (sees2049 wd)
      replace HF := Lib.hid (HF.out.alloc HF.out.size (.cells (madeCells #[Value.int .u8 0] 2049) 5))
      refine ⟨⟨HB.out.trans (HF.out.mono HB.out.size), HT.out.keep HF.out HT.out.lt⟩, ?_⟩
      clear hmk
      generalize wd.alloc (.cells (madeCells #[Value.int .u8 0] 2049) 5) = wm at *
      try simp only [Act.put, List.setIfInBounds_toArray, List.set_cons_zero, List.set_cons_succ]
      refine fl_step rfl (fun K hK => ?_) (fun K hK => ?_)
      · skip
        have H := Lib.hid (g_put (kT vx vc) (kgood vx vc) qt ct HCT.out.1 _ ((HST.out.keep HF.out).more HF.out.size) (HET.out.keep HF.out) HCT.out.2 kQ (by decide) (List.replicate 2049 0) _ 2049 (fun h => by cases h) (by rw [hl]; omega) HSm.out)
        rw [hl] at H
        simp only [kp4 _ _ _ _ hl] at H
        go_wp2_with fail
        refine H.out.mono ?_
        rintro e wn ⟨⟨v, w5, rfl, ⟨qz, cz, rfl, hz1, hz2, hz3⟩, hz4⟩, hb⟩
        replace HF := Lib.hid (HF.out.trans (hb.mono HF.out.size))
        refine hK _ _ ⟨⟨HB.out.trans (HF.out.mono HB.out.size), HT.out.keep HF.out HT.out.lt⟩, ?_⟩
        clear hK hb H hz1 hz2 hz3 hz4 HSm
        try simp only [Act.put, List.setIfInBounds_toArray, List.set_cons_zero, List.set_cons_succ]
        refine fl_pure (v := ?_) (by kernel_rfl) ?_ ?_
        rotate_left
        · intro w' hv; clear hv; go_simp; try with_reducible rfl
        try simp only [Act.put, List.setIfInBounds_toArray, List.set_cons_zero, List.set_cons_succ]
        refine fl_pure (v := ?_) (by kernel_rfl) ?_ ?_
        rotate_left
        · intro w' hv; clear hv; go_simp; try with_reducible rfl
        try simp only [Act.put, List.setIfInBounds_toArray, List.set_cons_zero, List.set_cons_succ]
        refine fl_pure (v := ?_) (by kernel_rfl) ?_ ?_
        rotate_left
        · intro w' hv; clear hv; go_simp; try with_reducible rfl
        try simp only [Act.put, List.setIfInBounds_toArray, List.set_cons_zero, List.set_cons_succ]
        refine fl_nil (fun K hK => ?_)
        go_wp2_with fail
        have HG : Hid (Has (wn.alloc (.cells #[.slice none 0 0] 25)) wn.heap.size 25 [.slice none 0 0]) := Lib.hid (Has.made wn _ _)
        have HGE : Hid (wd.heap.size ≤ wn.heap.size) := Lib.hid HF.out.size
        replace HF := Lib.hid (HF.out.alloc HF.out.size (.cells #[.slice none 0 0] 25))
        refine ⟨⟨HB.out.trans (HF.out.mono HB.out.size), HT.out.keep HF.out HT.out.lt⟩, ?_⟩
        generalize wn.alloc (.cells #[.slice none 0 0] 25) = wo at *
        try simp only [Act.put, List.setIfInBounds_toArray, List.set_cons_zero, List.set_cons_succ]
        have cg := HG.out.cellv (i := 0) (v := .slice none 0 0) rfl
        have fg := HG.out.free 0
        replace HF := Lib.hid (HF.out.setCell (p := ⟨wn.heap.size, 0, none⟩) HGE.out (.slice qz (kT vx vc).length cz))
        refine ors_step (by kernel_rfl) (fun K hK => ?_)
        go_wp2_with fail
        refine ⟨⟨HB.out.trans (HF.out.mono HB.out.size), HT.out.keep HF.out HT.out.lt⟩, ?_⟩
        try simp only [Act.put, List.setIfInBounds_toArray, List.set_cons_zero, List.set_cons_succ]
        refine ors_pure (v := ?_) (by kernel_rfl) ?_ ?_
        rotate_left
        · intro w' hv; clear hv; go_simp; try with_reducible rfl
        try simp only [Act.put, List.setIfInBounds_toArray, List.set_cons_zero, List.set_cons_succ]
        refine ors_nil ?_
        refine ⟨rfl, .agg #[.slice qt (kT vx vc).length ct], .slice (some ⟨wd.heap.size, 0, none⟩) 2049 2049, .tuple #[.agg #[.slice qz (kT vx vc).length cz], .int .i64 9], .tuple #[.agg #[.slice qz (kT vx vc).length cz], .int .i64 9], .agg #[.slice qz (kT vx vc).length cz], .int .i64 9, .pointer (some ⟨wn.heap.size, 0, none⟩), ?_, HFW.out.trans (HF.out.mono HFW.out.size)⟩
        rfl
      · skip
        go_wp2_with fail
        have HG : Hid (Has (wm.alloc (.cells #[.slice none 0 0] 25)) wm.heap.size 25 [.slice none 0 0]) := Lib.hid (Has.made wm _ _)
        have HGE : Hid (wd.heap.size ≤ wm.heap.size) := Lib.hid HF.out.size
        replace HF := Lib.hid (HF.out.alloc HF.out.size (.cells #[.slice none 0 0] 25))
        have hb9 := (Below.refl _ wm).alloc (Nat.le_refl _) (.cells #[.slice none 0 0] 25)
        replace HSm := Lib.hid ((HSm.out.keep hb9).more hb9.size)
        clear hb9
        refine ⟨⟨HB.out.trans (HF.out.mono HB.out.size), HT.out.keep HF.out HT.out.lt⟩, ?_⟩
        generalize wm.alloc (.cells #[.slice none 0 0] 25) = wn at *
        try simp only [Act.put, List.setIfInBounds_toArray, List.set_cons_zero, List.set_cons_succ]
        refine ors_step (by kernel_rfl) (fun K hK => ?_)
        have H := Lib.hid (g_put (kT vx vc) (kgood vx vc) qt ct HCT.out.1 _ ((HST.out.keep HF.out).more HF.out.size) (HET.out.keep HF.out) HCT.out.2 kQ (by decide) (List.replicate 2049 0) _ 2049 (fun h => by cases h) (by rw [hl]; omega) HSm.out)
        rw [hl] at H
        simp only [kp4 _ _ _ _ hl] at H
        go_wp2_with fail
        refine H.out.mono ?_
        rintro e wo ⟨⟨v, w5, rfl, ⟨qz, cz, rfl, hz1, hz2, hz3⟩, hz4⟩, hb⟩
        replace HF := Lib.hid (HF.out.trans (hb.mono HF.out.size))
        replace HG := Lib.hid (HG.out.keep hb HG.out.lt)
        refine hK _ _ ⟨⟨HB.out.trans (HF.out.mono HB.out.size), HT.out.keep HF.out HT.out.lt⟩, ?_⟩
        clear hK hb H hz1 hz2 hz3 hz4 HSm
        try simp only [Act.put, List.setIfInBounds_toArray, List.set_cons_zero, List.set_cons_succ]
        refine ors_pure (v := ?_) (by kernel_rfl) ?_ ?_
        rotate_left
        · intro w' hv; clear hv; go_simp; try with_reducible rfl
        try simp only [Act.put, List.setIfInBounds_toArray, List.set_cons_zero, List.set_cons_succ]
        refine ors_pure (v := ?_) (by kernel_rfl) ?_ ?_
        rotate_left
        · intro w' hv; clear hv; go_simp; try with_reducible rfl
        try simp only [Act.put, List.setIfInBounds_toArray, List.set_cons_zero, List.set_cons_succ]
        refine ors_pure (v := ?_) (by kernel_rfl) ?_ ?_
        rotate_left
        · intro w' hv; clear hv; go_simp; try with_reducible rfl
        try simp only [Act.put, List.setIfInBounds_toArray, List.set_cons_zero, List.set_cons_succ]
        have cg := HG.out.cellv (i := 0) (v := .slice none 0 0) rfl
        have fg := HG.out.free 0
        replace HF := Lib.hid (HF.out.setCell (p := ⟨wm.heap.size, 0, none⟩) HGE.out (.slice qz (kT vx vc).length cz))
        refine ors_step (by kernel_rfl) (fun K hK => ?_)
        go_wp2_with fail
        refine ⟨⟨HB.out.trans (HF.out.mono HB.out.size), HT.out.keep HF.out HT.out.lt⟩, ?_⟩
        try simp only [Act.put, List.setIfInBounds_toArray, List.set_cons_zero, List.set_cons_succ]
        refine ors_pure (v := ?_) (by kernel_rfl) ?_ ?_
        rotate_left
        · intro w' hv; clear hv; go_simp; try with_reducible rfl
        try simp only [Act.put, List.setIfInBounds_toArray, List.set_cons_zero, List.set_cons_succ]
        refine ors_nil ?_
        refine ⟨rfl, .agg #[.slice qt (kT vx vc).length ct], .slice (some ⟨wd.heap.size, 0, none⟩) 2049 2049, .tuple #[.agg #[.slice qz (kT vx vc).length cz], .int .i64 9], .tuple #[.agg #[.slice qz (kT vx vc).length cz], .int .i64 9], .agg #[.slice qz (kT vx vc).length cz], .int .i64 9, .pointer (some ⟨wm.heap.size, 0, none⟩), ?_, HFW.out.trans (HF.out.mono HFW.out.size)⟩
        rfl
    · skip
      go_wp2_with fail
      have HG : Hid (Has (wd.alloc (.cells #[.slice none 0 0] 25)) wd.heap.size 25 [.slice none 0 0]) := Lib.hid (Has.made wd _ _)
      have HGE : Hid (wd.heap.size ≤ wd.heap.size) := Lib.hid HF.out.size
      replace HF := Lib.hid (HF.out.alloc HF.out.size (.cells #[.slice none 0 0] 25))
      refine ⟨⟨HB.out.trans (HF.out.mono HB.out.size), HT.out.keep HF.out HT.out.lt⟩, ?_⟩
      generalize wd.alloc (.cells #[.slice none 0 0] 25) = wm at *
      try simp only [Act.put, List.setIfInBounds_toArray, List.set_cons_zero, List.set_cons_succ]
      refine ors_step (by kernel_rfl) (fun K hK => ?_)
      have hmk := mk2049 wm
      go_wp2_with fail
      have HSm : Hid (Sees (wm.alloc (.cells (madeCells #[Value.int .u8 0] 2049) 5)) (wm.alloc (.cells (madeCells #[Value.int .u8 0] 2049) 5)).heap.size (some ⟨wm.heap.size, 0, none⟩) ((List.replicate 2049 (0 : BitVec 8)).map u8v)) := Lib.hid (sees2049 wm)
      replace HF := Lib.hid (HF.out.alloc HF.out.size (.cells (madeCells #[Value.int .u8 0] 2049) 5))
      replace HG := Lib.hid (HG.out.alloc (.cells (madeCells #[Value.int .u8 0] 2049) 5))
      refine ⟨⟨HB.out.trans (HF.out.mono HB.out.size), HT.out.keep HF.out HT.out.lt⟩, ?_⟩
      clear hmk
      generalize wm.alloc (.cells (madeCells #[Value.int .u8 0] 2049) 5) = wn at *
      try simp only [Act.put, List.setIfInBounds_toArray, List.set_cons_zero, List.set_cons_succ]
      refine ors_step (by kernel_rfl) (fun K hK => ?_)
      have H := Lib.hid (g_put (kT vx vc) (kgood vx vc) qt ct HCT.out.1 _ ((HST.out.keep HF.out).more HF.out.size) (HET.out.keep HF.out) HCT.out.2 kQ (by decide) (List.replicate 2049 0) _ 2049 (fun h => by cases h) (by rw [hl]; omega) HSm.out)
      rw [hl] at H
      simp only [kp4 _ _ _ _ hl] at H
      go_wp2_with fail
      refine H.out.mono ?_
      rintro e wo ⟨⟨v, w5, rfl, ⟨qz, cz, rfl, hz1, hz2, hz3⟩, hz4⟩, hb⟩
      replace HF := Lib.hid (HF.out.trans (hb.mono HF.out.size))
      replace HG := Lib.hid (HG.out.keep hb HG.out.lt)
      refine hK _ _ ⟨⟨HB.out.trans (HF.out.mono HB.out.size), HT.out.keep HF.out HT.out.lt⟩, ?_⟩
      clear hK hb H hz1 hz2 hz3 hz4 HSm
      try simp only [Act.put, List.setIfInBounds_toArray, List.set_cons_zero, List.set_cons_succ]
      refine ors_pure (v := ?_) (by kernel_rfl) ?_ ?_
      rotate_left
      · intro w' hv; clear hv; go_simp; try with_reducible rfl
      try simp only [Act.put, List.setIfInBounds_toArray, List.set_cons_zero, List.set_cons_succ]
      refine ors_pure (v := ?_) (by kernel_rfl) ?_ ?_
      rotate_left
      · intro w' hv; clear hv; go_simp; try with_reducible rfl
      try simp only [Act.put, List.setIfInBounds_toArray, List.set_cons_zero, List.set_cons_succ]
      refine ors_pure (v := ?_) (by kernel_rfl) ?_ ?_
      rotate_left
      · intro w' hv; clear hv; go_simp; try with_reducible rfl
      try simp only [Act.put, List.setIfInBounds_toArray, List.set_cons_zero, List.set_cons_succ]
      have cg := HG.out.cellv (i := 0) (v := .slice none 0 0) rfl
      have fg := HG.out.free 0
      replace HF := Lib.hid (HF.out.setCell (p := ⟨wd.heap.size, 0, none⟩) HGE.out (.slice qz (kT vx vc).length cz))
      refine ors_step (by kernel_rfl) (fun K hK => ?_)
      go_wp2_with fail
      refine ⟨⟨HB.out.trans (HF.out.mono HB.out.size), HT.out.keep HF.out HT.out.lt⟩, ?_⟩
      try simp only [Act.put, List.setIfInBounds_toArray, List.set_cons_zero, List.set_cons_succ]
      refine ors_pure (v := ?_) (by kernel_rfl) ?_ ?_
      rotate_left
      · intro w' hv; clear hv; go_simp; try with_reducible rfl
      try simp only [Act.put, List.setIfInBounds_toArray, List.set_cons_zero, List.set_cons_succ]
      refine ors_nil ?_
      refine ⟨rfl, .agg #[.slice qt (kT vx vc).length ct], .slice (some ⟨wm.heap.size, 0, none⟩) 2049 2049, .tuple #[.agg #[.slice qz (kT vx vc).length cz], .int .i64 9], .tuple #[.agg #[.slice qz (kT vx vc).length cz], .int .i64 9], .agg #[.slice qz (kT vx vc).length cz], .int .i64 9, .pointer (some ⟨wd.heap.size, 0, none⟩), ?_, HFW.out.trans (HF.out.mono HFW.out.size)⟩
      rfl
  rintro a' wa ⟨x0, x1, x2, x3, x4, x5, x6, rfl, hb⟩
  replace HB := Lib.hid (HB.out.trans (hb.mono HB.out.size))
  replace HT := Lib.hid (HT.out.keep hb HT.out.lt)
  replace HST := Lib.hid ((HST.out.keep hb).more hb.size)
  replace HET := Lib.hid (HET.out.keep hb)
  replace HSx := Lib.hid ((HSx.out.keep hb).more hb.size)
  replace HX := Lib.hid (HX.out.keep hb HX.out.lt)
  clear hb
  try simp only [Act.put, List.setIfInBounds_toArray, List.set_cons_zero, List.set_cons_succ]
  have ct := HT.out.cellv (i := 0) (v := .slice qt (kT vx vc).length ct) rfl
  go_wp2_with fail
  clear ct
  have H := Lib.hid (g_make (kT vx vc) (kgood vx vc) qt ct HCT.out.1 _ HST.out HET.out HCT.out.2 pA (by decide))
  simp only [km1] at H
  refine H.out.mono ?_
  rintro e u16 ⟨⟨v18, rfl, ⟨qz, cz, rfl, hz1, hz2, hz3⟩, hz4⟩, hb⟩
  replace HB := Lib.hid (HB.out.trans (hb.mono HB.out.size))
  replace HT := Lib.hid (HT.out.keep hb HT.out.lt)
  replace HST := Lib.hid ((HST.out.keep hb).more hb.size)
  replace HET := Lib.hid (HET.out.keep hb)
  replace HSx := Lib.hid ((HSx.out.keep hb).more hb.size)
  replace HX := Lib.hid (HX.out.keep hb HX.out.lt)
  clear hb H
  clear hz1 hz2 hz3 hz4
  have hb := (Below.refl _ u16).alloc (Nat.le_refl _) (.cells #[.slice qz (kT vx vc).length cz] 25)
  replace HB := Lib.hid (HB.out.trans (hb.mono HB.out.size))
  replace HT := Lib.hid (HT.out.keep hb HT.out.lt)
  replace HST := Lib.hid ((HST.out.keep hb).more hb.size)
  replace HET := Lib.hid (HET.out.keep hb)
  replace HSx := Lib.hid ((HSx.out.keep hb).more hb.size)
  replace HX := Lib.hid (HX.out.keep hb HX.out.lt)
  clear hb
  have ct := HT.out.cellv (i := 0) (v := .slice qt (kT vx vc).length ct) rfl
  go_wp2_with fail
  clear ct
  generalize u16.alloc (.cells #[.slice qz (kT vx vc).length cz] 25) = w17 at *
  have H := Lib.hid (g_make (kT vx vc) (kgood vx vc) qt ct HCT.out.1 _ HST.out HET.out HCT.out.2 kCD (by decide))
  simp only [km2] at H
  refine H.out.mono ?_
  rintro e u19 ⟨⟨v21, rfl, ⟨qz, cz, rfl, hz1, hz2, hz3⟩, hz4⟩, hb⟩
  replace HB := Lib.hid (HB.out.trans (hb.mono HB.out.size))
  replace HT := Lib.hid (HT.out.keep hb HT.out.lt)
  replace HST := Lib.hid ((HST.out.keep hb).more hb.size)
  replace HET := Lib.hid (HET.out.keep hb)
  replace HSx := Lib.hid ((HSx.out.keep hb).more hb.size)
  replace HX := Lib.hid (HX.out.keep hb HX.out.lt)
  clear hb H
  clear hz1 hz2 hz3 hz4
  have hb := (Below.refl _ u19).alloc (Nat.le_refl _) (.cells #[.slice qz (kT vx vc).length cz] 25)
  replace HB := Lib.hid (HB.out.trans (hb.mono HB.out.size))
  replace HT := Lib.hid (HT.out.keep hb HT.out.lt)
  replace HST := Lib.hid ((HST.out.keep hb).more hb.size)
  replace HET := Lib.hid (HET.out.keep hb)
  replace HSx := Lib.hid ((HSx.out.keep hb).more hb.size)
  replace HX := Lib.hid (HX.out.keep hb HX.out.lt)
  clear hb
  have ct := HT.out.cellv (i := 0) (v := .slice qt (kT vx vc).length ct) rfl
  go_wp2_with fail
  clear ct
  generalize u19.alloc (.cells #[.slice qz (kT vx vc).length cz] 25) = w20 at *
  have H := Lib.hid (g_remove (kT vx vc) (kgood vx vc) qt ct HCT.out.1 _ HST.out HET.out HCT.out.2 pA (by decide))
  simp only [kr1] at H
  refine H.out.mono ?_
  rintro e u22 ⟨⟨v24, rfl, ⟨qz, cz, rfl, hz1, hz2, hz3⟩, hz4⟩, hb⟩
  replace HB := Lib.hid (HB.out.trans (hb.mono HB.out.size))
  replace HT := Lib.hid (HT.out.keep hb HT.out.lt)
  replace HST := Lib.hid ((HST.out.keep hb).more hb.size)
  replace HET := Lib.hid (HET.out.keep hb)
  replace HSx := Lib.hid ((HSx.out.keep hb).more hb.size)
  replace HX := Lib.hid (HX.out.keep hb HX.out.lt)
  clear hb H
  clear hz1 hz2 hz3 hz4
  have hb := (Below.refl _ u22).alloc (Nat.le_refl _) (.cells #[.slice qz (kT vx vc).length cz] 25)
  replace HB := Lib.hid (HB.out.trans (hb.mono HB.out.size))
  replace HT := Lib.hid (HT.out.keep hb HT.out.lt)
  replace HST := Lib.hid ((HST.out.keep hb).more hb.size)
  replace HET := Lib.hid (HET.out.keep hb)
  replace HSx := Lib.hid ((HSx.out.keep hb).more hb.size)
  replace HX := Lib.hid (HX.out.keep hb HX.out.lt)
  clear hb
  have ct := HT.out.cellv (i := 0) (v := .slice qt (kT vx vc).length ct) rfl
  go_wp2_with fail
  clear ct
  generalize u22.alloc (.cells #[.slice qz (kT vx vc).length cz] 25) = w23 at *
  have H := Lib.hid (g_remove (kT vx vc) (kgood vx vc) qt ct HCT.out.1 _ HST.out HET.out HCT.out.2 kQ (by decide))
  simp only [kr2] at H
  refine H.out.mono ?_
  rintro e u25 ⟨⟨v27, rfl, ⟨qz, cz, rfl, hz1, hz2, hz3⟩, hz4⟩, hb⟩
  replace HB := Lib.hid (HB.out.trans (hb.mono HB.out.size))
  replace HT := Lib.hid (HT.out.keep hb HT.out.lt)
  replace HST := Lib.hid ((HST.out.keep hb).more hb.size)
  replace HET := Lib.hid (HET.out.keep hb)
  replace HSx := Lib.hid ((HSx.out.keep hb).more hb.size)
  replace HX := Lib.hid (HX.out.keep hb HX.out.lt)
  clear hb H
  clear hz1 hz2 hz3 hz4
  have hb := (Below.refl _ u25).alloc (Nat.le_refl _) (.cells #[.slice qz (kT vx vc).length cz] 25)
  replace HB := Lib.hid (HB.out.trans (hb.mono HB.out.size))
  replace HT := Lib.hid (HT.out.keep hb HT.out.lt)
  replace HST := Lib.hid ((HST.out.keep hb).more hb.size)
  replace HET := Lib.hid (HET.out.keep hb)
  replace HSx := Lib.hid ((HSx.out.keep hb).more hb.size)
  replace HX := Lib.hid (HX.out.keep hb HX.out.lt)
  clear hb
  have ct := HT.out.cellv (i := 0) (v := .slice qt (kT vx vc).length ct) rfl
  go_wp2_with fail
  clear ct
  generalize u25.alloc (.cells #[.slice qz (kT vx vc).length cz] 25) = w26 at *
  have H := Lib.hid (g_remove (kT vx vc) (kgood vx vc) qt ct HCT.out.1 _ HST.out HET.out HCT.out.2 pAB (by decide))
  simp only [kr3] at H
  refine H.out.mono ?_
  rintro e u28 ⟨⟨v30, rfl, ⟨qu, cu, rfl, hz1, hz2, hz3⟩, hz4⟩, hb⟩
  replace HB := Lib.hid (HB.out.trans (hb.mono HB.out.size))
  replace HT := Lib.hid (HT.out.keep hb HT.out.lt)
  replace HST := Lib.hid ((HST.out.keep hb).more hb.size)
  replace HET := Lib.hid (HET.out.keep hb)
  replace HSx := Lib.hid ((HSx.out.keep hb).more hb.size)
  replace HX := Lib.hid (HX.out.keep hb HX.out.lt)
  clear hb H
  have Hu : Hid (Has (u28.alloc (.cells #[.slice qu (kU vc).length cu] 25)) u28.heap.size 25 [.slice qu (kU vc).length cu]) := Lib.hid (Has.made u28 _ _)
  clear hz1 hz2 hz3 hz4
  have hb := (Below.refl _ u28).alloc (Nat.le_refl _) (.cells #[.slice qu (kU vc).length cu] 25)
  replace HB := Lib.hid (HB.out.trans (hb.mono HB.out.size))
  replace HT := Lib.hid (HT.out.keep hb HT.out.lt)
  replace HST := Lib.hid ((HST.out.keep hb).more hb.size)
  replace HET := Lib.hid (HET.out.keep hb)
  replace HSx := Lib.hid ((HSx.out.keep hb).more hb.size)
  replace HX := Lib.hid (HX.out.keep hb HX.out.lt)
  clear hb
  have ct := HT.out.cellv (i := 0) (v := .slice qt (kT vx vc).length ct) rfl
  go_wp2_with fail
  clear ct
  generalize u28.alloc (.cells #[.slice qu (kU vc).length cu] 25) = w29 at *
  generalize u28.heap.size = Bu at *
  have H := Lib.hid (g_move (kT vx vc) (kgood vx vc) qt ct HCT.out.1 _ HST.out HET.out HCT.out.2 pA kQ (by decide) (by decide))
  simp only [kv1] at H
  refine H.out.mono ?_
  rintro e u31 ⟨⟨v33, w5, rfl, ⟨qz, cz, rfl, hz1, hz2, hz3⟩, hz4⟩, hb⟩
  replace HB := Lib.hid (HB.out.trans (hb.mono HB.out.size))
  replace HT := Lib.hid (HT.out.keep hb HT.out.lt)
  replace HST := Lib.hid ((HST.out.keep hb).more hb.size)
  replace HET := Lib.hid (HET.out.keep hb)
  replace HSx := Lib.hid ((HSx.out.keep hb).more hb.size)
  replace HX := Lib.hid (HX.out.keep hb HX.out.lt)
  replace Hu := Lib.hid (Hu.out.keep hb Hu.out.lt)
  clear hb H
  clear hz1 hz2 hz3 hz4
  have hb := (Below.refl _ u31).alloc (Nat.le_refl _) (.cells #[.slice qz (kT vx vc).length cz] 25)
  replace HB := Lib.hid (HB.out.trans (hb.mono HB.out.size))
  replace HT := Lib.hid (HT.out.keep hb HT.out.lt)
  replace HST := Lib.hid ((HST.out.keep hb).more hb.size)
  replace HET := Lib.hid (HET.out.keep hb)
  replace HSx := Lib.hid ((HSx.out.keep hb).more hb.size)
  replace HX := Lib.hid (HX.out.keep hb HX.out.lt)
  replace Hu := Lib.hid (Hu.out.keep hb Hu.out.lt)
  clear hb
  have ct := HT.out.cellv (i := 0) (v := .slice qt (kT vx vc).length ct) rfl
  go_wp2_with fail
  clear ct
  generalize u31.alloc (.cells #[.slice qz (kT vx vc).length cz] 25) = w32 at *
  have H := Lib.hid (g_move (kT vx vc) (kgood vx vc) qt ct HCT.out.1 _ HST.out HET.out HCT.out.2 pAB kZY (by decide) (by decide))
  simp only [kv2] at H
  refine H.out.mono ?_
  rintro e u34 ⟨⟨v36, w5, rfl, ⟨qz, cz, rfl, hz1, hz2, hz3⟩, hz4⟩, hb⟩
  replace HB := Lib.hid (HB.out.trans (hb.mono HB.out.size))
  replace HT := Lib.hid (HT.out.keep hb HT.out.lt)
  replace HST := Lib.hid ((HST.out.keep hb).more hb.size)
  replace HET := Lib.hid (HET.out.keep hb)
  replace HSx := Lib.hid ((HSx.out.keep hb).more hb.size)
  replace HX := Lib.hid (HX.out.keep hb HX.out.lt)
  replace Hu := Lib.hid (Hu.out.keep hb Hu.out.lt)
  clear hb H
  clear hz1 hz2 hz3 hz4
  have hb := (Below.refl _ u34).alloc (Nat.le_refl _) (.cells #[.slice qz (kT vx vc).length cz] 25)
  replace HB := Lib.hid (HB.out.trans (hb.mono HB.out.size))
  replace HT := Lib.hid (HT.out.keep hb HT.out.lt)
  replace HST := Lib.hid ((HST.out.keep hb).more hb.size)
  replace HET := Lib.hid (HET.out.keep hb)
  replace HSx := Lib.hid ((HSx.out.keep hb).more hb.size)
  replace HX := Lib.hid (HX.out.keep hb HX.out.lt)
  replace Hu := Lib.hid (Hu.out.keep hb Hu.out.lt)
  clear hb
  have ct := HT.out.cellv (i := 0) (v := .slice qt (kT vx vc).length ct) rfl
  go_wp2_with fail
  clear ct
  generalize u34.alloc (.cells #[.slice qz (kT vx vc).length cz] 25) = w35 at *
  have H := Lib.hid (g_move (kT vx vc) (kgood vx vc) qt ct HCT.out.1 _ HST.out HET.out HCT.out.2 pAB kC (by decide) (by decide))
  simp only [kv3] at H
  refine H.out.mono ?_
  rintro e u37 ⟨⟨v39, vo, rfl, ⟨qo, co, rfl, hz1, hz2, hz3⟩, hz4⟩, hb⟩
  replace HB := Lib.hid (HB.out.trans (hb.mono HB.out.size))
  replace HT := Lib.hid (HT.out.keep hb HT.out.lt)
  replace HST := Lib.hid ((HST.out.keep hb).more hb.size)
  replace HET := Lib.hid (HET.out.keep hb)
  replace HSx := Lib.hid ((HSx.out.keep hb).more hb.size)
  replace HX := Lib.hid (HX.out.keep hb HX.out.lt)
  replace Hu := Lib.hid (Hu.out.keep hb Hu.out.lt)
  clear hb H
  have Ho : Hid (Has (u37.alloc (.cells #[.slice qo (kO vo).length co] 25)) u37.heap.size 25 [.slice qo (kO vo).length co]) := Lib.hid (Has.made u37 _ _)
  have HSo := Lib.hid hz3
  have HEo := Lib.hid hz4
  have HCo : Hid ((kO vo).length ≤ co ∧ (qo = none → co = 0)) := Lib.hid ⟨hz1, hz2⟩
  clear hz1 hz2 hz3 hz4
  have hb := (Below.refl _ u37).alloc (Nat.le_refl _) (.cells #[.slice qo (kO vo).length co] 25)
  replace HB := Lib.hid (HB.out.trans (hb.mono HB.out.size))
  replace HT := Lib.hid (HT.out.keep hb HT.out.lt)
  replace HST := Lib.hid ((HST.out.keep hb).more hb.size)
  replace HET := Lib.hid (HET.out.keep hb)
  replace HSx := Lib.hid ((HSx.out.keep hb).more hb.size)
  replace HX := Lib.hid (HX.out.keep hb HX.out.lt)
  replace Hu := Lib.hid (Hu.out.keep hb Hu.out.lt)
  replace HSo := Lib.hid ((HSo.out.keep hb).more hb.size)
  replace HEo := Lib.hid (HEo.out.keep hb)
  clear hb
  have ct := HT.out.cellv (i := 0) (v := .slice qt (kT vx vc).length ct) rfl
  go_wp2_with fail
  clear ct
  generalize u37.alloc (.cells #[.slice qo (kO vo).length co] 25) = w38 at *
  generalize u37.heap.size = Bo at *
  have H := Lib.hid (g_move (kT vx vc) (kgood vx vc) qt ct HCT.out.1 _ HST.out HET.out HCT.out.2 kC kC (by decide) (by decide))
  simp only [kv4] at H
  refine H.out.mono ?_
  rintro e u40 ⟨⟨v42, w5, rfl, ⟨qq, cq, rfl, hz1, hz2, hz3⟩, hz4⟩, hb⟩
  replace HB := Lib.hid (HB.out.trans (hb.mono HB.out.size))
  replace HT := Lib.hid (HT.out.keep hb HT.out.lt)
  replace HST := Lib.hid ((HST.out.keep hb).more hb.size)
  replace HET := Lib.hid (HET.out.keep hb)
  replace HSx := Lib.hid ((HSx.out.keep hb).more hb.size)
  replace HX := Lib.hid (HX.out.keep hb HX.out.lt)
  replace Hu := Lib.hid (Hu.out.keep hb Hu.out.lt)
  replace HSo := Lib.hid ((HSo.out.keep hb).more hb.size)
  replace HEo := Lib.hid (HEo.out.keep hb)
  replace Ho := Lib.hid (Ho.out.keep hb Ho.out.lt)
  clear hb H
  have Hq : Hid (Has (u40.alloc (.cells #[.slice qq (kT vx vc).length cq] 25)) u40.heap.size 25 [.slice qq (kT vx vc).length cq]) := Lib.hid (Has.made u40 _ _)
  have HSq := Lib.hid hz3
  have HEq := Lib.hid hz4
  have HCq : Hid ((kT vx vc).length ≤ cq ∧ (qq = none → cq = 0)) := Lib.hid ⟨hz1, hz2⟩
  have HSZ : Hid ((u40.alloc (.cells #[.slice qq (kT vx vc).length cq] 25)).heap.size = u40.heap.size + 1) := Lib.hid (by simp)
  clear hz1 hz2 hz3 hz4
  have hb := (Below.refl _ u40).alloc (Nat.le_refl _) (.cells #[.slice qq (kT vx vc).length cq] 25)
  replace HB := Lib.hid (HB.out.trans (hb.mono HB.out.size))
  replace HT := Lib.hid (HT.out.keep hb HT.out.lt)
  replace HST := Lib.hid ((HST.out.keep hb).more hb.size)
  replace HET := Lib.hid (HET.out.keep hb)
  replace HSx := Lib.hid ((HSx.out.keep hb).more hb.size)
  replace HX := Lib.hid (HX.out.keep hb HX.out.lt)
  replace Hu := Lib.hid (Hu.out.keep hb Hu.out.lt)
  replace HSo := Lib.hid ((HSo.out.keep hb).more hb.size)
  replace HEo := Lib.hid (HEo.out.keep hb)
  replace Ho := Lib.hid (Ho.out.keep hb Ho.out.lt)
  replace HSq := Lib.hid ((HSq.out.keep hb).more hb.size)
  replace HEq := Lib.hid (HEq.out.keep hb)
  clear hb
  have ct := HT.out.cellv (i := 0) (v := .slice qt (kT vx vc).length ct) rfl
  go_wp2_with fail
  clear ct
  generalize u40.alloc (.cells #[.slice qq (kT vx vc).length cq] 25) = w41 at *
  generalize u40.heap.size = Bq at *
  have HSb : Hid (Sees (w41.alloc (.cells #[.string ⟨#[98]⟩, .bool false, .slice none 0 0, .string ⟨#[97]⟩, .bool false, .slice none 0 0] 32)) (w41.alloc (.cells #[.string ⟨#[98]⟩, .bool false, .slice none 0 0, .string ⟨#[97]⟩, .bool false, .slice none 0 0] 32)).heap.size (some ⟨Bq + 1, 0, none⟩) (rowC kBad)) := Lib.hid (by rw [← HSZ.out]; exact has_sees (Has.made' w41 32 #[.string ⟨#[98]⟩, .bool false, .slice none 0 0, .string ⟨#[97]⟩, .bool false, .slice none 0 0] (rowC kBad) rfl))
  have hb := (Below.refl _ w41).alloc (Nat.le_refl _) (.cells #[.string ⟨#[98]⟩, .bool false, .slice none 0 0, .string ⟨#[97]⟩, .bool false, .slice none 0 0] 32)
  replace HB := Lib.hid (HB.out.trans (hb.mono HB.out.size))
  replace HT := Lib.hid (HT.out.keep hb HT.out.lt)
  replace HST := Lib.hid ((HST.out.keep hb).more hb.size)
  replace HET := Lib.hid (HET.out.keep hb)
  replace HSx := Lib.hid ((HSx.out.keep hb).more hb.size)
  replace HX := Lib.hid (HX.out.keep hb HX.out.lt)
  replace Hu := Lib.hid (Hu.out.keep hb Hu.out.lt)
  replace HSo := Lib.hid ((HSo.out.keep hb).more hb.size)
  replace HEo := Lib.hid (HEo.out.keep hb)
  replace Ho := Lib.hid (Ho.out.keep hb Ho.out.lt)
  replace HSq := Lib.hid ((HSq.out.keep hb).more hb.size)
  replace HEq := Lib.hid (HEq.out.keep hb)
  replace Hq := Lib.hid (Hq.out.keep hb Hq.out.lt)
  clear hb
  generalize w41.alloc (.cells #[.string ⟨#[98]⟩, .bool false, .slice none 0 0, .string ⟨#[97]⟩, .bool false, .slice none 0 0] 32) = wb at *
  clear HSZ
  have H := Lib.hid (tput_any kBad (some ⟨Bq + 1, 0, none⟩) 2 kQ [] none 0 (by rw [kbad1]; omega) (by rw [kbad1]; omega) (fun h => by cases h) (by rw [kbad2]; omega) (fun e he => by have := kbad3 e he; omega) (by have : kQ.size = 1 := rfl; omega) (fun _ => rfl) (by simp) wb HSb.out (fun e he => by
    obtain ⟨h1, h2⟩ := kbad4 e he
    rw [h1, h2]; exact Bs.nil _) (Sees.nil _ _ _))
  simp only [kb1] at H
  refine H.out.mono ?_
  rintro e wc ⟨⟨v, w5', rfl, hR⟩, hb⟩
  replace HB := Lib.hid (HB.out.trans (hb.mono HB.out.size))
  replace HT := Lib.hid (HT.out.keep hb HT.out.lt)
  replace HST := Lib.hid ((HST.out.keep hb).more hb.size)
  replace HET := Lib.hid (HET.out.keep hb)
  replace HSx := Lib.hid ((HSx.out.keep hb).more hb.size)
  replace HX := Lib.hid (HX.out.keep hb HX.out.lt)
  replace Hu := Lib.hid (Hu.out.keep hb Hu.out.lt)
  replace HSo := Lib.hid ((HSo.out.keep hb).more hb.size)
  replace HEo := Lib.hid (HEo.out.keep hb)
  replace Ho := Lib.hid (Ho.out.keep hb Ho.out.lt)
  replace HSq := Lib.hid ((HSq.out.keep hb).more hb.size)
  replace HEq := Lib.hid (HEq.out.keep hb)
  replace Hq := Lib.hid (Hq.out.keep hb Hq.out.lt)
  clear hb H HSb
  obtain ⟨xr, mr, kr, rfl⟩ := hR.slice
  clear hR
  have hb := (Below.refl _ wc).alloc (Nat.le_refl _) (.cells #[.slice xr mr kr] 25)
  replace HB := Lib.hid (HB.out.trans (hb.mono HB.out.size))
  replace HT := Lib.hid (HT.out.keep hb HT.out.lt)
  replace HST := Lib.hid ((HST.out.keep hb).more hb.size)
  replace HET := Lib.hid (HET.out.keep hb)
  replace HSx := Lib.hid ((HSx.out.keep hb).more hb.size)
  replace HX := Lib.hid (HX.out.keep hb HX.out.lt)
  replace Hu := Lib.hid (Hu.out.keep hb Hu.out.lt)
  replace HSo := Lib.hid ((HSo.out.keep hb).more hb.size)
  replace HEo := Lib.hid (HEo.out.keep hb)
  replace Ho := Lib.hid (Ho.out.keep hb Ho.out.lt)
  replace HSq := Lib.hid ((HSq.out.keep hb).more hb.size)
  replace HEq := Lib.hid (HEq.out.keep hb)
  replace Hq := Lib.hid (Hq.out.keep hb Hq.out.lt)
  clear hb
  have HSZF : Hid ((wc.alloc (.cells #[.slice xr mr kr] 25)).heap.size = wc.heap.size + 1) := Lib.hid (by simp)
  go_wp2_with fail
  generalize wc.alloc (.cells #[.slice xr mr kr] 25) = wF at *
  generalize wc.heap.size + 1 = BF at *
  have HFW0 : Hid (Has (wF.alloc (.cells #[.slice none 0 0] 25)) BF 25 [.slice none 0 0]) := Lib.hid (by rw [← HSZF.out]; exact Has.made wF _ _)
  have HGW0 := Lib.hid ((Below.refl _ wF).alloc (Nat.le_refl _) (.cells #[.slice none 0 0] 25))
  generalize wF.alloc (.cells #[.slice none 0 0] 25) = wG at *
  go_loopw [39] (fun vi wr => ∃ (i : Nat) (qf : Option Addr) (cf : Nat), i ≤ 38 ∧ vi = .int .i64 i ∧ Below wF.heap.size wF wr ∧ Has wr BF 25 [.slice qf (kFull i).length cf] ∧ (kFull i).length ≤ cf ∧ (qf = none → cf = 0) ∧ Sees wr wr.heap.size qf (rowC (kFull i)) ∧ Ents wr (kFull i)) (fun vi _ => 38 - (intOf vi).toNat)
  case atStart => exact ⟨0, none, 0, by omega, rfl, HGW0.out, HFW0.out, Nat.le_refl _, fun _ => rfl, Sees.nil _ _ _, (fun _ h => nomatch h)⟩
  case round =>
    obtain ⟨i, qf, cf, hi, rfl, hB, hF, hcf, hqf, hsf, hEf⟩ := hrel
    have HBF := Lib.hid hB
    have HF := Lib.hid hF
    have HSf := Lib.hid hsf
    have HEf := Lib.hid hEf
    have HCf : Hid ((kFull i).length ≤ cf ∧ (qf = none → cf = 0)) := Lib.hid ⟨hcf, hqf⟩
    clear hB hF hsf hEf hcf hqf
    by_cases hlt : i < 38
    · skip
      have kk : (i : Int) < 38 := by omega
      go_wp2_with fail
      refine wp_join (fun a a' w' => ∃ x0 x1 x2 x3 x4 x5 x6 x7 x8 x9 g qn cn, a' = ((((((((((((a.put (some 160) x0).put (some 161) x1).put (some 162) x2).put (some 163) x3).put (some 164) x4).put (some 165) x5).put (some 166) x6).put (some 159) x7).put (some 167) x8).put (some 168) x9).put (some 40) (.pointer (some ⟨g, 0, none⟩))).put (some 41) (.int .i64 0)) ∧ Below wr.heap.size wr w' ∧ Has w' g 25 [.slice qn (kFull (i + 1)).length cn] ∧ (kFull (i + 1)).length ≤ cn ∧ (qn = none → cn = 0) ∧ Sees w' w'.heap.size qn (rowC (kFull (i + 1))) ∧ Ents w' (kFull (i + 1))) ?_ ?_
      · skip
        refine wp_region_fl [(0, true), (1, true), (2, true), (3, true), (4, true), (5, true), (6, false), (7, true), (8, true), (9, true)] 10 [(11, false), (12, true)] _ rfl rfl (by kernel_rfl) (by kernel_rfl) _ chkK28_ok rfl (fun w' => Below wF.heap.size wF w' ∧ Has w' BF 25 [.slice qf (kFull i).length cf]) ⟨HBF.out.drew, HF.out.drew⟩ ?_
        have hb := (Below.refl wr.heap.size wr).drew
        have HWR := Lib.hid hb
        replace HBF := Lib.hid (HBF.out.trans (hb.mono HBF.out.size))
        replace HF := Lib.hid (HF.out.keep hb HF.out.lt)
        replace HSf := Lib.hid ((HSf.out.keep hb).more hb.size)
        replace HEf := Lib.hid (HEf.out.keep hb)
        clear hb
        generalize wr.drew = wd at *
        have H3 := Lib.hid (Below.refl wd.heap.size wd)
        have hw1 : IntKind.i64.wrap ((i : Int) + 1) = (i : Int) + 1 := by rw [IntWalk.i64_in _ (by omega)]
        have hsz : (kNames.extract i (i + 1)).size ≤ 100 := by rw [ByteArray.size_extract]; have : kNames.size = 38 := rfl; omega
        have hgi : goodP (kFull i) = true := by have := List.all_eq_true.1 kfull_good i (List.mem_range.2 (by omega)); exact this
        have hnx : (makeP (kFull i) (kNames.extract i (i + 1))).1 = kFull (i + 1) := rfl
        have hei : (makeP (kFull i) (kNames.extract i (i + 1))).2 = 0 := by have := List.all_eq_true.1 kfull_ok i (List.mem_range.2 hlt); exact of_decide_eq_true this
        simp only [pickOrs, List.getElem?_cons_zero, List.getElem?_cons_succ]
        refine fl_pure (v := ?_) (by kernel_rfl) ?_ ?_
        rotate_left
        · intro w' hv; have cx := hv.2.cellv (i := 0) (v := .slice qf (kFull i).length cf) rfl; clear hv; go_simp; try with_reducible rfl
        try simp only [Act.put, List.setIfInBounds_toArray, List.set_cons_zero, List.set_cons_succ]
        refine fl_pure (v := ?_) (by kernel_rfl) ?_ ?_
        rotate_left
        · intro w' hv; clear hv; go_simp; try with_reducible rfl
        try simp only [Act.put, List.setIfInBounds_toArray, List.set_cons_zero, List.set_cons_succ]
        refine fl_pure (v := ?_) (by kernel_rfl) ?_ ?_
        rotate_left
        · intro w' hv; clear hv; go_simp; try with_reducible rfl
        try simp only [Act.put, List.setIfInBounds_toArray, List.set_cons_zero, List.set_cons_succ]
        refine fl_pure (v := ?_) (by kernel_rfl) ?_ ?_
        rotate_left
        · intro w' hv; clear hv; go_simp; try with_reducible rfl
        try simp only [Act.put, List.setIfInBounds_toArray, List.set_cons_zero, List.set_cons_succ]
        refine fl_pure (v := ?_) (by kernel_rfl) ?_ ?_
        rotate_left
        · intro w' hv; clear hv; go_simp; try with_reducible rfl
        try simp only [Act.put, List.setIfInBounds_toArray, List.set_cons_zero, List.set_cons_succ]
        refine fl_pure (v := .string (kNames.extract i (i + 1))) (by kernel_rfl) (fun w' hv => ?_) ?_
        · clear hv
          have hk := kslice i hlt w'
          unfold kNames at hk ⊢
          go_simp
        try simp only [Act.put, List.setIfInBounds_toArray, List.set_cons_zero, List.set_cons_succ]
        refine fl_step rfl (fun K hK => ?_) (fun K hK => ?_)
        · skip
          have H := Lib.hid (g_make (kFull i) hgi qf cf HCf.out.1 _ ((HSf.out.keep H3.out).more H3.out.size) (HEf.out.keep H3.out) HCf.out.2 (kNames.extract i (i + 1)) hsz)
          rw [hei, hnx] at H
          go_wp2_with fail
          refine H.out.mono ?_
          rintro e wn ⟨⟨v, rfl, ⟨qn, cn, rfl, hz1, hz2, hz3⟩, hz4⟩, hb⟩
          replace H3 := Lib.hid (H3.out.trans (hb.mono H3.out.size))
          have HSn := Lib.hid hz3
          have HEn := Lib.hid hz4
          have HCn : Hid ((kFull (i + 1)).length ≤ cn ∧ (qn = none → cn = 0)) := Lib.hid ⟨hz1, hz2⟩
          refine hK _ _ ⟨⟨HBF.out.trans (H3.out.mono HBF.out.size), HF.out.keep H3.out HF.out.lt⟩, ?_⟩
          clear hK hb H hz1 hz2 hz3 hz4
          try simp only [Act.put, List.setIfInBounds_toArray, List.set_cons_zero, List.set_cons_succ]
          refine fl_pure (v := ?_) (by kernel_rfl) ?_ ?_
          rotate_left
          · intro w' hv; clear hv; go_simp; try with_reducible rfl
          try simp only [Act.put, List.setIfInBounds_toArray, List.set_cons_zero, List.set_cons_succ]
          refine fl_pure (v := ?_) (by kernel_rfl) ?_ ?_
          rotate_left
          · intro w' hv; clear hv; go_simp; try with_reducible rfl
          try simp only [Act.put, List.setIfInBounds_toArray, List.set_cons_zero, List.set_cons_succ]
          refine fl_pure (v := ?_) (by kernel_rfl) ?_ ?_
          rotate_left
          · intro w' hv; clear hv; go_simp; try with_reducible rfl
          try simp only [Act.put, List.setIfInBounds_toArray, List.set_cons_zero, List.set_cons_succ]
          refine fl_nil (fun K hK => ?_)
          go_wp2_with fail
          have HG : Hid (Has (wn.alloc (.cells #[.slice none 0 0] 25)) wn.heap.size 25 [.slice none 0 0]) := Lib.hid (Has.made wn _ _)
          have HGE : Hid (wd.heap.size ≤ wn.heap.size) := Lib.hid H3.out.size
          replace H3 := Lib.hid (H3.out.alloc H3.out.size (.cells #[.slice none 0 0] 25))
          have hb9 := (Below.refl _ wn).alloc (Nat.le_refl _) (.cells #[.slice none 0 0] 25)
          replace HSn := Lib.hid ((HSn.out.keep hb9).more hb9.size)
          replace HEn := Lib.hid (HEn.out.keep hb9)
          clear hb9
          refine ⟨⟨HBF.out.trans (H3.out.mono HBF.out.size), HF.out.keep H3.out HF.out.lt⟩, ?_⟩
          generalize wn.alloc (.cells #[.slice none 0 0] 25) = wo at *
          try simp only [Act.put, List.setIfInBounds_toArray, List.set_cons_zero, List.set_cons_succ]
          have cg := HG.out.cellv (i := 0) (v := .slice none 0 0) rfl
          have fg := HG.out.free 0
          have HSz := Lib.hid (HSn.out.offC (x := .slice qn (kFull (i + 1)).length cn) HG.out)
          have HEz := Lib.hid (HEn.out.offC (x := .slice qn (kFull (i + 1)).length cn) HG.out)
          have HGz := Lib.hid (HG.out.put 0 (.slice qn (kFull (i + 1)).length cn))
          replace H3 := Lib.hid (H3.out.setCell (p := ⟨wn.heap.size, 0, none⟩) HGE.out (.slice qn (kFull (i + 1)).length cn))
          refine ors_step (by kernel_rfl) (fun K hK => ?_)
          go_wp2_with fail
          refine ⟨⟨HBF.out.trans (H3.out.mono HBF.out.size), HF.out.keep H3.out HF.out.lt⟩, ?_⟩
          try simp only [Act.put, List.setIfInBounds_toArray, List.set_cons_zero, List.set_cons_succ]
          refine ors_pure (v := ?_) (by kernel_rfl) ?_ ?_
          rotate_left
          · intro w' hv; clear hv; go_simp; try with_reducible rfl
          try simp only [Act.put, List.setIfInBounds_toArray, List.set_cons_zero, List.set_cons_succ]
          refine ors_nil ?_
          refine ⟨rfl, .agg #[.slice qf (kFull i).length cf], .string kNames, .int .i64 i, .int .i64 i, .int .i64 ((i : Int) + 1), .string (kNames.extract i (i + 1)), .tuple #[.agg #[.slice qn (kFull (i + 1)).length cn], .int .i64 0], .tuple #[.agg #[.slice qn (kFull (i + 1)).length cn], .int .i64 0], .agg #[.slice qn (kFull (i + 1)).length cn], .int .i64 0, wn.heap.size, qn, cn, ?_, HWR.out.trans (H3.out.mono HWR.out.size), HGz.out, HCn.out.1, HCn.out.2, by rw [size_set]; exact HSz.out, HEz.out⟩
          rfl
        · skip
          go_wp2_with fail
          have HG : Hid (Has (wd.alloc (.cells #[.slice none 0 0] 25)) wd.heap.size 25 [.slice none 0 0]) := Lib.hid (Has.made wd _ _)
          have HGE : Hid (wd.heap.size ≤ wd.heap.size) := Lib.hid H3.out.size
          replace H3 := Lib.hid (H3.out.alloc H3.out.size (.cells #[.slice none 0 0] 25))
          refine ⟨⟨HBF.out.trans (H3.out.mono HBF.out.size), HF.out.keep H3.out HF.out.lt⟩, ?_⟩
          generalize wd.alloc (.cells #[.slice none 0 0] 25) = wn at *
          try simp only [Act.put, List.setIfInBounds_toArray, List.set_cons_zero, List.set_cons_succ]
          refine ors_step (by kernel_rfl) (fun K hK => ?_)
          have H := Lib.hid (g_make (kFull i) hgi qf cf HCf.out.1 _ ((HSf.out.keep H3.out).more H3.out.size) (HEf.out.keep H3.out) HCf.out.2 (kNames.extract i (i + 1)) hsz)
          rw [hei, hnx] at H
          go_wp2_with fail
          refine H.out.mono ?_
          rintro e wo ⟨⟨v, rfl, ⟨qn, cn, rfl, hz1, hz2, hz3⟩, hz4⟩, hb⟩
          replace H3 := Lib.hid (H3.out.trans (hb.mono H3.out.size))
          replace HG := Lib.hid (HG.out.keep hb HG.out.lt)
          have HSn := Lib.hid hz3
          have HEn := Lib.hid hz4
          have HCn : Hid ((kFull (i + 1)).length ≤ cn ∧ (qn = none → cn = 0)) := Lib.hid ⟨hz1, hz2⟩
          refine hK _ _ ⟨⟨HBF.out.trans (H3.out.mono HBF.out.size), HF.out.keep H3.out HF.out.lt⟩, ?_⟩
          clear hK hb H hz1 hz2 hz3 hz4
          try simp only [Act.put, List.setIfInBounds_toArray, List.set_cons_zero, List.set_cons_succ]
          refine ors_pure (v := ?_) (by kernel_rfl) ?_ ?_
          rotate_left
          · intro w' hv; clear hv; go_simp; try with_reducible rfl
          try simp only [Act.put, List.setIfInBounds_toArray, List.set_cons_zero, List.set_cons_succ]
          refine ors_pure (v := ?_) (by kernel_rfl) ?_ ?_
          rotate_left
          · intro w' hv; clear hv; go_simp; try with_reducible rfl
          try simp only [Act.put, List.setIfInBounds_toArray, List.set_cons_zero, List.set_cons_succ]
          refine ors_pure (v := ?_) (by kernel_rfl) ?_ ?_
          rotate_left
          · intro w' hv; clear hv; go_simp; try with_reducible rfl
          try simp only [Act.put, List.setIfInBounds_toArray, List.set_cons_zero, List.set_cons_succ]
          have cg := HG.out.cellv (i := 0) (v := .slice none 0 0) rfl
          have fg := HG.out.free 0
          have HSz := Lib.hid (HSn.out.offC (x := .slice qn (kFull (i + 1)).length cn) HG.out)
          have HEz := Lib.hid (HEn.out.offC (x := .slice qn (kFull (i + 1)).length cn) HG.out)
          have HGz := Lib.hid (HG.out.put 0 (.slice qn (kFull (i + 1)).length cn))
          replace H3 := Lib.hid (H3.out.setCell (p := ⟨wd.heap.size, 0, none⟩) HGE.out (.slice qn (kFull (i + 1)).length cn))
          refine ors_step (by kernel_rfl) (fun K hK => ?_)
          go_wp2_with fail
          refine ⟨⟨HBF.out.trans (H3.out.mono HBF.out.size), HF.out.keep H3.out HF.out.lt⟩, ?_⟩
          try simp only [Act.put, List.setIfInBounds_toArray, List.set_cons_zero, List.set_cons_succ]
          refine ors_pure (v := ?_) (by kernel_rfl) ?_ ?_
          rotate_left
          · intro w' hv; clear hv; go_simp; try with_reducible rfl
          try simp only [Act.put, List.setIfInBounds_toArray, List.set_cons_zero, List.set_cons_succ]
          refine ors_nil ?_
          refine ⟨rfl, .agg #[.slice qf (kFull i).length cf], .string kNames, .int .i64 i, .int .i64 i, .int .i64 ((i : Int) + 1), .string (kNames.extract i (i + 1)), .tuple #[.agg #[.slice qn (kFull (i + 1)).length cn], .int .i64 0], .tuple #[.agg #[.slice qn (kFull (i + 1)).length cn], .int .i64 0], .agg #[.slice qn (kFull (i + 1)).length cn], .int .i64 0, wd.heap.size, qn, cn, ?_, HWR.out.trans (H3.out.mono HWR.out.size), HGz.out, HCn.out.1, HCn.out.2, by rw [size_set]; exact HSz.out, HEz.out⟩
          rfl
      rintro a' wa ⟨x0, x1, x2, x3, x4, x5, x6, x7, x8, x9, g, qn, cn, rfl, hb, hN, hn1, hn2, hn3, hn4⟩
      try simp only [Act.put, List.setIfInBounds_toArray, List.set_cons_zero, List.set_cons_succ]
      replace HBF := Lib.hid (HBF.out.trans (hb.mono HBF.out.size))
      replace HF := Lib.hid (HF.out.keep hb HF.out.lt)
      have cN := hN.cellv (i := 0) (v := .slice qn (kFull (i + 1)).length cn) rfl
      have cF := HF.out.cellv (i := 0) (v := .slice qf (kFull i).length cf) rfl
      have fF := HF.out.free 0
      have HFz := Lib.hid (HF.out.put 0 (.slice qn (kFull (i + 1)).length cn))
      have HSz := Lib.hid (hn3.offC (x := .slice qn (kFull (i + 1)).length cn) HF.out)
      have HEz := Lib.hid (hn4.offC (x := .slice qn (kFull (i + 1)).length cn) HF.out)
      have HBz := Lib.hid (HBF.out.setCell (p := ⟨BF, 0, none⟩) (by have := HSZF.out; show wF.heap.size ≤ BF; omega) (.slice qn (kFull (i + 1)).length cn))
      have HCz : Hid ((kFull (i + 1)).length ≤ cn ∧ (qn = none → cn = 0)) := Lib.hid ⟨hn1, hn2⟩
      clear hb hN hn1 hn2 hn3 hn4 HSf HEf HCf
      go_wp2_with fail
      go_roundw
      case rel => exact ⟨i + 1, qn, cn, by omega, by go_num, HBz.out, HFz.out, HCz.out.1, HCz.out.2, by rw [size_set]; exact HSz.out, HEz.out⟩
      case measure => simp [intOf]; omega
    · skip
      have hil : i = 38 := by omega
      subst hil
      have k0 : ¬ (38 : Int) < (38 : Int) := by omega
      have HWB : Hid (w.heap.size ≤ BF) := Lib.hid (by have := HSZF.out; have := HB.out.size; omega)
      have HFB : Hid (wF.heap.size ≤ BF) := Lib.hid (by have := HSZF.out; omega)
      clear HSZF HGW0 HFW0
      have cf0 := HF.out.cellv (i := 0) (v := .slice qf (kFull 38).length cf) rfl
      go_wp2_with fail
      have hg38 : goodP (kFull 38) = true := by have := List.all_eq_true.1 kfull_good 38 (List.mem_range.2 (by omega)); exact this
      have H := Lib.hid (g_make (kFull 38) hg38 qf cf HCf.out.1 _ HSf.out HEf.out HCf.out.2 kAb (by decide))
      rw [kF39e, kF39d] at H
      refine H.out.mono ?_
      rintro e wA1 ⟨⟨v, rfl, ⟨qn1, cn1, rfl, hz1, hz2, hz3⟩, hz4⟩, hb⟩
      replace HBF := Lib.hid (HBF.out.trans (hb.mono HBF.out.size))
      replace HF := Lib.hid (HF.out.keep hb HF.out.lt)
      have cf1 := HF.out.cellv (i := 0) (v := .slice qf (kFull 38).length cf) rfl
      have ff1 := HF.out.free 0
      replace HSf : Hid (Sees (wA1.setCell ⟨BF, 0, none⟩ (.slice qn1 kF39.length cn1)) (wA1.setCell ⟨BF, 0, none⟩ (.slice qn1 kF39.length cn1)).heap.size qn1 (rowC kF39)) := Lib.hid (by rw [size_set]; exact hz3.offC HF.out)
      replace HEf : Hid (Ents (wA1.setCell ⟨BF, 0, none⟩ (.slice qn1 kF39.length cn1)) kF39) := Lib.hid (hz4.offC HF.out)
      replace HCf : Hid (kF39.length ≤ cn1 ∧ (qn1 = none → cn1 = 0)) := Lib.hid ⟨hz1, hz2⟩
      replace HF : Hid (Has (wA1.setCell ⟨BF, 0, none⟩ (.slice qn1 kF39.length cn1)) BF 25 [.slice qn1 kF39.length cn1]) := Lib.hid (HF.out.put 0 _)
      replace HBF : Hid (Below wF.heap.size wF (wA1.setCell ⟨BF, 0, none⟩ (.slice qn1 kF39.length cn1))) := Lib.hid (HBF.out.setCell (p := ⟨BF, 0, none⟩) HFB.out _)
      have cf2 := HF.out.cellv (i := 0) (v := .slice qn1 kF39.length cn1) rfl
      clear hz1 hz2 hz3 hz4 hb H
      go_wp2_with fail
      clear cf0 cf1 ff1 cf2
      generalize wA1.setCell ⟨BF, 0, none⟩ (.slice qn1 kF39.length cn1) = wB1 at *
      have H := Lib.hid (g_make kF39 kF39g qn1 cn1 HCf.out.1 _ HSf.out HEf.out HCf.out.2 kAc (by decide))
      rw [kF40e, kF40d] at H
      refine H.out.mono ?_
      rintro e wA2 ⟨⟨v, rfl, ⟨qn2, cn2, rfl, hz1, hz2, hz3⟩, hz4⟩, hb⟩
      replace HBF := Lib.hid (HBF.out.trans (hb.mono HBF.out.size))
      replace HF := Lib.hid (HF.out.keep hb HF.out.lt)
      have cf1 := HF.out.cellv (i := 0) (v := .slice qn1 kF39.length cn1) rfl
      have ff1 := HF.out.free 0
      replace HSf : Hid (Sees (wA2.setCell ⟨BF, 0, none⟩ (.slice qn2 kF40.length cn2)) (wA2.setCell ⟨BF, 0, none⟩ (.slice qn2 kF40.length cn2)).heap.size qn2 (rowC kF40)) := Lib.hid (by rw [size_set]; exact hz3.offC HF.out)
      replace HEf : Hid (Ents (wA2.setCell ⟨BF, 0, none⟩ (.slice qn2 kF40.length cn2)) kF40) := Lib.hid (hz4.offC HF.out)
      replace HCf : Hid (kF40.length ≤ cn2 ∧ (qn2 = none → cn2 = 0)) := Lib.hid ⟨hz1, hz2⟩
      replace HF : Hid (Has (wA2.setCell ⟨BF, 0, none⟩ (.slice qn2 kF40.length cn2)) BF 25 [.slice qn2 kF40.length cn2]) := Lib.hid (HF.out.put 0 _)
      replace HBF : Hid (Below wF.heap.size wF (wA2.setCell ⟨BF, 0, none⟩ (.slice qn2 kF40.length cn2))) := Lib.hid (HBF.out.setCell (p := ⟨BF, 0, none⟩) HFB.out _)
      have cf2 := HF.out.cellv (i := 0) (v := .slice qn2 kF40.length cn2) rfl
      clear hz1 hz2 hz3 hz4 hb H
      go_wp2_with fail
      clear cf1 ff1 cf2
      generalize wA2.setCell ⟨BF, 0, none⟩ (.slice qn2 kF40.length cn2) = wB2 at *
      have H := Lib.hid (g_make kF40 kF40g qn2 cn2 HCf.out.1 _ HSf.out HEf.out HCf.out.2 kAd (by decide))
      rw [kF41e] at H
      refine H.out.mono ?_
      rintro e wC1 ⟨⟨v, rfl, ⟨qz, cz, rfl, hz1, hz2, hz3⟩, hz4⟩, hb⟩
      replace HBF := Lib.hid (HBF.out.trans (hb.mono HBF.out.size))
      replace HF := Lib.hid (HF.out.keep hb HF.out.lt)
      clear hb H hz1 hz2 hz3 hz4 HSf HEf HCf
      have hb := (Below.refl _ wC1).alloc (Nat.le_refl _) (.cells #[.slice qz (makeP kF40 kAd).1.length cz] 25)
      replace HBF := Lib.hid (HBF.out.trans (hb.mono HBF.out.size))
      replace HF := Lib.hid (HF.out.keep hb HF.out.lt)
      clear hb
      have hb := HBF.out
      replace HB := Lib.hid (HB.out.trans (hb.mono HB.out.size))
      replace HT := Lib.hid (HT.out.keep hb HT.out.lt)
      replace HST := Lib.hid ((HST.out.keep hb).more hb.size)
      replace HET := Lib.hid (HET.out.keep hb)
      replace HSx := Lib.hid ((HSx.out.keep hb).more hb.size)
      replace HX := Lib.hid (HX.out.keep hb HX.out.lt)
      replace Hu := Lib.hid (Hu.out.keep hb Hu.out.lt)
      replace HSo := Lib.hid ((HSo.out.keep hb).more hb.size)
      replace HEo := Lib.hid (HEo.out.keep hb)
      replace Ho := Lib.hid (Ho.out.keep hb Ho.out.lt)
      replace HSq := Lib.hid ((HSq.out.keep hb).more hb.size)
      replace HEq := Lib.hid (HEq.out.keep hb)
      replace Hq := Lib.hid (Hq.out.keep hb Hq.out.lt)
      clear hb HBF HFB HWB
      have ct := HT.out.cellv (i := 0) (v := .slice qt (kT vx vc).length ct) rfl
      go_wp2_with fail
      clear ct
      generalize wC1.alloc (.cells #[.slice qz (makeP kF40 kAd).1.length cz] 25) = wC2 at *
      have H := Lib.hid (g_make (kT vx vc) (kgood vx vc) qt ct HCT.out.1 _ HST.out HET.out HCT.out.2 kW (by decide))
      simp only [kw1] at H
      refine H.out.mono ?_
      rintro e wC3 ⟨⟨v, rfl, ⟨qw, cw, rfl, hz1, hz2, hz3⟩, hz4⟩, hb⟩
      replace HB := Lib.hid (HB.out.trans (hb.mono HB.out.size))
      replace HT := Lib.hid (HT.out.keep hb HT.out.lt)
      replace HST := Lib.hid ((HST.out.keep hb).more hb.size)
      replace HET := Lib.hid (HET.out.keep hb)
      replace HSx := Lib.hid ((HSx.out.keep hb).more hb.size)
      replace HX := Lib.hid (HX.out.keep hb HX.out.lt)
      replace Hu := Lib.hid (Hu.out.keep hb Hu.out.lt)
      replace HSo := Lib.hid ((HSo.out.keep hb).more hb.size)
      replace HEo := Lib.hid (HEo.out.keep hb)
      replace Ho := Lib.hid (Ho.out.keep hb Ho.out.lt)
      replace HSq := Lib.hid ((HSq.out.keep hb).more hb.size)
      replace HEq := Lib.hid (HEq.out.keep hb)
      replace Hq := Lib.hid (Hq.out.keep hb Hq.out.lt)
      replace HF := Lib.hid (HF.out.keep hb HF.out.lt)
      have HCw : Hid ((kW4 vx vc).length ≤ cw ∧ (qw = none → cw = 0)) := Lib.hid ⟨hz1, hz2⟩
      have HSw := Lib.hid hz3
      have HEw := Lib.hid hz4
      clear hz1 hz2 hz3 hz4 hb H
      obtain ⟨wC4, hA⟩ : ∃ wC4, wC4 = (wC3.alloc (.cells #[.slice qw (kW4 vx vc).length cw] 25)).alloc (.cells #[.int .u8 122] 5 (1, 2)) := ⟨_, rfl⟩
      have hcv := conv_new (wC3.alloc (.cells #[.slice qw (kW4 vx vc).length cw] 25)) #[.int .u8 122] 1 1
      rw [show (#[Value.int .u8 122] : Array Value).size = 1 from rfl, ← hA] at hcv
      simp only [World.size_alloc] at hcv
      have hb : Below wC3.heap.size wC3 wC4 := by rw [hA]; exact ((Below.refl _ _).alloc (Nat.le_refl _) _).alloc (by simp) _
      have HW : Hid (Has wC4 wC3.heap.size 25 [.slice qw (kW4 vx vc).length cw]) := Lib.hid (by rw [hA]; exact (Has.made wC3 _ _).alloc _)
      have hS2 : Sees wC4 wC4.heap.size (some ⟨wC3.heap.size + 1, 0, none⟩) ([122#8].map u8v) := by
        have h := (made_sees (wC3.alloc (.cells #[.slice qw (kW4 vx vc).length cw] 25)) [122#8] #[.int .u8 122] (1, 2) rfl)
        rw [hA]
        simp only [World.size_alloc] at h ⊢
        exact h
      
      replace HSw := Lib.hid ((HSw.out.keep hb).more hb.size)
      replace HEw := Lib.hid (HEw.out.keep hb)
      have HWB : Hid (Below wC3.heap.size wC3 wC4) := Lib.hid hb
      have cw0 := HW.out.cellv (i := 0) (v := .slice qw (kW4 vx vc).length cw) rfl
      have hcx : (wC3.alloc (.cells #[.slice qw (kW4 vx vc).length cw] 25)).cell? ⟨wC3.heap.size, 0, none⟩ = some (.slice qw (kW4 vx vc).length cw) := (Has.made wC3 _ _).cellv rfl
      have H := Lib.hid (g_put (kW4 vx vc) (kgood4 vx vc) qw cw HCw.out.1 wC4 HSw.out HEw.out HCw.out.2 kW1 (by decide) [122] (some ⟨wC3.heap.size + 1, 0, none⟩) 1 (fun h => by cases h) (by simp) hS2)
      simp only [kw2] at H
      clear hA hS2 hb
      go_wp2_with fail
      clear cw0 hcx hcv HSw HEw HCw
      refine H.out.mono ?_
      rintro e wC5 ⟨⟨v, vw, rfl, ⟨qk, ck, rfl, hz1, hz2, hz3⟩, hz4⟩, hb5⟩
      replace HW := Lib.hid (HW.out.keep hb5 HW.out.lt)
      have hb : Below wC3.heap.size wC3 (wC5.setCell ⟨wC3.heap.size, 0, none⟩ (.slice qk (kW5 vx vc vw).length ck)) := (HWB.out.trans (hb5.mono HWB.out.size)).setCell (p := ⟨wC3.heap.size, 0, none⟩) (Nat.le_refl _) _
      have cw0 := HW.out.cellv (i := 0) (v := .slice qw (kW4 vx vc).length cw) rfl
      have fw0 := HW.out.free 0
      have HCk : Hid ((kW5 vx vc vw).length ≤ ck ∧ (qk = none → ck = 0)) := Lib.hid ⟨hz1, hz2⟩
      have HSk : Hid (Sees (wC5.setCell ⟨wC3.heap.size, 0, none⟩ (.slice qk (kW5 vx vc vw).length ck)) (wC5.setCell ⟨wC3.heap.size, 0, none⟩ (.slice qk (kW5 vx vc vw).length ck)).heap.size qk (rowC (kW5 vx vc vw))) := Lib.hid (by rw [size_set]; exact hz3.offC HW.out)
      have HEk : Hid (Ents (wC5.setCell ⟨wC3.heap.size, 0, none⟩ (.slice qk (kW5 vx vc vw).length ck)) (kW5 vx vc vw)) := Lib.hid (hz4.offC HW.out)
      replace HW : Hid (Has (wC5.setCell ⟨wC3.heap.size, 0, none⟩ (.slice qk (kW5 vx vc vw).length ck)) wC3.heap.size 25 [.slice qk (kW5 vx vc vw).length ck]) := Lib.hid (HW.out.put 0 _)
      clear hz1 hz2 hz3 hz4 hb5 H HWB
      replace HB := Lib.hid (HB.out.trans (hb.mono HB.out.size))
      replace HT := Lib.hid (HT.out.keep hb HT.out.lt)
      replace HST := Lib.hid ((HST.out.keep hb).more hb.size)
      replace HET := Lib.hid (HET.out.keep hb)
      replace HSx := Lib.hid ((HSx.out.keep hb).more hb.size)
      replace HX := Lib.hid (HX.out.keep hb HX.out.lt)
      replace Hu := Lib.hid (Hu.out.keep hb Hu.out.lt)
      replace HSo := Lib.hid ((HSo.out.keep hb).more hb.size)
      replace HEo := Lib.hid (HEo.out.keep hb)
      replace Ho := Lib.hid (Ho.out.keep hb Ho.out.lt)
      replace HSq := Lib.hid ((HSq.out.keep hb).more hb.size)
      replace HEq := Lib.hid (HEq.out.keep hb)
      replace Hq := Lib.hid (Hq.out.keep hb Hq.out.lt)
      replace HF := Lib.hid (HF.out.keep hb HF.out.lt)
      clear hb
      go_wp2_with fail
      clear cw0 fw0
      generalize wC5.setCell ⟨wC3.heap.size, 0, none⟩ (.slice qk (kW5 vx vc vw).length ck) = wC6 at *
      generalize wC3.heap.size = BW at *
      have hF40 := HF.out
      rw [kF40l] at hF40
      replace HF := Lib.hid hF40
      clear hF40
      have hb := (Below.refl wC6.heap.size wC6).drew
      replace HB := Lib.hid (HB.out.trans (hb.mono HB.out.size))
      replace HT := Lib.hid (HT.out.keep hb HT.out.lt)
      replace HST := Lib.hid ((HST.out.keep hb).more hb.size)
      replace HET := Lib.hid (HET.out.keep hb)
      replace HSx := Lib.hid ((HSx.out.keep hb).more hb.size)
      replace HX := Lib.hid (HX.out.keep hb HX.out.lt)
      replace Hu := Lib.hid (Hu.out.keep hb Hu.out.lt)
      replace HSo := Lib.hid ((HSo.out.keep hb).more hb.size)
      replace HEo := Lib.hid (HEo.out.keep hb)
      replace Ho := Lib.hid (Ho.out.keep hb Ho.out.lt)
      replace HSq := Lib.hid ((HSq.out.keep hb).more hb.size)
      replace HEq := Lib.hid (HEq.out.keep hb)
      replace Hq := Lib.hid (Hq.out.keep hb Hq.out.lt)
      replace HF := Lib.hid (HF.out.keep hb HF.out.lt)
      replace HW := Lib.hid (HW.out.keep hb HW.out.lt)
      replace HSk := Lib.hid ((HSk.out.keep hb).more hb.size)
      replace HEk := Lib.hid (HEk.out.keep hb)
      clear hb
      try simp only [List.append_eq, List.cons_append, List.nil_append]
      refine wp_region_ot ordK37 _ chkK37_ok rfl (by kernel_rfl) (by kernel_rfl) ?_
      generalize wC6.drew = xA at *
      obtain ⟨qv, cv, hv9, _, _, hs9⟩ := HEo.out (fileE kC vo [120]) (by simp [kO])
      have hv9' : vo = .slice qv 1 cv := hv9
      subst hv9'
      have HSv : Hid (Sees xA xA.heap.size qv ([120#8].map u8v)) := Lib.hid hs9
      obtain ⟨ao, eao, _, hco⟩ := HSo.out.ent (i := 1) (by show 1 < 2; omega)
      subst eao
      have HCO : Hid (∀ w', Ext xA w' → w'.cell? ⟨ao.block, ao.off + 3 + 2, none⟩ = some (.slice qv 1 cv)) := Lib.hid (fun w' hw => (hco w' hw).2.2)
      have HRX : Hid (∀ w', Ext xA w' → (convert 30 9 (.slice qx 1 cx)).run Tryd.prog w' = .ok (.string ⟨#[120]⟩) w') := Lib.hid (fun w' hw => str_run [120#8] qx cx _ w' (HSx.out.keep hw))
      have HRV : Hid (∀ w', Ext xA w' → (convert 30 9 (.slice qv 1 cv)).run Tryd.prog w' = .ok (.string ⟨#[120]⟩) w') := Lib.hid (fun w' hw => str_run [120#8] qv cv _ w' (HSv.out.keep hw))
      clear hco hs9 hv9
      unfold ordK37 ordK0 ordK1 ordK2 ordK3 ordK4 ordK5 ordK6 ordK7
      simp only [List.cons_append, List.nil_append, pickOt, List.getElem?_cons_zero, List.getElem?_cons_succ]
      refine ot_pure (v := ?_) (by kernel_rfl) ?_ ?_
      rotate_left
      · intro w' hv; clear hv; go_simp; try with_reducible rfl
      try simp only [Act.put, List.setIfInBounds_toArray, List.set_cons_zero, List.set_cons_succ]
      refine ot_pure (v := ?_) (by kernel_rfl) ?_ ?_
      rotate_left
      · intro w' hv; clear hv; go_simp; try with_reducible rfl
      try simp only [Act.put, List.setIfInBounds_toArray, List.set_cons_zero, List.set_cons_succ]
      refine ot_pure (v := ?_) (by kernel_rfl) ?_ ?_
      rotate_left
      · intro w' hv; clear hv; go_simp; try with_reducible rfl
      try simp only [Act.put, List.setIfInBounds_toArray, List.set_cons_zero, List.set_cons_succ]
      refine ot_pure (v := ?_) (by kernel_rfl) ?_ ?_
      rotate_left
      · intro w' hv; clear hv; go_simp; try with_reducible rfl
      try simp only [Act.put, List.setIfInBounds_toArray, List.set_cons_zero, List.set_cons_succ]
      refine ot_pure (v := ?_) (by kernel_rfl) ?_ ?_
      rotate_left
      · intro w' hv; clear hv; go_simp; try with_reducible rfl
      try simp only [Act.put, List.setIfInBounds_toArray, List.set_cons_zero, List.set_cons_succ]
      refine ot_pure (v := ?_) (by kernel_rfl) ?_ ?_
      rotate_left
      · intro w' hv; clear hv; go_simp; try with_reducible rfl
      try simp only [Act.put, List.setIfInBounds_toArray, List.set_cons_zero, List.set_cons_succ]
      refine ot_pure (v := ?_) (by kernel_rfl) ?_ ?_
      rotate_left
      · intro w' hv; clear hv; go_simp; try with_reducible rfl
      try simp only [Act.put, List.setIfInBounds_toArray, List.set_cons_zero, List.set_cons_succ]
      refine ot_pure (v := ?_) (by kernel_rfl) ?_ ?_
      rotate_left
      · intro w' hv; clear hv; go_simp; try with_reducible rfl
      try simp only [Act.put, List.setIfInBounds_toArray, List.set_cons_zero, List.set_cons_succ]
      refine ot_pure (v := ?_) (by kernel_rfl) ?_ ?_
      rotate_left
      · intro w' hv; clear hv; go_simp; try with_reducible rfl
      try simp only [Act.put, List.setIfInBounds_toArray, List.set_cons_zero, List.set_cons_succ]
      refine ot_pure (v := ?_) (by kernel_rfl) ?_ ?_
      rotate_left
      · intro w' hv; clear hv; go_simp; try with_reducible rfl
      try simp only [Act.put, List.setIfInBounds_toArray, List.set_cons_zero, List.set_cons_succ]
      refine ot_pure (v := ?_) (by kernel_rfl) ?_ ?_
      rotate_left
      · intro w' hv; clear hv; go_simp; try with_reducible rfl
      try simp only [Act.put, List.setIfInBounds_toArray, List.set_cons_zero, List.set_cons_succ]
      refine ot_pure (v := ?_) (by kernel_rfl) ?_ ?_
      rotate_left
      · intro w' hv; clear hv; go_simp; try with_reducible rfl
      try simp only [Act.put, List.setIfInBounds_toArray, List.set_cons_zero, List.set_cons_succ]
      refine ot_pure (v := ?_) (by kernel_rfl) ?_ ?_
      rotate_left
      · intro w' hv; have cz9 := (HX.out.keep hv HX.out.lt).cellv (i := 2) (v := .slice qx 1 cx) rfl; clear hv; go_simp; try with_reducible rfl
      try simp only [Act.put, List.setIfInBounds_toArray, List.set_cons_zero, List.set_cons_succ]
      refine ot_pure (v := ?_) (by kernel_rfl) ?_ ?_
      rotate_left
      · intro w' hv; have cz9 := HRX.out w' hv; clear hv; go_simp; try with_reducible rfl
      try simp only [Act.put, List.setIfInBounds_toArray, List.set_cons_zero, List.set_cons_succ]
      refine ot_pure (v := ?_) (by kernel_rfl) ?_ ?_
      rotate_left
      · intro w' hv; clear hv; go_simp; try with_reducible rfl
      try simp only [Act.put, List.setIfInBounds_toArray, List.set_cons_zero, List.set_cons_succ]
      refine ot_pure (v := ?_) (by kernel_rfl) ?_ ?_
      rotate_left
      · intro w' hv; clear hv; go_simp; try with_reducible rfl
      try simp only [Act.put, List.setIfInBounds_toArray, List.set_cons_zero, List.set_cons_succ]
      refine ot_pure (v := ?_) (by kernel_rfl) ?_ ?_
      rotate_left
      · intro w' hv; clear hv; go_simp; try with_reducible rfl
      try simp only [Act.put, List.setIfInBounds_toArray, List.set_cons_zero, List.set_cons_succ]
      refine ot_pure (v := ?_) (by kernel_rfl) ?_ ?_
      rotate_left
      · intro w' hv; clear hv; go_simp; try with_reducible rfl
      try simp only [Act.put, List.setIfInBounds_toArray, List.set_cons_zero, List.set_cons_succ]
      refine ot_pure (v := ?_) (by kernel_rfl) ?_ ?_
      rotate_left
      · intro w' hv; clear hv; go_simp; try with_reducible rfl
      try simp only [Act.put, List.setIfInBounds_toArray, List.set_cons_zero, List.set_cons_succ]
      refine ot_pure (v := ?_) (by kernel_rfl) ?_ ?_
      rotate_left
      · intro w' hv; clear hv; go_simp; try with_reducible rfl
      try simp only [Act.put, List.setIfInBounds_toArray, List.set_cons_zero, List.set_cons_succ]
      refine ot_pure (v := ?_) (by kernel_rfl) ?_ ?_
      rotate_left
      · intro w' hv; clear hv; go_simp; try with_reducible rfl
      try simp only [Act.put, List.setIfInBounds_toArray, List.set_cons_zero, List.set_cons_succ]
      refine ot_pure (v := ?_) (by kernel_rfl) ?_ ?_
      rotate_left
      · intro w' hv; clear hv; go_simp; try with_reducible rfl
      try simp only [Act.put, List.setIfInBounds_toArray, List.set_cons_zero, List.set_cons_succ]
      refine ot_pure (v := ?_) (by kernel_rfl) ?_ ?_
      rotate_left
      · intro w' hv; clear hv; go_simp; try with_reducible rfl
      try simp only [Act.put, List.setIfInBounds_toArray, List.set_cons_zero, List.set_cons_succ]
      refine ot_pure (v := ?_) (by kernel_rfl) ?_ ?_
      rotate_left
      · intro w' hv; clear hv; go_simp; try with_reducible rfl
      try simp only [Act.put, List.setIfInBounds_toArray, List.set_cons_zero, List.set_cons_succ]
      refine ot_pure (v := ?_) (by kernel_rfl) ?_ ?_
      rotate_left
      · intro w' hv; clear hv; go_simp; try with_reducible rfl
      try simp only [Act.put, List.setIfInBounds_toArray, List.set_cons_zero, List.set_cons_succ]
      refine ot_pure (v := ?_) (by kernel_rfl) ?_ ?_
      rotate_left
      · intro w' hv; clear hv; go_simp; try with_reducible rfl
      try simp only [Act.put, List.setIfInBounds_toArray, List.set_cons_zero, List.set_cons_succ]
      refine ot_pure (v := ?_) (by kernel_rfl) ?_ ?_
      rotate_left
      · intro w' hv; clear hv; go_simp; try with_reducible rfl
      try simp only [Act.put, List.setIfInBounds_toArray, List.set_cons_zero, List.set_cons_succ]
      refine ot_pure (v := ?_) (by kernel_rfl) ?_ ?_
      rotate_left
      · intro w' hv; clear hv; go_simp; try with_reducible rfl
      try simp only [Act.put, List.setIfInBounds_toArray, List.set_cons_zero, List.set_cons_succ]
      refine ot_pure (v := ?_) (by kernel_rfl) ?_ ?_
      rotate_left
      · intro w' hv; clear hv; go_simp; try with_reducible rfl
      try simp only [Act.put, List.setIfInBounds_toArray, List.set_cons_zero, List.set_cons_succ]
      refine ot_pure (v := ?_) (by kernel_rfl) ?_ ?_
      rotate_left
      · intro w' hv; clear hv; go_simp; try with_reducible rfl
      try simp only [Act.put, List.setIfInBounds_toArray, List.set_cons_zero, List.set_cons_succ]
      refine ot_pure (v := ?_) (by kernel_rfl) ?_ ?_
      rotate_left
      · intro w' hv; clear hv; go_simp; try with_reducible rfl
      try simp only [Act.put, List.setIfInBounds_toArray, List.set_cons_zero, List.set_cons_succ]
      refine ot_pure (v := ?_) (by kernel_rfl) ?_ ?_
      rotate_left
      · intro w' hv; clear hv; go_simp; try with_reducible rfl
      try simp only [Act.put, List.setIfInBounds_toArray, List.set_cons_zero, List.set_cons_succ]
      refine ot_pure (v := ?_) (by kernel_rfl) ?_ ?_
      rotate_left
      · intro w' hv; clear hv; go_simp; try with_reducible rfl
      try simp only [Act.put, List.setIfInBounds_toArray, List.set_cons_zero, List.set_cons_succ]
      refine ot_pure (v := ?_) (by kernel_rfl) ?_ ?_
      rotate_left
      · intro w' hv; clear hv; go_simp; try with_reducible rfl
      try simp only [Act.put, List.setIfInBounds_toArray, List.set_cons_zero, List.set_cons_succ]
      refine ot_pure (v := ?_) (by kernel_rfl) ?_ ?_
      rotate_left
      · intro w' hv; clear hv; go_simp; try with_reducible rfl
      try simp only [Act.put, List.setIfInBounds_toArray, List.set_cons_zero, List.set_cons_succ]
      refine ot_pure (v := ?_) (by kernel_rfl) ?_ ?_
      rotate_left
      · intro w' hv; clear hv; go_simp; try with_reducible rfl
      try simp only [Act.put, List.setIfInBounds_toArray, List.set_cons_zero, List.set_cons_succ]
      refine ot_pure (v := ?_) (by kernel_rfl) ?_ ?_
      rotate_left
      · intro w' hv; clear hv; go_simp; try with_reducible rfl
      try simp only [Act.put, List.setIfInBounds_toArray, List.set_cons_zero, List.set_cons_succ]
      refine ot_pure (v := ?_) (by kernel_rfl) ?_ ?_
      rotate_left
      · intro w' hv; clear hv; go_simp; try with_reducible rfl
      try simp only [Act.put, List.setIfInBounds_toArray, List.set_cons_zero, List.set_cons_succ]
      refine ot_pure (v := ?_) (by kernel_rfl) ?_ ?_
      rotate_left
      · intro w' hv; clear hv; go_simp; try with_reducible rfl
      try simp only [Act.put, List.setIfInBounds_toArray, List.set_cons_zero, List.set_cons_succ]
      refine ot_pure (v := ?_) (by kernel_rfl) ?_ ?_
      rotate_left
      · intro w' hv; clear hv; go_simp; try with_reducible rfl
      try simp only [Act.put, List.setIfInBounds_toArray, List.set_cons_zero, List.set_cons_succ]
      refine ot_pure (v := ?_) (by kernel_rfl) ?_ ?_
      rotate_left
      · intro w' hv; clear hv; go_simp; try with_reducible rfl
      try simp only [Act.put, List.setIfInBounds_toArray, List.set_cons_zero, List.set_cons_succ]
      refine ot_pure (v := ?_) (by kernel_rfl) ?_ ?_
      rotate_left
      · intro w' hv; clear hv; go_simp; try with_reducible rfl
      try simp only [Act.put, List.setIfInBounds_toArray, List.set_cons_zero, List.set_cons_succ]
      refine ot_pure (v := ?_) (by kernel_rfl) ?_ ?_
      rotate_left
      · intro w' hv; clear hv; go_simp; try with_reducible rfl
      try simp only [Act.put, List.setIfInBounds_toArray, List.set_cons_zero, List.set_cons_succ]
      refine ot_pure (v := ?_) (by kernel_rfl) ?_ ?_
      rotate_left
      · intro w' hv; clear hv; go_simp; try with_reducible rfl
      try simp only [Act.put, List.setIfInBounds_toArray, List.set_cons_zero, List.set_cons_succ]
      refine ot_pure (v := ?_) (by kernel_rfl) ?_ ?_
      rotate_left
      · intro w' hv; clear hv; go_simp; try with_reducible rfl
      try simp only [Act.put, List.setIfInBounds_toArray, List.set_cons_zero, List.set_cons_succ]
      refine ot_pure (v := ?_) (by kernel_rfl) ?_ ?_
      rotate_left
      · intro w' hv; clear hv; go_simp; try with_reducible rfl
      try simp only [Act.put, List.setIfInBounds_toArray, List.set_cons_zero, List.set_cons_succ]
      refine ot_pure (v := ?_) (by kernel_rfl) ?_ ?_
      rotate_left
      · intro w' hv; clear hv; go_simp; try with_reducible rfl
      try simp only [Act.put, List.setIfInBounds_toArray, List.set_cons_zero, List.set_cons_succ]
      refine ot_pure (v := ?_) (by kernel_rfl) ?_ ?_
      rotate_left
      · intro w' hv; clear hv; go_simp; try with_reducible rfl
      try simp only [Act.put, List.setIfInBounds_toArray, List.set_cons_zero, List.set_cons_succ]
      refine ot_pure (v := ?_) (by kernel_rfl) ?_ ?_
      rotate_left
      · intro w' hv; clear hv; go_simp; try with_reducible rfl
      try simp only [Act.put, List.setIfInBounds_toArray, List.set_cons_zero, List.set_cons_succ]
      refine ot_pure (v := ?_) (by kernel_rfl) ?_ ?_
      rotate_left
      · intro w' hv; clear hv; go_simp; try with_reducible rfl
      try simp only [Act.put, List.setIfInBounds_toArray, List.set_cons_zero, List.set_cons_succ]
      refine ot_pure (v := ?_) (by kernel_rfl) ?_ ?_
      rotate_left
      · intro w' hv; clear hv; go_simp; try with_reducible rfl
      try simp only [Act.put, List.setIfInBounds_toArray, List.set_cons_zero, List.set_cons_succ]
      refine ot_pure (v := ?_) (by kernel_rfl) ?_ ?_
      rotate_left
      · intro w' hv; clear hv; go_simp; try with_reducible rfl
      try simp only [Act.put, List.setIfInBounds_toArray, List.set_cons_zero, List.set_cons_succ]
      refine ot_pure (v := ?_) (by kernel_rfl) ?_ ?_
      rotate_left
      · intro w' hv; clear hv; go_simp; try with_reducible rfl
      try simp only [Act.put, List.setIfInBounds_toArray, List.set_cons_zero, List.set_cons_succ]
      refine ot_pure (v := ?_) (by kernel_rfl) ?_ ?_
      rotate_left
      · intro w' hv; clear hv; go_simp; try with_reducible rfl
      try simp only [Act.put, List.setIfInBounds_toArray, List.set_cons_zero, List.set_cons_succ]
      refine ot_pure (v := ?_) (by kernel_rfl) ?_ ?_
      rotate_left
      · intro w' hv; have cz9 := (Hu.out.keep hv Hu.out.lt).cellv (i := 0) (v := .slice qu 2 cu) rfl; clear hv; go_simp; try with_reducible rfl
      try simp only [Act.put, List.setIfInBounds_toArray, List.set_cons_zero, List.set_cons_succ]
      refine ot_pure (v := ?_) (by kernel_rfl) ?_ ?_
      rotate_left
      · intro w' hv; clear hv; go_simp; try with_reducible rfl
      try simp only [Act.put, List.setIfInBounds_toArray, List.set_cons_zero, List.set_cons_succ]
      refine ot_pure (v := ?_) (by kernel_rfl) ?_ ?_
      rotate_left
      · intro w' hv; clear hv; go_simp; try with_reducible rfl
      try simp only [Act.put, List.setIfInBounds_toArray, List.set_cons_zero, List.set_cons_succ]
      refine ot_pure (v := ?_) (by kernel_rfl) ?_ ?_
      rotate_left
      · intro w' hv; clear hv; go_simp; try with_reducible rfl
      try simp only [Act.put, List.setIfInBounds_toArray, List.set_cons_zero, List.set_cons_succ]
      refine ot_pure (v := ?_) (by kernel_rfl) ?_ ?_
      rotate_left
      · intro w' hv; clear hv; go_simp; try with_reducible rfl
      try simp only [Act.put, List.setIfInBounds_toArray, List.set_cons_zero, List.set_cons_succ]
      refine ot_pure (v := ?_) (by kernel_rfl) ?_ ?_
      rotate_left
      · intro w' hv; clear hv; go_simp; try with_reducible rfl
      try simp only [Act.put, List.setIfInBounds_toArray, List.set_cons_zero, List.set_cons_succ]
      refine ot_pure (v := ?_) (by kernel_rfl) ?_ ?_
      rotate_left
      · intro w' hv; clear hv; go_simp; try with_reducible rfl
      try simp only [Act.put, List.setIfInBounds_toArray, List.set_cons_zero, List.set_cons_succ]
      refine ot_pure (v := ?_) (by kernel_rfl) ?_ ?_
      rotate_left
      · intro w' hv; clear hv; go_simp; try with_reducible rfl
      try simp only [Act.put, List.setIfInBounds_toArray, List.set_cons_zero, List.set_cons_succ]
      refine ot_pure (v := ?_) (by kernel_rfl) ?_ ?_
      rotate_left
      · intro w' hv; clear hv; go_simp; try with_reducible rfl
      try simp only [Act.put, List.setIfInBounds_toArray, List.set_cons_zero, List.set_cons_succ]
      refine ot_pure (v := ?_) (by kernel_rfl) ?_ ?_
      rotate_left
      · intro w' hv; clear hv; go_simp; try with_reducible rfl
      try simp only [Act.put, List.setIfInBounds_toArray, List.set_cons_zero, List.set_cons_succ]
      refine ot_pure (v := ?_) (by kernel_rfl) ?_ ?_
      rotate_left
      · intro w' hv; clear hv; go_simp; try with_reducible rfl
      try simp only [Act.put, List.setIfInBounds_toArray, List.set_cons_zero, List.set_cons_succ]
      refine ot_pure (v := ?_) (by kernel_rfl) ?_ ?_
      rotate_left
      · intro w' hv; clear hv; go_simp; try with_reducible rfl
      try simp only [Act.put, List.setIfInBounds_toArray, List.set_cons_zero, List.set_cons_succ]
      refine ot_pure (v := ?_) (by kernel_rfl) ?_ ?_
      rotate_left
      · intro w' hv; clear hv; go_simp; try with_reducible rfl
      try simp only [Act.put, List.setIfInBounds_toArray, List.set_cons_zero, List.set_cons_succ]
      refine ot_pure (v := ?_) (by kernel_rfl) ?_ ?_
      rotate_left
      · intro w' hv; clear hv; go_simp; try with_reducible rfl
      try simp only [Act.put, List.setIfInBounds_toArray, List.set_cons_zero, List.set_cons_succ]
      refine ot_pure (v := ?_) (by kernel_rfl) ?_ ?_
      rotate_left
      · intro w' hv; clear hv; go_simp; try with_reducible rfl
      try simp only [Act.put, List.setIfInBounds_toArray, List.set_cons_zero, List.set_cons_succ]
      refine ot_pure (v := ?_) (by kernel_rfl) ?_ ?_
      rotate_left
      · intro w' hv; clear hv; go_simp; try with_reducible rfl
      try simp only [Act.put, List.setIfInBounds_toArray, List.set_cons_zero, List.set_cons_succ]
      refine ot_pure (v := ?_) (by kernel_rfl) ?_ ?_
      rotate_left
      · intro w' hv; clear hv; go_simp; try with_reducible rfl
      try simp only [Act.put, List.setIfInBounds_toArray, List.set_cons_zero, List.set_cons_succ]
      refine ot_pure (v := ?_) (by kernel_rfl) ?_ ?_
      rotate_left
      · intro w' hv; clear hv; go_simp; try with_reducible rfl
      try simp only [Act.put, List.setIfInBounds_toArray, List.set_cons_zero, List.set_cons_succ]
      refine ot_pure (v := ?_) (by kernel_rfl) ?_ ?_
      rotate_left
      · intro w' hv; have cz9 := (Ho.out.keep hv Ho.out.lt).cellv (i := 0) (v := .slice (some ao) 2 co) rfl; clear hv; go_simp; try with_reducible rfl
      try simp only [Act.put, List.setIfInBounds_toArray, List.set_cons_zero, List.set_cons_succ]
      refine ot_pure (v := ?_) (by kernel_rfl) ?_ ?_
      rotate_left
      · intro w' hv; clear hv; go_simp; try with_reducible rfl
      try simp only [Act.put, List.setIfInBounds_toArray, List.set_cons_zero, List.set_cons_succ]
      refine ot_pure (v := ?_) (by kernel_rfl) ?_ ?_
      rotate_left
      · intro w' hv; clear hv; go_simp; try with_reducible rfl
      try simp only [Act.put, List.setIfInBounds_toArray, List.set_cons_zero, List.set_cons_succ]
      refine ot_pure (v := ?_) (by kernel_rfl) ?_ ?_
      rotate_left
      · intro w' hv; clear hv; go_simp; try with_reducible rfl
      try simp only [Act.put, List.setIfInBounds_toArray, List.set_cons_zero, List.set_cons_succ]
      refine ot_pure (v := ?_) (by kernel_rfl) ?_ ?_
      rotate_left
      · intro w' hv; clear hv; go_simp; try with_reducible rfl
      try simp only [Act.put, List.setIfInBounds_toArray, List.set_cons_zero, List.set_cons_succ]
      refine ot_pure (v := ?_) (by kernel_rfl) ?_ ?_
      rotate_left
      · intro w' hv; clear hv; go_simp; try with_reducible rfl
      try simp only [Act.put, List.setIfInBounds_toArray, List.set_cons_zero, List.set_cons_succ]
      refine ot_pure (v := ?_) (by kernel_rfl) ?_ ?_
      rotate_left
      · intro w' hv; have cz9 := (Ho.out.keep hv Ho.out.lt).cellv (i := 0) (v := .slice (some ao) 2 co) rfl; clear hv; go_simp; try with_reducible rfl
      try simp only [Act.put, List.setIfInBounds_toArray, List.set_cons_zero, List.set_cons_succ]
      refine ot_pure (v := ?_) (by kernel_rfl) ?_ ?_
      rotate_left
      · intro w' hv; clear hv; go_simp; try with_reducible rfl
      try simp only [Act.put, List.setIfInBounds_toArray, List.set_cons_zero, List.set_cons_succ]
      refine ot_pure (v := ?_) (by kernel_rfl) ?_ ?_
      rotate_left
      · intro w' hv; clear hv; go_simp; try with_reducible rfl
      try simp only [Act.put, List.setIfInBounds_toArray, List.set_cons_zero, List.set_cons_succ]
      refine ot_pure (v := ?_) (by kernel_rfl) ?_ ?_
      rotate_left
      · intro w' hv; have cz9 := HCO.out w' hv; have cz8 : w'.cell? ⟨ao.block, ao.off + 5, none⟩ = some (.slice qv 1 cv) := cz9; clear hv; go_simp; try with_reducible rfl
      try simp only [Act.put, List.setIfInBounds_toArray, List.set_cons_zero, List.set_cons_succ]
      refine ot_pure (v := ?_) (by kernel_rfl) ?_ ?_
      rotate_left
      · intro w' hv; have cz9 := HRV.out w' hv; clear hv; go_simp; try with_reducible rfl
      try simp only [Act.put, List.setIfInBounds_toArray, List.set_cons_zero, List.set_cons_succ]
      refine ot_pure (v := ?_) (by kernel_rfl) ?_ ?_
      rotate_left
      · intro w' hv; clear hv; go_simp; try with_reducible rfl
      try simp only [Act.put, List.setIfInBounds_toArray, List.set_cons_zero, List.set_cons_succ]
      refine ot_pure (v := ?_) (by kernel_rfl) ?_ ?_
      rotate_left
      · intro w' hv; clear hv; go_simp; try with_reducible rfl
      try simp only [Act.put, List.setIfInBounds_toArray, List.set_cons_zero, List.set_cons_succ]
      refine ot_pure (v := ?_) (by kernel_rfl) ?_ ?_
      rotate_left
      · intro w' hv; clear hv; go_simp; try with_reducible rfl
      try simp only [Act.put, List.setIfInBounds_toArray, List.set_cons_zero, List.set_cons_succ]
      refine ot_pure (v := ?_) (by kernel_rfl) ?_ ?_
      rotate_left
      · intro w' hv; clear hv; go_simp; try with_reducible rfl
      try simp only [Act.put, List.setIfInBounds_toArray, List.set_cons_zero, List.set_cons_succ]
      refine ot_pure (v := ?_) (by kernel_rfl) ?_ ?_
      rotate_left
      · intro w' hv; clear hv; go_simp; try with_reducible rfl
      try simp only [Act.put, List.setIfInBounds_toArray, List.set_cons_zero, List.set_cons_succ]
      refine ot_pure (v := ?_) (by kernel_rfl) ?_ ?_
      rotate_left
      · intro w' hv; clear hv; go_simp; try with_reducible rfl
      try simp only [Act.put, List.setIfInBounds_toArray, List.set_cons_zero, List.set_cons_succ]
      refine ot_pure (v := ?_) (by kernel_rfl) ?_ ?_
      rotate_left
      · intro w' hv; clear hv; go_simp; try with_reducible rfl
      try simp only [Act.put, List.setIfInBounds_toArray, List.set_cons_zero, List.set_cons_succ]
      refine ot_pure (v := ?_) (by kernel_rfl) ?_ ?_
      rotate_left
      · intro w' hv; have cz9 := (Hq.out.keep hv Hq.out.lt).cellv (i := 0) (v := .slice qq (kT vx vc).length cq) rfl; clear hv; go_simp; try with_reducible rfl
      try simp only [Act.put, List.setIfInBounds_toArray, List.set_cons_zero, List.set_cons_succ]
      refine ot_pure (v := ?_) (by kernel_rfl) ?_ ?_
      rotate_left
      · intro w' hv; have cz9 := (HT.out.keep hv HT.out.lt).cellv (i := 0) (v := .slice qt (kT vx vc).length ct) rfl; clear hv; go_simp; try with_reducible rfl
      try simp only [Act.put, List.setIfInBounds_toArray, List.set_cons_zero, List.set_cons_succ]
      clear HX Hu Ho HSx HSo HEo
      clear HCO HRX HRV HSv
      refine ot_step (by kernel_rfl) (fun K hK => ?_)
      have H := g_same (kT vx vc) (kgood vx vc) qq cq HCq.out.1 _ HSq.out HEq.out (kT vx vc) (kgood vx vc) qt ct HCT.out.1 HST.out HET.out
      rw [ksame] at H
      go_wp2_with fail
      refine H.mono ?_
      rintro e xB ⟨rfl, hb⟩
      clear H
      have HX9 := Lib.hid hb
      replace HB := Lib.hid (HB.out.trans (hb.mono HB.out.size))
      replace HT := Lib.hid (HT.out.keep hb HT.out.lt)
      replace HST := Lib.hid ((HST.out.keep hb).more hb.size)
      replace HET := Lib.hid (HET.out.keep hb)
      replace HSq := Lib.hid ((HSq.out.keep hb).more hb.size)
      replace HEq := Lib.hid (HEq.out.keep hb)
      replace Hq := Lib.hid (Hq.out.keep hb Hq.out.lt)
      replace HF := Lib.hid (HF.out.keep hb HF.out.lt)
      replace HW := Lib.hid (HW.out.keep hb HW.out.lt)
      replace HSk := Lib.hid ((HSk.out.keep hb).more hb.size)
      replace HEk := Lib.hid (HEk.out.keep hb)
      clear hb
      go_wp2_with fail
      refine ⟨HX9.out, ?_⟩
      try clear hK
      clear HX9
      try simp only [Act.put, List.setIfInBounds_toArray, List.set_cons_zero, List.set_cons_succ]
      clear Hq HSq HEq
      refine ot_pure (v := ?_) (by kernel_rfl) ?_ ?_
      rotate_left
      · intro w' hv; clear hv; go_simp; try with_reducible rfl
      try simp only [Act.put, List.setIfInBounds_toArray, List.set_cons_zero, List.set_cons_succ]
      refine ot_pure (v := ?_) (by kernel_rfl) ?_ ?_
      rotate_left
      · intro w' hv; clear hv; go_simp; try with_reducible rfl
      try simp only [Act.put, List.setIfInBounds_toArray, List.set_cons_zero, List.set_cons_succ]
      refine ot_pure (v := ?_) (by kernel_rfl) ?_ ?_
      rotate_left
      · intro w' hv; clear hv; go_simp; try with_reducible rfl
      try simp only [Act.put, List.setIfInBounds_toArray, List.set_cons_zero, List.set_cons_succ]
      refine ot_pure (v := ?_) (by kernel_rfl) ?_ ?_
      rotate_left
      · intro w' hv; clear hv; go_simp; try with_reducible rfl
      try simp only [Act.put, List.setIfInBounds_toArray, List.set_cons_zero, List.set_cons_succ]
      refine ot_pure (v := ?_) (by kernel_rfl) ?_ ?_
      rotate_left
      · intro w' hv; clear hv; go_simp; try with_reducible rfl
      try simp only [Act.put, List.setIfInBounds_toArray, List.set_cons_zero, List.set_cons_succ]
      refine ot_pure (v := ?_) (by kernel_rfl) ?_ ?_
      rotate_left
      · intro w' hv; clear hv; go_simp; try with_reducible rfl
      try simp only [Act.put, List.setIfInBounds_toArray, List.set_cons_zero, List.set_cons_succ]
      refine ot_pure (v := ?_) (by kernel_rfl) ?_ ?_
      rotate_left
      · intro w' hv; clear hv; go_simp; try with_reducible rfl
      try simp only [Act.put, List.setIfInBounds_toArray, List.set_cons_zero, List.set_cons_succ]
      refine ot_pure (v := ?_) (by kernel_rfl) ?_ ?_
      rotate_left
      · intro w' hv; have cz9 := (HF.out.keep hv HF.out.lt).cellv (i := 0) (v := .slice qn2 40 cn2) rfl; clear hv; go_simp; try with_reducible rfl
      try simp only [Act.put, List.setIfInBounds_toArray, List.set_cons_zero, List.set_cons_succ]
      refine ot_pure (v := ?_) (by kernel_rfl) ?_ ?_
      rotate_left
      · intro w' hv; clear hv; go_simp; try with_reducible rfl
      try simp only [Act.put, List.setIfInBounds_toArray, List.set_cons_zero, List.set_cons_succ]
      refine ot_pure (v := ?_) (by kernel_rfl) ?_ ?_
      rotate_left
      · intro w' hv; clear hv; go_simp; try with_reducible rfl
      try simp only [Act.put, List.setIfInBounds_toArray, List.set_cons_zero, List.set_cons_succ]
      refine ot_pure (v := ?_) (by kernel_rfl) ?_ ?_
      rotate_left
      · intro w' hv; clear hv; go_simp; try with_reducible rfl
      try simp only [Act.put, List.setIfInBounds_toArray, List.set_cons_zero, List.set_cons_succ]
      refine ot_pure (v := ?_) (by kernel_rfl) ?_ ?_
      rotate_left
      · intro w' hv; clear hv; go_simp; try with_reducible rfl
      try simp only [Act.put, List.setIfInBounds_toArray, List.set_cons_zero, List.set_cons_succ]
      refine ot_pure (v := ?_) (by kernel_rfl) ?_ ?_
      rotate_left
      · intro w' hv; clear hv; go_simp; try with_reducible rfl
      try simp only [Act.put, List.setIfInBounds_toArray, List.set_cons_zero, List.set_cons_succ]
      refine ot_pure (v := ?_) (by kernel_rfl) ?_ ?_
      rotate_left
      · intro w' hv; clear hv; go_simp; try with_reducible rfl
      try simp only [Act.put, List.setIfInBounds_toArray, List.set_cons_zero, List.set_cons_succ]
      refine ot_pure (v := ?_) (by kernel_rfl) ?_ ?_
      rotate_left
      · intro w' hv; clear hv; go_simp; try with_reducible rfl
      try simp only [Act.put, List.setIfInBounds_toArray, List.set_cons_zero, List.set_cons_succ]
      refine ot_pure (v := ?_) (by kernel_rfl) ?_ ?_
      rotate_left
      · intro w' hv; clear hv; go_simp; try with_reducible rfl
      try simp only [Act.put, List.setIfInBounds_toArray, List.set_cons_zero, List.set_cons_succ]
      refine ot_pure (v := ?_) (by kernel_rfl) ?_ ?_
      rotate_left
      · intro w' hv; clear hv; go_simp; try with_reducible rfl
      try simp only [Act.put, List.setIfInBounds_toArray, List.set_cons_zero, List.set_cons_succ]
      refine ot_pure (v := ?_) (by kernel_rfl) ?_ ?_
      rotate_left
      · intro w' hv; have cz9 := (HW.out.keep hv HW.out.lt).cellv (i := 0) (v := .slice qk 5 ck) rfl; clear hv; go_simp; try with_reducible rfl
      try simp only [Act.put, List.setIfInBounds_toArray, List.set_cons_zero, List.set_cons_succ]
      refine ot_pure (v := ?_) (by kernel_rfl) ?_ ?_
      rotate_left
      · intro w' hv; clear hv; go_simp; try with_reducible rfl
      try simp only [Act.put, List.setIfInBounds_toArray, List.set_cons_zero, List.set_cons_succ]
      refine ot_pure (v := ?_) (by kernel_rfl) ?_ ?_
      rotate_left
      · intro w' hv; clear hv; go_simp; try with_reducible rfl
      try simp only [Act.put, List.setIfInBounds_toArray, List.set_cons_zero, List.set_cons_succ]
      refine ot_pure (v := ?_) (by kernel_rfl) ?_ ?_
      rotate_left
      · intro w' hv; clear hv; go_simp; try with_reducible rfl
      try simp only [Act.put, List.setIfInBounds_toArray, List.set_cons_zero, List.set_cons_succ]
      refine ot_pure (v := ?_) (by kernel_rfl) ?_ ?_
      rotate_left
      · intro w' hv; clear hv; go_simp; try with_reducible rfl
      try simp only [Act.put, List.setIfInBounds_toArray, List.set_cons_zero, List.set_cons_succ]
      refine ot_pure (v := ?_) (by kernel_rfl) ?_ ?_
      rotate_left
      · intro w' hv; have cz9 := (HW.out.keep hv HW.out.lt).cellv (i := 0) (v := .slice qk (kW5 vx vc vw).length ck) rfl; clear hv; go_simp; try with_reducible rfl
      try simp only [Act.put, List.setIfInBounds_toArray, List.set_cons_zero, List.set_cons_succ]
      refine ot_pure (v := ?_) (by kernel_rfl) ?_ ?_
      rotate_left
      · intro w' hv; have cz9 := (HT.out.keep hv HT.out.lt).cellv (i := 0) (v := .slice qt (kT vx vc).length ct) rfl; clear hv; go_simp; try with_reducible rfl
      try simp only [Act.put, List.setIfInBounds_toArray, List.set_cons_zero, List.set_cons_succ]
      refine ot_step (by kernel_rfl) (fun K hK => ?_)
      have H := g_clean (kW5 vx vc vw) (kgood5 vx vc vw) qk ck HCk.out.1 _ HSk.out HEk.out HCk.out.2
      rw [kw3] at H
      go_wp2_with fail
      refine H.mono ?_
      rintro e xC ⟨⟨v, rfl, ⟨qy, cy, rfl, hy1, hy2, hy3⟩⟩, hb⟩
      clear H
      have HX9 := Lib.hid hb
      replace HB := Lib.hid (HB.out.trans (hb.mono HB.out.size))
      replace HT := Lib.hid (HT.out.keep hb HT.out.lt)
      replace HST := Lib.hid ((HST.out.keep hb).more hb.size)
      replace HET := Lib.hid (HET.out.keep hb)
      replace HF := Lib.hid (HF.out.keep hb HF.out.lt)
      replace HW := Lib.hid (HW.out.keep hb HW.out.lt)
      replace HSk := Lib.hid ((HSk.out.keep hb).more hb.size)
      replace HEk := Lib.hid (HEk.out.keep hb)
      clear hb
      go_wp2_with fail
      refine ⟨HX9.out, ?_⟩
      try clear hK
      clear HX9
      try simp only [Act.put, List.setIfInBounds_toArray, List.set_cons_zero, List.set_cons_succ]
      have HSy := Lib.hid hy3
      clear hy2 hy3
      refine ot_step (by kernel_rfl) (fun K hK => ?_)
      have H := g_same (kT vx vc) (kgood vx vc) qy cy hy1 _ HSy.out HET.out (kT vx vc) (kgood vx vc) qt ct HCT.out.1 HST.out HET.out
      rw [ksame] at H
      go_wp2_with fail
      refine H.mono ?_
      rintro e xD ⟨rfl, hb⟩
      clear H
      have HX9 := Lib.hid hb
      replace HB := Lib.hid (HB.out.trans (hb.mono HB.out.size))
      replace HT := Lib.hid (HT.out.keep hb HT.out.lt)
      replace HST := Lib.hid ((HST.out.keep hb).more hb.size)
      replace HET := Lib.hid (HET.out.keep hb)
      replace HF := Lib.hid (HF.out.keep hb HF.out.lt)
      replace HW := Lib.hid (HW.out.keep hb HW.out.lt)
      replace HSk := Lib.hid ((HSk.out.keep hb).more hb.size)
      replace HEk := Lib.hid (HEk.out.keep hb)
      clear hb
      go_wp2_with fail
      refine ⟨HX9.out, ?_⟩
      try clear hK
      clear HX9
      try simp only [Act.put, List.setIfInBounds_toArray, List.set_cons_zero, List.set_cons_succ]
      clear HSy hy1
      clear HF HW HSk HEk
      refine ot_pure (v := ?_) (by kernel_rfl) ?_ ?_
      rotate_left
      · intro w' hv; clear hv; go_simp; try with_reducible rfl
      try simp only [Act.put, List.setIfInBounds_toArray, List.set_cons_zero, List.set_cons_succ]
      refine ot_pure (v := ?_) (by kernel_rfl) ?_ ?_
      rotate_left
      · intro w' hv; clear hv; go_simp; try with_reducible rfl
      try simp only [Act.put, List.setIfInBounds_toArray, List.set_cons_zero, List.set_cons_succ]
      refine ot_pure (v := ?_) (by kernel_rfl) ?_ ?_
      rotate_left
      · intro w' hv; have cz9 := (HT.out.keep hv HT.out.lt).cellv (i := 0) (v := .slice qt (kT vx vc).length ct) rfl; clear hv; go_simp; try with_reducible rfl
      try simp only [Act.put, List.setIfInBounds_toArray, List.set_cons_zero, List.set_cons_succ]
      have HKI := Lib.hid (g_kids (kT vx vc) (kgood vx vc) qt ct HCT.out.1)
      refine ot_two (fun u t w' => Ts w' u [[97], [99]] ∧ (∃ g', t = .slice (some ⟨g', 0, none⟩) 2 2 ∧ Sees w' w'.heap.size (some ⟨g', 0, none⟩) (List.map encStr [[97], [99]])) ∧ Below xD.heap.size xD w') (by kernel_rfl) (by kernel_rfl) (fun v => by kernel_rfl) (fun v => by kernel_rfl)
        (fun u w' => Ts w' u [[97], [99]] ∧ Below xD.heap.size xD w') (fun t w' => t = .slice (some ⟨xD.heap.size, 0, none⟩) 2 2 ∧ w' = xD.alloc (.cells #[.string ⟨#[97]⟩, .string ⟨#[99]⟩] 9)) ?_ ?_ ?_ ?_ (fun v u => rfl) ?_
      · intro K hK
        go_wp2_with fail
        refine (HKI.out xD HST.out HET.out (⟨#[]⟩ : ByteArray)).mono ?_
        rintro e w2 ⟨⟨u, rfl, hn⟩, hb⟩
        rw [show (⟨#[]⟩ : ByteArray).data.toList = [] from rfl, kk1] at hn
        go_wp2_with fail
        repeat' (first | exact hb | exact hn | apply And.intro)
      · rintro u w2 ⟨hn, hb⟩ K hK
        have hx := (Below.refl _ w2).alloc (Nat.le_refl _) (.cells #[.string ⟨#[97]⟩, .string ⟨#[99]⟩] 9)
        have hs : Sees (w2.alloc (.cells #[.string ⟨#[97]⟩, .string ⟨#[99]⟩] 9)) (w2.alloc (.cells #[.string ⟨#[97]⟩, .string ⟨#[99]⟩] 9)).heap.size (some ⟨w2.heap.size, 0, none⟩) (List.map encStr [[97], [99]]) := has_sees (Has.made' w2 9 _ _ rfl)
        have hn2 := hn.keep hx
        have hb2 := hb.trans (hx.mono hb.size)
        go_wp2_with fail
        repeat' (first | exact hx | exact hn2 | exact hs | exact hb2 | exact ⟨_, rfl, hs⟩ | apply And.intro)
      · intro K hK
        have hx := (Below.refl _ xD).alloc (Nat.le_refl _) (.cells #[.string ⟨#[97]⟩, .string ⟨#[99]⟩] 9)
        go_wp2_with fail
        repeat' (first | exact hx | apply And.intro)
      · rintro t w2 ⟨rfl, rfl⟩ K hK
        have hx := (Below.refl _ xD).alloc (Nat.le_refl _) (.cells #[.string ⟨#[97]⟩, .string ⟨#[99]⟩] 9)
        have hs : Sees (xD.alloc (.cells #[.string ⟨#[97]⟩, .string ⟨#[99]⟩] 9)) (xD.alloc (.cells #[.string ⟨#[97]⟩, .string ⟨#[99]⟩] 9)).heap.size (some ⟨xD.heap.size, 0, none⟩) (List.map encStr [[97], [99]]) := has_sees (Has.made' xD 9 _ _ rfl)
        have hst2 := (HST.out.keep hx).more hx.size
        have het2 := HET.out.keep hx
        go_wp2_with fail
        refine (HKI.out _ hst2 het2 (⟨#[]⟩ : ByteArray)).mono ?_
        rintro e w3 ⟨⟨u, rfl, hn⟩, hb⟩
        rw [show (⟨#[]⟩ : ByteArray).data.toList = [] from rfl, kk1] at hn
        have hs3 := (hs.keep hb).more hb.size
        have hb3 := hx.trans (hb.mono hx.size)
        go_wp2_with fail
        repeat' (first | exact hb | exact hn | exact hs3 | exact hb3 | exact ⟨_, rfl, hs3⟩ | apply And.intro)
      rintro u t xE ⟨⟨qxE, cxE, rfl, _, hsn⟩, ⟨gxE, rfl, htn⟩, hb⟩
      have HN9 := Lib.hid hsn
      have HT9 := Lib.hid htn
      replace HB := Lib.hid (HB.out.trans (hb.mono HB.out.size))
      replace HT := Lib.hid (HT.out.keep hb HT.out.lt)
      replace HST := Lib.hid ((HST.out.keep hb).more hb.size)
      replace HET := Lib.hid (HET.out.keep hb)
      clear hsn htn hb HKI
      try simp only [Act.put, List.setIfInBounds_toArray, List.set_cons_zero, List.set_cons_succ]
      refine ot_step (by kernel_rfl) (fun K hK => ?_)
      have H := texts8_any [[97], [99]] qxE (some ⟨gxE, 0, none⟩) cxE 2 (by decide) xE HN9.out HT9.out
      go_wp2_with fail
      refine H.mono ?_
      rintro e xF ⟨rfl, hb⟩
      clear H
      have HX9 := Lib.hid hb
      replace HB := Lib.hid (HB.out.trans (hb.mono HB.out.size))
      replace HT := Lib.hid (HT.out.keep hb HT.out.lt)
      replace HST := Lib.hid ((HST.out.keep hb).more hb.size)
      replace HET := Lib.hid (HET.out.keep hb)
      clear hb
      clear HN9 HT9
      go_wp2_with fail
      refine ⟨HX9.out, ?_⟩
      try clear hK
      clear HX9
      try simp only [Act.put, List.setIfInBounds_toArray, List.set_cons_zero, List.set_cons_succ]
      refine ot_pure (v := ?_) (by kernel_rfl) ?_ ?_
      rotate_left
      · intro w' hv; clear hv; go_simp; try with_reducible rfl
      try simp only [Act.put, List.setIfInBounds_toArray, List.set_cons_zero, List.set_cons_succ]
      refine ot_pure (v := ?_) (by kernel_rfl) ?_ ?_
      rotate_left
      · intro w' hv; clear hv; go_simp; try with_reducible rfl
      try simp only [Act.put, List.setIfInBounds_toArray, List.set_cons_zero, List.set_cons_succ]
      refine ot_pure (v := ?_) (by kernel_rfl) ?_ ?_
      rotate_left
      · intro w' hv; have cz9 := (HT.out.keep hv HT.out.lt).cellv (i := 0) (v := .slice qt (kT vx vc).length ct) rfl; clear hv; go_simp; try with_reducible rfl
      try simp only [Act.put, List.setIfInBounds_toArray, List.set_cons_zero, List.set_cons_succ]
      have HKI := Lib.hid (g_kids (kT vx vc) (kgood vx vc) qt ct HCT.out.1)
      refine ot_two (fun u t w' => Ts w' u [[97, 47, 98]] ∧ (∃ g', t = .slice (some ⟨g', 0, none⟩) 1 1 ∧ Sees w' w'.heap.size (some ⟨g', 0, none⟩) (List.map encStr [[97, 47, 98]])) ∧ Below xF.heap.size xF w') (by kernel_rfl) (by kernel_rfl) (fun v => by kernel_rfl) (fun v => by kernel_rfl)
        (fun u w' => Ts w' u [[97, 47, 98]] ∧ Below xF.heap.size xF w') (fun t w' => t = .slice (some ⟨xF.heap.size, 0, none⟩) 1 1 ∧ w' = xF.alloc (.cells #[.string ⟨#[97, 47, 98]⟩] 9)) ?_ ?_ ?_ ?_ (fun v u => rfl) ?_
      · intro K hK
        go_wp2_with fail
        refine (HKI.out xF HST.out HET.out (⟨#[97]⟩ : ByteArray)).mono ?_
        rintro e w2 ⟨⟨u, rfl, hn⟩, hb⟩
        rw [show (⟨#[97]⟩ : ByteArray).data.toList = [97] from rfl, kk2] at hn
        go_wp2_with fail
        repeat' (first | exact hb | exact hn | apply And.intro)
      · rintro u w2 ⟨hn, hb⟩ K hK
        have hx := (Below.refl _ w2).alloc (Nat.le_refl _) (.cells #[.string ⟨#[97, 47, 98]⟩] 9)
        have hs : Sees (w2.alloc (.cells #[.string ⟨#[97, 47, 98]⟩] 9)) (w2.alloc (.cells #[.string ⟨#[97, 47, 98]⟩] 9)).heap.size (some ⟨w2.heap.size, 0, none⟩) (List.map encStr [[97, 47, 98]]) := has_sees (Has.made' w2 9 _ _ rfl)
        have hn2 := hn.keep hx
        have hb2 := hb.trans (hx.mono hb.size)
        go_wp2_with fail
        repeat' (first | exact hx | exact hn2 | exact hs | exact hb2 | exact ⟨_, rfl, hs⟩ | apply And.intro)
      · intro K hK
        have hx := (Below.refl _ xF).alloc (Nat.le_refl _) (.cells #[.string ⟨#[97, 47, 98]⟩] 9)
        go_wp2_with fail
        repeat' (first | exact hx | apply And.intro)
      · rintro t w2 ⟨rfl, rfl⟩ K hK
        have hx := (Below.refl _ xF).alloc (Nat.le_refl _) (.cells #[.string ⟨#[97, 47, 98]⟩] 9)
        have hs : Sees (xF.alloc (.cells #[.string ⟨#[97, 47, 98]⟩] 9)) (xF.alloc (.cells #[.string ⟨#[97, 47, 98]⟩] 9)).heap.size (some ⟨xF.heap.size, 0, none⟩) (List.map encStr [[97, 47, 98]]) := has_sees (Has.made' xF 9 _ _ rfl)
        have hst2 := (HST.out.keep hx).more hx.size
        have het2 := HET.out.keep hx
        go_wp2_with fail
        refine (HKI.out _ hst2 het2 (⟨#[97]⟩ : ByteArray)).mono ?_
        rintro e w3 ⟨⟨u, rfl, hn⟩, hb⟩
        rw [show (⟨#[97]⟩ : ByteArray).data.toList = [97] from rfl, kk2] at hn
        have hs3 := (hs.keep hb).more hb.size
        have hb3 := hx.trans (hb.mono hx.size)
        go_wp2_with fail
        repeat' (first | exact hb | exact hn | exact hs3 | exact hb3 | exact ⟨_, rfl, hs3⟩ | apply And.intro)
      rintro u t xG ⟨⟨qxG, cxG, rfl, _, hsn⟩, ⟨gxG, rfl, htn⟩, hb⟩
      have HN9 := Lib.hid hsn
      have HT9 := Lib.hid htn
      replace HB := Lib.hid (HB.out.trans (hb.mono HB.out.size))
      replace HT := Lib.hid (HT.out.keep hb HT.out.lt)
      replace HST := Lib.hid ((HST.out.keep hb).more hb.size)
      replace HET := Lib.hid (HET.out.keep hb)
      clear hsn htn hb HKI
      try simp only [Act.put, List.setIfInBounds_toArray, List.set_cons_zero, List.set_cons_succ]
      refine ot_step (by kernel_rfl) (fun K hK => ?_)
      have H := texts8_any [[97, 47, 98]] qxG (some ⟨gxG, 0, none⟩) cxG 1 (by decide) xG HN9.out HT9.out
      go_wp2_with fail
      refine H.mono ?_
      rintro e xH ⟨rfl, hb⟩
      clear H
      have HX9 := Lib.hid hb
      replace HB := Lib.hid (HB.out.trans (hb.mono HB.out.size))
      replace HT := Lib.hid (HT.out.keep hb HT.out.lt)
      replace HST := Lib.hid ((HST.out.keep hb).more hb.size)
      replace HET := Lib.hid (HET.out.keep hb)
      clear hb
      clear HN9 HT9
      go_wp2_with fail
      refine ⟨HX9.out, ?_⟩
      try clear hK
      clear HX9
      try simp only [Act.put, List.setIfInBounds_toArray, List.set_cons_zero, List.set_cons_succ]
      refine ot_pure (v := ?_) (by kernel_rfl) ?_ ?_
      rotate_left
      · intro w' hv; clear hv; go_simp; try with_reducible rfl
      try simp only [Act.put, List.setIfInBounds_toArray, List.set_cons_zero, List.set_cons_succ]
      refine ot_pure (v := ?_) (by kernel_rfl) ?_ ?_
      rotate_left
      · intro w' hv; clear hv; go_simp; try with_reducible rfl
      try simp only [Act.put, List.setIfInBounds_toArray, List.set_cons_zero, List.set_cons_succ]
      refine ot_pure (v := ?_) (by kernel_rfl) ?_ ?_
      rotate_left
      · intro w' hv; have cz9 := (HT.out.keep hv HT.out.lt).cellv (i := 0) (v := .slice qt (kT vx vc).length ct) rfl; clear hv; go_simp; try with_reducible rfl
      try simp only [Act.put, List.setIfInBounds_toArray, List.set_cons_zero, List.set_cons_succ]
      refine ot_step (by kernel_rfl) (fun K hK => ?_)
      have H := g_bytes (kT vx vc) (kgood vx vc) qt ct HCT.out.1 _ HST.out HET.out
      rw [kby, show ((1 : Nat) : Int) = 1 from rfl] at H
      go_wp2_with fail
      refine H.mono ?_
      rintro e xI ⟨rfl, hb⟩
      clear H
      have HX9 := Lib.hid hb
      replace HB := Lib.hid (HB.out.trans (hb.mono HB.out.size))
      replace HT := Lib.hid (HT.out.keep hb HT.out.lt)
      replace HST := Lib.hid ((HST.out.keep hb).more hb.size)
      replace HET := Lib.hid (HET.out.keep hb)
      clear hb
      go_wp2_with fail
      refine ⟨HX9.out, ?_⟩
      try clear hK
      clear HX9
      try simp only [Act.put, List.setIfInBounds_toArray, List.set_cons_zero, List.set_cons_succ]
      refine ot_pure (v := ?_) (by kernel_rfl) ?_ ?_
      rotate_left
      · intro w' hv; clear hv; go_simp; try with_reducible rfl
      try simp only [Act.put, List.setIfInBounds_toArray, List.set_cons_zero, List.set_cons_succ]
      refine ot_pure (v := ?_) (by kernel_rfl) ?_ ?_
      rotate_left
      · intro w' hv; clear hv; go_simp; try with_reducible rfl
      try simp only [Act.put, List.setIfInBounds_toArray, List.set_cons_zero, List.set_cons_succ]
      refine ot_pure (v := ?_) (by kernel_rfl) ?_ ?_
      rotate_left
      · intro w' hv; clear hv; go_simp; try with_reducible rfl
      try simp only [Act.put, List.setIfInBounds_toArray, List.set_cons_zero, List.set_cons_succ]
      refine ot_pure (v := ?_) (by kernel_rfl) ?_ ?_
      rotate_left
      · intro w' hv; have cz9 := (HT.out.keep hv HT.out.lt).cellv (i := 0) (v := .slice qt (kT vx vc).length ct) rfl; clear hv; go_simp; try with_reducible rfl
      try simp only [Act.put, List.setIfInBounds_toArray, List.set_cons_zero, List.set_cons_succ]
      refine ot_step (by kernel_rfl) (fun K hK => ?_)
      have H := g_kids (kT vx vc) (kgood vx vc) qt ct HCT.out.1 _ HST.out HET.out (⟨#[122, 122]⟩ : ByteArray)
      rw [show (⟨#[122, 122]⟩ : ByteArray).data.toList = [122, 122] from rfl, kk3] at H
      go_wp2_with fail
      refine H.mono ?_
      rintro e xJ ⟨⟨v, rfl, ⟨qz9, cz9, rfl, _, _⟩⟩, hb⟩
      clear H
      have HX9 := Lib.hid hb
      replace HB := Lib.hid (HB.out.trans (hb.mono HB.out.size))
      replace HT := Lib.hid (HT.out.keep hb HT.out.lt)
      replace HST := Lib.hid ((HST.out.keep hb).more hb.size)
      replace HET := Lib.hid (HET.out.keep hb)
      clear hb
      go_wp2_with fail
      refine ⟨HX9.out, ?_⟩
      try clear hK
      clear HX9
      try simp only [Act.put, List.setIfInBounds_toArray, List.set_cons_zero, List.set_cons_succ]
      refine ot_pure (v := ?_) (by kernel_rfl) ?_ ?_
      rotate_left
      · intro w' hv; clear hv; go_simp; try with_reducible rfl
      try simp only [Act.put, List.setIfInBounds_toArray, List.set_cons_zero, List.set_cons_succ]
      refine ot_pure (v := ?_) (by kernel_rfl) ?_ ?_
      rotate_left
      · intro w' hv; clear hv; go_simp; try with_reducible rfl
      try simp only [Act.put, List.setIfInBounds_toArray, List.set_cons_zero, List.set_cons_succ]
      refine ot_pure (v := ?_) (by kernel_rfl) ?_ ?_
      rotate_left
      · intro w' hv; clear hv; go_simp; try with_reducible rfl
      try simp only [Act.put, List.setIfInBounds_toArray, List.set_cons_zero, List.set_cons_succ]
      refine ot_pure (v := ?_) (by kernel_rfl) ?_ ?_
      rotate_left
      · intro w' hv; clear hv; go_simp; try with_reducible rfl
      try simp only [Act.put, List.setIfInBounds_toArray, List.set_cons_zero]
      refine ot_nil ?_
      go_wp2_with fail
      go_ret
      exact ⟨rfl, HB.out⟩
end Go.Proofs.YtefamkckoikeoaaDoor
namespace Go.Proofs.YtefamkckoikeoaaDoor
open Go.ChangeShapes Go.WideShapes Go.ChangeAt Go.RowKit Go.ChangeMaps
set_option maxRecDepth 100000 in
theorem known8_lifted (os : Os) (started : os.Started) (H : Type) (enc : TypeId × Value → H) :
    ReturnsInHanded {} Tryd.checked os 3 .any (fun w args => (Rows.treeKnownSpec.pre enc Tryd.prog Tryd.f3 [] false w args ∧ laidMetH Tryd.prog laidVars w) ∧ sizedMet enc Tryd.prog Tryd.f3 (OpenSpec.ofChange Rows.treeKnownSpec) false w args)
      (Rows.treeKnownSpec.post enc Tryd.prog Tryd.f3 false true false false) := by
  refine returnsInHanded_of_change_and (C := Tryd.checked) (X := fun w _ => laidMetH Tryd.prog laidVars w) (fun _ _ _ hh h => h.of_heap hh) own started (by kernel_rfl) Tryd.func3
    (ChangeSpec.witness_shaped (enc := enc) (C := Tryd.checked) (os := os) (X := fun w _ => laidMetH Tryd.prog laidVars w) false (World.laidAll Tryd.prog os laidVars) #[] 8 (World.laidAll_os _ _ _) (World.shaped_of_ZipB (by kernel_rfl) (by kernel_rfl)) (by kernel_rfl) (by kernel_rfl) (by kernel_rfl) (laid_met os _)) ?_
  intro W base args ds gs before hval0 hW _ hsz0 hL _
  have hval : ∀ (j : Nat) t v, Tryd.f3.params[j]? = some t → args[j]? = some v → Value.okWide Tryd.prog W .any base t v := hval0
  have hW' := hW
  obtain ⟨p, q, hA0, hV, rfl, hfz, hnd⟩ := hW
  have hA : DataW.TrodAll enc Tryd.prog W 0 (fun _ => true) true Tryd.f3.params.toList args.toList ds p := hA0
  have hsz : (DataW.weightsEach Tryd.prog (Tryd.f3.params.toList ++ Rows.treeKnownSpec.plain.varTypes Tryd.prog) (ds ++ gs)).all (· ≤ reachBytes) = true := hsz0
  rw [Tryd.params3] at hA hval hsz
  obtain ⟨h1, rfl, rfl⟩ := trodAll_nil hA
  obtain rfl : args = #[] := by cases args; simp_all
  obtain ⟨rfl, rfl⟩ := trodVars_none hV
  clear hA0 hval0
  refine (known8_any W).mono fun e W' ⟨he, bel⟩ => ?_
  subst he
  exact ⟨_, rfl, _, _, _, [], _, [], hW', trodAll_mk1 (shut_bool Tryd.underlying4 _), trodAll_mk0, rfl, bel.frame _, fun h => by cases h⟩
theorem known8_row : Rows.TreeKnownSaid :=
  OpenClaim.holds_of_wide 3 Tryd.f3 rfl rfl rfl rfl rfl rfl rfl ⟨rfl, rfl, rfl, rfl, rfl⟩ rfl rfl rfl rfl rfl (by kernel_rfl) Tryd.func3 (by kernel_rfl)
    (of_decide_eq_true (by kernel_rfl)) (by unfold Func.isWrapper; first | (rw [if_pos (by decide +kernel)]; kernel_rfl) | (rw [if_neg (by decide +kernel)]; exact ⟨rfl, rfl⟩))
    (fun os started H enc _ => known8_lifted os started H enc)
theorem treeKnown_holds : Rows.TreeKnownCardSaid :=
  Claim7.holds_tied_plain_at .later [] [.data, .pinned] true Rows.treeKnownCard.stood.harness Rows.treeKnownCard.stood.looks
    known8_row (fun _ h => by cases h) (by kernel_rfl) (fun _ h => by cases h) treeKnown_row_tie rfl ⟨rfl, rfl⟩ (by kernel_rfl) rfl
    (fun f fn hf hfn => by
      obtain rfl : f = 3 := Option.some.inj ((show Tryd.prog.funcNamed "tallyman/tallymanlaw8.TreeKnown" = some 3 by kernel_rfl).symm.trans hf) |>.symm
      obtain rfl : fn = Tryd.f3 := (Option.some.inj (Tryd.func3.symm.trans hfn)).symm
      exact ⟨by kernel_rfl, fun j t ht => by
        rw [Tryd.params3] at ht
        simp at ht⟩)
    (by kernel_rfl)
#print axioms treeKnown_holds
end Go.Proofs.YtefamkckoikeoaaDoor
