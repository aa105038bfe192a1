/- The law PathSays, walked: the program's answers are the document's own. Conditions: two texts, and texts, of at most 2^20 bytes, at most 2^20 of them. -/
import Derived.Test.YtflgncagoiigfaaDoorRsort
import Derived.Test.YtflgncagoiigfaaDoorRcalls
import Derived.Test.YtflgncagoiigfaaDoorSorts7
namespace Go.Proofs.YtflgncagoiigfaaDoor
open Go.RowKit
set_option maxHeartbeats 8000000 in
set_option maxRecDepth 100000 in
theorem says_any (p n : ByteArray) (L : List Tx) (q : Option Addr) (c : Nat) (hp : p.size ≤ 1048576) (hn : n.size ≤ 1048576) (hl : L.length ≤ 1048576) (ht : ∀ t ∈ L, t.length ≤ 1048576) (w : World) (hs : Sees w w.heap.size q (L.map encStr)) :
    Calls Tryd.prog 4 #[.string p, .string n, .slice q L.length c] w fun e w' => e = .returned (.bool true) ∧ Below w.heap.size w w' := by
  have HA := Lib.hid (fun w1 => awake_any w1)
  have HS := Lib.hid hs
  have HT := Lib.hid ht
  clear hs ht
  by_cases h1 : 200 < p.size
  · have k1 : (200 : Int) < (p.size : Int) := by omega
    clear h1
    go_enter Tryd.func4, Tryd.ntmps4
    go_wp2_with fail
    refine (HA.out _).mono ?_
    rintro e w1 ⟨rfl, hb⟩
    have HB := Lib.hid hb
    clear hb
    go_wp2_with fail
    go_ret
    exact ⟨rfl, HB.out⟩
  by_cases h2 : 200 < n.size
  · have k1 : (200 : Int) < (n.size : Int) := by omega
    have m1 : ¬ (200 : Int) < (p.size : Int) := by omega
    clear h2
    go_enter Tryd.func4, Tryd.ntmps4
    go_wp2_with fail
    refine (HA.out _).mono ?_
    rintro e w1 ⟨rfl, hb⟩
    have HB := Lib.hid hb
    clear hb
    go_wp2_with fail
    go_ret
    exact ⟨rfl, HB.out⟩
  by_cases h3 : 60 < L.length
  · have k1 : (60 : Int) < (L.length : Int) := by omega
    have m1 : ¬ (200 : Int) < (p.size : Int) := by omega
    have m2 : ¬ (200 : Int) < (n.size : Int) := by omega
    clear h3
    go_enter Tryd.func4, Tryd.ntmps4
    go_wp2_with fail
    refine (HA.out _).mono ?_
    rintro e w1 ⟨rfl, hb⟩
    have HB := Lib.hid hb
    clear hb
    go_wp2_with fail
    go_ret
    exact ⟨rfl, HB.out⟩
  have m1 : ¬ (200 : Int) < (p.size : Int) := by omega
  have m2 : ¬ (200 : Int) < (n.size : Int) := by omega
  have m3 : ¬ (60 : Int) < (L.length : Int) := by omega
  have H9 := Lib.hid (fun w1 => up_any p (by omega) w1)
  have H19 := Lib.hid (fun w1 => rup_any p (by omega) w1)
  have H14 := Lib.hid (fun w1 => join_any p n (by omega) (by omega) w1)
  have H20 := Lib.hid (fun w1 => rjoin_any p n (by omega) (by omega) w1)
  have H10 := Lib.hid (fun w1 => good_any p (by omega) w1)
  have H21 := Lib.hid (fun w1 => rgood_any p (by omega) w1)
  have H11 := Lib.hid (fun w1 => base_any p (by omega) w1)
  have H22 := Lib.hid (fun w1 => rbase_any p (by omega) w1)
  have H12 := Lib.hid (fun w1 => depth_any p (by omega) w1)
  have H23 := Lib.hid (fun w1 => rdepth_any p (by omega) w1)
  have H13 := Lib.hid (fun w1 => under_any p n (by omega) w1)
  have H24 := Lib.hid (fun w1 => runder_any p n (by omega) (by omega) w1)
  have H16 := Lib.hid (fun w1 => inside_any p (by omega) w1)
  have H25 := Lib.hid (fun w1 => rinside_any p (by omega) w1)
  have H18 := Lib.hid (fun w1 => cmpB_any p n (by omega) (by omega) w1)
  have H26 := Lib.hid (fun w1 => rcmp_any p n (by omega) (by omega) w1)
  generalize okPath p.data.toList = G at *
  generalize (⟨(upV p.data.toList).toArray⟩ : ByteArray) = U at *
  generalize (⟨(joinV p.data.toList n.data.toList).toArray⟩ : ByteArray) = J at *
  generalize joinOk p.data.toList n.data.toList = I at *
  generalize (⟨(baseV p.data.toList).toArray⟩ : ByteArray) = B at *
  generalize depthV p.data.toList = D at *
  generalize underL p.data.toList n.data.toList = V at *
  generalize insideL p.data.toList = W at *
  generalize cmpL p.data.toList n.data.toList = C at *
  clear h1 h2
  go_enter Tryd.func4, Tryd.ntmps4
  go_wp2_with fail
  refine (HA.out _).mono ?_
  rintro e w1 ⟨rfl, hb⟩
  have HB := Lib.hid hb
  clear hb
  go_wp2_with fail
  refine (H9.out _).mono ?_
  rintro e w2 ⟨rfl, hb⟩
  replace HB := Lib.hid (HB.out.trans (hb.mono HB.out.size))
  clear hb
  go_wp2_with fail
  refine (H19.out _).mono ?_
  rintro e w3 ⟨rfl, hb⟩
  replace HB := Lib.hid (HB.out.trans (hb.mono HB.out.size))
  clear hb
  go_wp2_with fail
  refine (H14.out _).mono ?_
  rintro e w4 ⟨rfl, hb⟩
  replace HB := Lib.hid (HB.out.trans (hb.mono HB.out.size))
  clear hb
  go_wp2_with fail
  refine (H20.out _).mono ?_
  rintro e w5 ⟨rfl, hb⟩
  replace HB := Lib.hid (HB.out.trans (hb.mono HB.out.size))
  clear hb
  go_wp2_with fail
  refine (H10.out _).mono ?_
  rintro e w6 ⟨rfl, hb⟩
  replace HB := Lib.hid (HB.out.trans (hb.mono HB.out.size))
  clear hb
  go_wp2_with fail
  refine (H21.out _).mono ?_
  rintro e w7 ⟨rfl, hb⟩
  replace HB := Lib.hid (HB.out.trans (hb.mono HB.out.size))
  clear hb
  go_wp2_with fail
  refine (H11.out _).mono ?_
  rintro e w8 ⟨rfl, hb⟩
  replace HB := Lib.hid (HB.out.trans (hb.mono HB.out.size))
  clear hb
  go_wp2_with fail
  refine (H22.out _).mono ?_
  rintro e w9 ⟨rfl, hb⟩
  replace HB := Lib.hid (HB.out.trans (hb.mono HB.out.size))
  clear hb
  go_wp2_with fail
  refine (H12.out _).mono ?_
  rintro e w10 ⟨rfl, hb⟩
  replace HB := Lib.hid (HB.out.trans (hb.mono HB.out.size))
  clear hb
  go_wp2_with fail
  refine (H23.out _).mono ?_
  rintro e w11 ⟨rfl, hb⟩
  replace HB := Lib.hid (HB.out.trans (hb.mono HB.out.size))
  clear hb
  go_wp2_with fail
  refine (H13.out _).mono ?_
  rintro e w12 ⟨rfl, hb⟩
  replace HB := Lib.hid (HB.out.trans (hb.mono HB.out.size))
  clear hb
  go_wp2_with fail
  refine (H24.out _).mono ?_
  rintro e w13 ⟨rfl, hb⟩
  replace HB := Lib.hid (HB.out.trans (hb.mono HB.out.size))
  clear hb
  go_wp2_with fail
  refine (H16.out _).mono ?_
  rintro e w14 ⟨rfl, hb⟩
  replace HB := Lib.hid (HB.out.trans (hb.mono HB.out.size))
  clear hb
  go_wp2_with fail
  refine (H25.out _).mono ?_
  rintro e w15 ⟨rfl, hb⟩
  replace HB := Lib.hid (HB.out.trans (hb.mono HB.out.size))
  clear hb
  go_wp2_with fail
  refine (H18.out _).mono ?_
  rintro e w16 ⟨rfl, hb⟩
  replace HB := Lib.hid (HB.out.trans (hb.mono HB.out.size))
  clear hb
  go_wp2_with fail
  refine (H26.out _).mono ?_
  rintro e w17 ⟨rfl, hb⟩
  replace HB := Lib.hid (HB.out.trans (hb.mono HB.out.size))
  clear hb
  go_wp2_with fail
  refine (sort_any L q c (by omega) (fun t h => by have := HT.out t h; omega) _ ((HS.out.keep HB.out).more HB.out.size)).mono ?_
  rintro e w18 ⟨⟨v, R, rfl, hr1, hrl, q1, c1, rfl, hc1, hsee1⟩, hb⟩
  replace HB := Lib.hid (HB.out.trans (hb.mono HB.out.size))
  have HR1 := Lib.hid hr1
  have HSEE1 := Lib.hid hsee1
  clear hb hr1 hsee1 hc1
  go_wp2_with fail
  refine (rsort_any L q c hl HT.out _ ((HS.out.keep HB.out).more HB.out.size)).mono ?_
  rintro e w19 ⟨⟨v, R2, rfl, hr2, hrl2, q2, c2, rfl, hc2, hsee2⟩, hb⟩
  obtain rfl : R = R2 := srt_unique HR1.out hr2
  replace HB := Lib.hid (HB.out.trans (hb.mono HB.out.size))
  replace HSEE1 := Lib.hid ((HSEE1.out.keep hb).more hb.size)
  have HSEE2 := Lib.hid hsee2
  clear hb hr2 hsee2 hc2 hrl2
  go_wp2_with fail
  refine (texts_same R (by omega) q1 q2 c1 c2 _ HSEE1.out HSEE2.out).mono ?_
  rintro e w20 ⟨rfl, hb⟩
  replace HB := Lib.hid (HB.out.trans (hb.mono HB.out.size))
  clear hb
  go_wp2_with fail
  go_ret
  exact ⟨rfl, HB.out⟩
end Go.Proofs.YtflgncagoiigfaaDoor
