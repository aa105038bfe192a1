/- The law PathKnown, walked: what chapter 7 says of what may not be, of order. A closed statement. -/
import Derived.Test.YtflgncagoiigfaaDoorSorts7
namespace Go.Proofs.YtflgncagoiigfaaDoor
open Go.RowKit
def badL : List Tx := [[], [47], [97, 47], [47, 97], [97, 47, 47, 98], [46], [46, 46], [97, 47, 46, 46], [65], [97, 32, 98], [97, 98, 99, 100, 101, 102, 103, 104, 105, 106, 107, 108, 109, 110, 111, 112, 113], [97, 47, 98, 47, 99, 47, 100, 47, 101], [97, 0]]
def inL : List Tx := [[98], [97, 47, 98], [97, 46, 98], [97], [88], [97, 47, 98], [97, 45, 98]]
def exL : List Tx := [[97], [97, 47, 98], [97, 45, 98], [97, 46, 98], [98]]
theorem bad_facts : ∀ x ∈ badL, okPath x = false ∧ underL [97, 47, 98] x = false ∧ x.length ≤ 100 := by decide
theorem ex_srt : Srt inL exL := by
  refine ⟨by unfold exL; simp [Asc]; decide, fun x => ⟨fun h => ?_, fun ⟨h1, h2⟩ => ?_⟩⟩
  · have hall : ∀ y ∈ exL, y ∈ inL ∧ okPath y = true := by decide
    exact hall x h
  · have hall : ∀ y ∈ inL, okPath y = true → y ∈ exL := by decide
    exact hall x h1 h2
set_option maxHeartbeats 8000000 in
set_option maxRecDepth 100000 in
theorem known_any (w : World) : Calls Tryd.prog 3 #[] w fun e w' => e = .returned (.bool true) ∧ Below w.heap.size w w' := by
  have HA := Lib.hid (fun w1 => awake_any w1)
  have H1 : Hid (∀ w1, Calls Tryd.prog 9 #[.string ⟨#[97]⟩] w1 fun e w' => e = .returned (.tuple #[.string ⟨#[]⟩, .bool true]) ∧ Below w1.heap.size w1 w') := Lib.hid fun w1 => by
    have h := up_any ⟨#[97]⟩ (by decide) w1
    have e0 : upV [97] = [] := by decide
    have e1 : okPath [97] = true := by decide
    simp only [e0, e1] at h
    exact h
  have H2 : Hid (∀ w1, Calls Tryd.prog 14 #[.string ⟨#[]⟩, .string ⟨#[97]⟩] w1 fun e w' => e = .returned (.tuple #[.string ⟨#[97]⟩, .bool true]) ∧ Below w1.heap.size w1 w') := Lib.hid fun w1 => by
    have h := join_any ⟨#[]⟩ ⟨#[97]⟩ (by decide) (by decide) w1
    have e0 : joinV [] [97] = [97] := by decide
    have e1 : joinOk [] [97] = true := by decide
    simp only [e0, e1] at h
    exact h
  have H3 : Hid (∀ w1, Calls Tryd.prog 14 #[.string ⟨#[97, 47, 98]⟩, .string ⟨#[99]⟩] w1 fun e w' => e = .returned (.tuple #[.string ⟨#[97, 47, 98, 47, 99]⟩, .bool true]) ∧ Below w1.heap.size w1 w') := Lib.hid fun w1 => by
    have h := join_any ⟨#[97, 47, 98]⟩ ⟨#[99]⟩ (by decide) (by decide) w1
    have e0 : joinV [97, 47, 98] [99] = [97, 47, 98, 47, 99] := by decide
    have e1 : joinOk [97, 47, 98] [99] = true := by decide
    simp only [e0, e1] at h
    exact h
  have H4 : Hid (∀ w1, Calls Tryd.prog 14 #[.string ⟨#[97]⟩, .string ⟨#[98, 47, 99]⟩] w1 fun e w' => e = .returned (.tuple #[.string ⟨#[]⟩, .bool false]) ∧ Below w1.heap.size w1 w') := Lib.hid fun w1 => by
    have h := join_any ⟨#[97]⟩ ⟨#[98, 47, 99]⟩ (by decide) (by decide) w1
    have e0 : joinV [97] [98, 47, 99] = [] := by decide
    have e1 : joinOk [97] [98, 47, 99] = false := by decide
    simp only [e0, e1] at h
    exact h
  have H5 : Hid (∀ w1, Calls Tryd.prog 14 #[.string ⟨#[97]⟩, .string ⟨#[]⟩] w1 fun e w' => e = .returned (.tuple #[.string ⟨#[]⟩, .bool false]) ∧ Below w1.heap.size w1 w') := Lib.hid fun w1 => by
    have h := join_any ⟨#[97]⟩ ⟨#[]⟩ (by decide) (by decide) w1
    have e0 : joinV [97] [] = [] := by decide
    have e1 : joinOk [97] [] = false := by decide
    simp only [e0, e1] at h
    exact h
  have H6 : Hid (∀ w1, Calls Tryd.prog 14 #[.string ⟨#[97, 47, 98, 47, 99, 47, 100]⟩, .string ⟨#[101]⟩] w1 fun e w' => e = .returned (.tuple #[.string ⟨#[]⟩, .bool false]) ∧ Below w1.heap.size w1 w') := Lib.hid fun w1 => by
    have h := join_any ⟨#[97, 47, 98, 47, 99, 47, 100]⟩ ⟨#[101]⟩ (by decide) (by decide) w1
    have e0 : joinV [97, 47, 98, 47, 99, 47, 100] [101] = [] := by decide
    have e1 : joinOk [97, 47, 98, 47, 99, 47, 100] [101] = false := by decide
    simp only [e0, e1] at h
    exact h
  have H7 : Hid (∀ w1, Calls Tryd.prog 10 #[.string ⟨#[46, 119, 111, 114, 107]⟩] w1 fun e w' => e = .returned (.bool true) ∧ Below w1.heap.size w1 w') := Lib.hid fun w1 => by
    have h := good_any ⟨#[46, 119, 111, 114, 107]⟩ (by decide) w1
    have e0 : okPath [46, 119, 111, 114, 107] = true := by decide
    simp only [e0] at h
    exact h
  have H8 : Hid (∀ w1, Calls Tryd.prog 16 #[.string ⟨#[46, 119, 111, 114, 107]⟩] w1 fun e w' => e = .returned (.bool true) ∧ Below w1.heap.size w1 w') := Lib.hid fun w1 => by
    have h := inside_any ⟨#[46, 119, 111, 114, 107]⟩ (by decide) w1
    have e0 : insideL [46, 119, 111, 114, 107] = true := by decide
    simp only [e0] at h
    exact h
  have H9 : Hid (∀ w1, Calls Tryd.prog 16 #[.string ⟨#[46, 119, 111, 114, 107, 47, 116, 49]⟩] w1 fun e w' => e = .returned (.bool true) ∧ Below w1.heap.size w1 w') := Lib.hid fun w1 => by
    have h := inside_any ⟨#[46, 119, 111, 114, 107, 47, 116, 49]⟩ (by decide) w1
    have e0 : insideL [46, 119, 111, 114, 107, 47, 116, 49] = true := by decide
    simp only [e0] at h
    exact h
  have H10 : Hid (∀ w1, Calls Tryd.prog 16 #[.string ⟨#[46, 119, 111, 114, 107, 101, 114]⟩] w1 fun e w' => e = .returned (.bool false) ∧ Below w1.heap.size w1 w') := Lib.hid fun w1 => by
    have h := inside_any ⟨#[46, 119, 111, 114, 107, 101, 114]⟩ (by decide) w1
    have e0 : insideL [46, 119, 111, 114, 107, 101, 114] = false := by decide
    simp only [e0] at h
    exact h
  have H11 : Hid (∀ w1, Calls Tryd.prog 13 #[.string ⟨#[97, 47, 98, 47, 99]⟩, .string ⟨#[97]⟩] w1 fun e w' => e = .returned (.bool true) ∧ Below w1.heap.size w1 w') := Lib.hid fun w1 => by
    have h := under_any ⟨#[97, 47, 98, 47, 99]⟩ ⟨#[97]⟩ (by decide) w1
    have e0 : underL [97, 47, 98, 47, 99] [97] = true := by decide
    simp only [e0] at h
    exact h
  have H12 : Hid (∀ w1, Calls Tryd.prog 13 #[.string ⟨#[97, 98]⟩, .string ⟨#[97]⟩] w1 fun e w' => e = .returned (.bool false) ∧ Below w1.heap.size w1 w') := Lib.hid fun w1 => by
    have h := under_any ⟨#[97, 98]⟩ ⟨#[97]⟩ (by decide) w1
    have e0 : underL [97, 98] [97] = false := by decide
    simp only [e0] at h
    exact h
  have H13 : Hid (∀ w1, Calls Tryd.prog 13 #[.string ⟨#[97]⟩, .string ⟨#[97]⟩] w1 fun e w' => e = .returned (.bool false) ∧ Below w1.heap.size w1 w') := Lib.hid fun w1 => by
    have h := under_any ⟨#[97]⟩ ⟨#[97]⟩ (by decide) w1
    have e0 : underL [97] [97] = false := by decide
    simp only [e0] at h
    exact h
  have H14 : Hid (∀ w1, Calls Tryd.prog 18 #[.string ⟨#[97, 47, 98]⟩, .string ⟨#[97, 45, 98]⟩] w1 fun e w' => e = .returned (.int .i64 (-1)) ∧ Below w1.heap.size w1 w') := Lib.hid fun w1 => by
    have h := cmpB_any ⟨#[97, 47, 98]⟩ ⟨#[97, 45, 98]⟩ (by decide) (by decide) w1
    have e0 : cmpL [97, 47, 98] [97, 45, 98] = -1 := by decide
    simp only [e0] at h
    exact h
  have H15 : Hid (∀ w1, Calls Tryd.prog 18 #[.string ⟨#[98]⟩, .string ⟨#[97, 47, 122]⟩] w1 fun e w' => e = .returned (.int .i64 1) ∧ Below w1.heap.size w1 w') := Lib.hid fun w1 => by
    have h := cmpB_any ⟨#[98]⟩ ⟨#[97, 47, 122]⟩ (by decide) (by decide) w1
    have e0 : cmpL [98] [97, 47, 122] = 1 := by decide
    simp only [e0] at h
    exact h
  have H16 : Hid (∀ w1, Calls Tryd.prog 18 #[.string ⟨#[120, 47, 121]⟩, .string ⟨#[120, 47, 121]⟩] w1 fun e w' => e = .returned (.int .i64 0) ∧ Below w1.heap.size w1 w') := Lib.hid fun w1 => by
    have h := cmpB_any ⟨#[120, 47, 121]⟩ ⟨#[120, 47, 121]⟩ (by decide) (by decide) w1
    have e0 : cmpL [120, 47, 121] [120, 47, 121] = 0 := by decide
    simp only [e0] at h
    exact h
  go_enter Tryd.func3, Tryd.ntmps3
  go_wp2_with fail
  refine (HA.out _).mono ?_
  rintro e w1 ⟨rfl, hb⟩
  have HB1 := Lib.hid hb
  clear hb
  go_wp2_with fail
  have HH : Hid (Has (w1.alloc (.cells #[.string ⟨#[]⟩, .string ⟨#[47]⟩, .string ⟨#[97, 47]⟩, .string ⟨#[47, 97]⟩, .string ⟨#[97, 47, 47, 98]⟩, .string ⟨#[46]⟩, .string ⟨#[46, 46]⟩, .string ⟨#[97, 47, 46, 46]⟩, .string ⟨#[65]⟩, .string ⟨#[97, 32, 98]⟩, .string ⟨#[97, 98, 99, 100, 101, 102, 103, 104, 105, 106, 107, 108, 109, 110, 111, 112, 113]⟩, .string ⟨#[97, 47, 98, 47, 99, 47, 100, 47, 101]⟩, .string ⟨#[97, 0]⟩] 9)) w1.heap.size 9 (badL.map encStr)) := Lib.hid (Has.made' w1 9 #[.string ⟨#[]⟩, .string ⟨#[47]⟩, .string ⟨#[97, 47]⟩, .string ⟨#[47, 97]⟩, .string ⟨#[97, 47, 47, 98]⟩, .string ⟨#[46]⟩, .string ⟨#[46, 46]⟩, .string ⟨#[97, 47, 46, 46]⟩, .string ⟨#[65]⟩, .string ⟨#[97, 32, 98]⟩, .string ⟨#[97, 98, 99, 100, 101, 102, 103, 104, 105, 106, 107, 108, 109, 110, 111, 112, 113]⟩, .string ⟨#[97, 47, 98, 47, 99, 47, 100, 47, 101]⟩, .string ⟨#[97, 0]⟩] (badL.map encStr) rfl)
  have HB2 := Lib.hid (HB1.out.alloc HB1.out.size (.cells #[.string ⟨#[]⟩, .string ⟨#[47]⟩, .string ⟨#[97, 47]⟩, .string ⟨#[47, 97]⟩, .string ⟨#[97, 47, 47, 98]⟩, .string ⟨#[46]⟩, .string ⟨#[46, 46]⟩, .string ⟨#[97, 47, 46, 46]⟩, .string ⟨#[65]⟩, .string ⟨#[97, 32, 98]⟩, .string ⟨#[97, 98, 99, 100, 101, 102, 103, 104, 105, 106, 107, 108, 109, 110, 111, 112, 113]⟩, .string ⟨#[97, 47, 98, 47, 99, 47, 100, 47, 101]⟩, .string ⟨#[97, 0]⟩] 9))
  have hgl : w1.heap.size < (w1.alloc (.cells #[.string ⟨#[]⟩, .string ⟨#[47]⟩, .string ⟨#[97, 47]⟩, .string ⟨#[47, 97]⟩, .string ⟨#[97, 47, 47, 98]⟩, .string ⟨#[46]⟩, .string ⟨#[46, 46]⟩, .string ⟨#[97, 47, 46, 46]⟩, .string ⟨#[65]⟩, .string ⟨#[97, 32, 98]⟩, .string ⟨#[97, 98, 99, 100, 101, 102, 103, 104, 105, 106, 107, 108, 109, 110, 111, 112, 113]⟩, .string ⟨#[97, 47, 98, 47, 99, 47, 100, 47, 101]⟩, .string ⟨#[97, 0]⟩] 9)).heap.size := by simp
  generalize hw2 : w1.alloc (.cells #[.string ⟨#[]⟩, .string ⟨#[47]⟩, .string ⟨#[97, 47]⟩, .string ⟨#[47, 97]⟩, .string ⟨#[97, 47, 47, 98]⟩, .string ⟨#[46]⟩, .string ⟨#[46, 46]⟩, .string ⟨#[97, 47, 46, 46]⟩, .string ⟨#[65]⟩, .string ⟨#[97, 32, 98]⟩, .string ⟨#[97, 98, 99, 100, 101, 102, 103, 104, 105, 106, 107, 108, 109, 110, 111, 112, 113]⟩, .string ⟨#[97, 47, 98, 47, 99, 47, 100, 47, 101]⟩, .string ⟨#[97, 0]⟩] 9) = w2 at *
  have HSB : Hid (Sees w2 w2.heap.size (some ⟨w1.heap.size, 0, none⟩) (badL.map encStr)) := Lib.hid (Sees.of_has HH.out hgl)
  generalize hgg : (⟨w1.heap.size, 0, none⟩ : Addr) = ga at *
  have HC : Hid (∀ (i : Nat) (h : i < 13), ∀ w', Below w2.heap.size w2 w' → w'.cell? (ga.add i) = some (.string ⟨(badL[i]'h).toArray⟩)) := Lib.hid (fun i h w' hb => by
    obtain ⟨a, ha, hab, hcell⟩ := HSB.out.get (by decide)
    cases ha
    exact (hb.cell (by rw [add_block]; exact hab)).trans (hcell i (encStr (badL[i]'h)) (by rw [List.getElem?_map, List.getElem?_eq_getElem (show i < badL.length from h)]; rfl)))
  clear hw2 hgg HH HSB hgl HB1
  go_loopw [2, 3, 4] (fun vi _ _ wr => ∃ i : Nat, i ≤ 13 ∧ vi = .int .i64 i ∧ Below w2.heap.size w2 wr) (fun vi _ _ _ => 13 - (intOf vi).toNat)
  case atStart => exact ⟨0, by omega, rfl, Below.refl _ _⟩
  case round =>
    rename_i wr
    obtain ⟨i, hi, rfl, hb⟩ := hrel
    have HB := Lib.hid hb
    clear hb
    by_cases hlt : i < 13
    · obtain ⟨f1, f2, f3⟩ := bad_facts (badL[i]'hlt) (List.getElem_mem (show i < badL.length from hlt))
      have hx := HC.out i hlt
      obtain ⟨x, hxe⟩ : ∃ x : ByteArray, x = ⟨(badL[i]'hlt).toArray⟩ := ⟨_, rfl⟩
      have hxb : bt x = badL[i]'hlt := by rw [hxe]
      rw [← hxe] at hx
      rw [← hxb] at f1 f2 f3
      rw [← text_size] at f3
      have KU := Lib.hid (fun w1 => up_any x (by omega) w1)
      have KG := Lib.hid (fun w1 => good_any x (by omega) w1)
      have KB := Lib.hid (fun w1 => base_any x (by omega) w1)
      have KD := Lib.hid (fun w1 => depth_any x (by omega) w1)
      have KV := Lib.hid (fun w1 => under_any x ⟨#[97]⟩ (by omega) w1)
      have KW := Lib.hid (fun w1 => under_any ⟨#[97, 47, 98]⟩ x (by decide) w1)
      have e1 : x.data.toList = bt x := rfl
      have g1 : upV (bt x) = [] := by unfold upV; rw [f1]; rfl
      have g2 : baseV (bt x) = [] := by unfold baseV; rw [f1]; rfl
      have g3 : depthV (bt x) = 0 := by unfold depthV; rw [f1]; rfl
      have g4 : underL (bt x) [97] = false := by unfold underL; rw [f1, Bool.and_false]
      simp only [e1, g1, f1] at KU
      simp only [e1, f1] at KG
      simp only [e1, g2] at KB
      simp only [e1, g3] at KD
      simp only [e1, g4] at KV
      simp only [e1, f2] at KW
      have HX := Lib.hid hx
      have c1 := hx _ HB.out
      have kl : (i : Int) < 13 := by omega
      clear hx hxe hxb f1 f2 e1 g1 g2 g3 g4
      go_wp2_with fail
      refine (KU.out _).mono ?_
      rintro e wa ⟨rfl, hb⟩
      replace HB := Lib.hid (HB.out.trans (hb.mono HB.out.size))
      clear hb c1
      have c1 := HX.out _ HB.out
      go_wp2_with fail
      refine (KG.out _).mono ?_
      rintro e wb ⟨rfl, hb⟩
      replace HB := Lib.hid (HB.out.trans (hb.mono HB.out.size))
      clear hb c1
      have c1 := HX.out _ HB.out
      go_wp2_with fail
      refine (KB.out _).mono ?_
      rintro e wc ⟨rfl, hb⟩
      replace HB := Lib.hid (HB.out.trans (hb.mono HB.out.size))
      clear hb c1
      have c1 := HX.out _ HB.out
      go_wp2_with fail
      refine (KD.out _).mono ?_
      rintro e wd ⟨rfl, hb⟩
      replace HB := Lib.hid (HB.out.trans (hb.mono HB.out.size))
      clear hb c1
      have c1 := HX.out _ HB.out
      go_wp2_with fail
      refine (KV.out _).mono ?_
      rintro e we ⟨rfl, hb⟩
      replace HB := Lib.hid (HB.out.trans (hb.mono HB.out.size))
      clear hb c1
      have c1 := HX.out _ HB.out
      go_wp2_with fail
      refine (KW.out _).mono ?_
      rintro e wf ⟨rfl, hb⟩
      replace HB := Lib.hid (HB.out.trans (hb.mono HB.out.size))
      clear hb c1
      have c1 := HX.out _ HB.out
      go_wp2_with fail
      go_roundw
      case rel => exact ⟨i + 1, by omega, by go_num, HB.out⟩
      case measure => simp [intOf]; omega
    · have hil : i = 13 := by omega
      subst hil
      replace HB := Lib.hid (HB2.out.trans (HB.out.mono HB2.out.size))
      clear HB2 HC hlt hi
      go_wp2_with fail
      refine (H1.out _).mono ?_
      rintro e wh1 ⟨rfl, hb⟩
      replace HB := Lib.hid (HB.out.trans (hb.mono HB.out.size))
      clear hb
      go_wp2_with fail
      refine (H2.out _).mono ?_
      rintro e wh2 ⟨rfl, hb⟩
      replace HB := Lib.hid (HB.out.trans (hb.mono HB.out.size))
      clear hb
      go_wp2_with fail
      refine (H3.out _).mono ?_
      rintro e wh3 ⟨rfl, hb⟩
      replace HB := Lib.hid (HB.out.trans (hb.mono HB.out.size))
      clear hb
      go_wp2_with fail
      refine (H4.out _).mono ?_
      rintro e wh4 ⟨rfl, hb⟩
      replace HB := Lib.hid (HB.out.trans (hb.mono HB.out.size))
      clear hb
      go_wp2_with fail
      refine (H5.out _).mono ?_
      rintro e wh5 ⟨rfl, hb⟩
      replace HB := Lib.hid (HB.out.trans (hb.mono HB.out.size))
      clear hb
      go_wp2_with fail
      refine (H6.out _).mono ?_
      rintro e wh6 ⟨rfl, hb⟩
      replace HB := Lib.hid (HB.out.trans (hb.mono HB.out.size))
      clear hb
      go_wp2_with fail
      have HH2 : Hid (Has (wh6.alloc (.cells #[.string ⟨#[98]⟩, .string ⟨#[97, 47, 98]⟩, .string ⟨#[97, 46, 98]⟩, .string ⟨#[97]⟩, .string ⟨#[88]⟩, .string ⟨#[97, 47, 98]⟩, .string ⟨#[97, 45, 98]⟩] 9)) wh6.heap.size 9 (inL.map encStr)) := Lib.hid (Has.made' wh6 9 #[.string ⟨#[98]⟩, .string ⟨#[97, 47, 98]⟩, .string ⟨#[97, 46, 98]⟩, .string ⟨#[97]⟩, .string ⟨#[88]⟩, .string ⟨#[97, 47, 98]⟩, .string ⟨#[97, 45, 98]⟩] (inL.map encStr) rfl)
      have hg2 : wh6.heap.size < (wh6.alloc (.cells #[.string ⟨#[98]⟩, .string ⟨#[97, 47, 98]⟩, .string ⟨#[97, 46, 98]⟩, .string ⟨#[97]⟩, .string ⟨#[88]⟩, .string ⟨#[97, 47, 98]⟩, .string ⟨#[97, 45, 98]⟩] 9)).heap.size := by simp
      replace HB := Lib.hid (HB.out.alloc HB.out.size (.cells #[.string ⟨#[98]⟩, .string ⟨#[97, 47, 98]⟩, .string ⟨#[97, 46, 98]⟩, .string ⟨#[97]⟩, .string ⟨#[88]⟩, .string ⟨#[97, 47, 98]⟩, .string ⟨#[97, 45, 98]⟩] 9))
      generalize wh6.alloc (.cells #[.string ⟨#[98]⟩, .string ⟨#[97, 47, 98]⟩, .string ⟨#[97, 46, 98]⟩, .string ⟨#[97]⟩, .string ⟨#[88]⟩, .string ⟨#[97, 47, 98]⟩, .string ⟨#[97, 45, 98]⟩] 9) = ws at *
      refine (sort_any inL (some ⟨wh6.heap.size, 0, none⟩) 7 (by decide) (by decide) ws (Sees.of_has HH2.out hg2)).mono ?_
      rintro e wk ⟨⟨v, R, rfl, hsrt, hrl, qk, ck, rfl, hck, hsk⟩, hb⟩
      obtain rfl : R = exL := srt_unique hsrt ex_srt
      replace HB := Lib.hid (HB.out.trans (hb.mono HB.out.size))
      have HSK := Lib.hid hsk
      clear hsrt hrl hck hsk hb HH2 hg2
      go_wp2_with fail
      refine (H7.out _).mono ?_
      rintro e wp7 ⟨rfl, hb⟩
      replace HB := Lib.hid (HB.out.trans (hb.mono HB.out.size))
      replace HSK := Lib.hid ((HSK.out.keep hb).more hb.size)
      clear hb
      go_wp2_with fail
      refine (H8.out _).mono ?_
      rintro e wp8 ⟨rfl, hb⟩
      replace HB := Lib.hid (HB.out.trans (hb.mono HB.out.size))
      replace HSK := Lib.hid ((HSK.out.keep hb).more hb.size)
      clear hb
      go_wp2_with fail
      refine (H9.out _).mono ?_
      rintro e wp9 ⟨rfl, hb⟩
      replace HB := Lib.hid (HB.out.trans (hb.mono HB.out.size))
      replace HSK := Lib.hid ((HSK.out.keep hb).more hb.size)
      clear hb
      go_wp2_with fail
      refine (H10.out _).mono ?_
      rintro e wp10 ⟨rfl, hb⟩
      replace HB := Lib.hid (HB.out.trans (hb.mono HB.out.size))
      replace HSK := Lib.hid ((HSK.out.keep hb).more hb.size)
      clear hb
      go_wp2_with fail
      refine (H11.out _).mono ?_
      rintro e wp11 ⟨rfl, hb⟩
      replace HB := Lib.hid (HB.out.trans (hb.mono HB.out.size))
      replace HSK := Lib.hid ((HSK.out.keep hb).more hb.size)
      clear hb
      go_wp2_with fail
      refine (H12.out _).mono ?_
      rintro e wp12 ⟨rfl, hb⟩
      replace HB := Lib.hid (HB.out.trans (hb.mono HB.out.size))
      replace HSK := Lib.hid ((HSK.out.keep hb).more hb.size)
      clear hb
      go_wp2_with fail
      refine (H13.out _).mono ?_
      rintro e wp13 ⟨rfl, hb⟩
      replace HB := Lib.hid (HB.out.trans (hb.mono HB.out.size))
      replace HSK := Lib.hid ((HSK.out.keep hb).more hb.size)
      clear hb
      go_wp2_with fail
      have HH3 : Hid (Has (wp13.alloc (.cells #[.string ⟨#[97]⟩, .string ⟨#[97, 47, 98]⟩, .string ⟨#[97, 45, 98]⟩, .string ⟨#[97, 46, 98]⟩, .string ⟨#[98]⟩] 9)) wp13.heap.size 9 (exL.map encStr)) := Lib.hid (Has.made' wp13 9 #[.string ⟨#[97]⟩, .string ⟨#[97, 47, 98]⟩, .string ⟨#[97, 45, 98]⟩, .string ⟨#[97, 46, 98]⟩, .string ⟨#[98]⟩] (exL.map encStr) rfl)
      have hg3 : wp13.heap.size < (wp13.alloc (.cells #[.string ⟨#[97]⟩, .string ⟨#[97, 47, 98]⟩, .string ⟨#[97, 45, 98]⟩, .string ⟨#[97, 46, 98]⟩, .string ⟨#[98]⟩] 9)).heap.size := by simp
      have hbx : Below wp13.heap.size wp13 (wp13.alloc (.cells #[.string ⟨#[97]⟩, .string ⟨#[97, 47, 98]⟩, .string ⟨#[97, 45, 98]⟩, .string ⟨#[97, 46, 98]⟩, .string ⟨#[98]⟩] 9)) := (Below.refl _ wp13).alloc (Nat.le_refl _) _
      replace HB := Lib.hid (HB.out.trans (hbx.mono HB.out.size))
      replace HSK := Lib.hid ((HSK.out.keep hbx).more hbx.size)
      clear hbx
      generalize wp13.alloc (.cells #[.string ⟨#[97]⟩, .string ⟨#[97, 47, 98]⟩, .string ⟨#[97, 45, 98]⟩, .string ⟨#[97, 46, 98]⟩, .string ⟨#[98]⟩] 9) = wt at *
      refine (texts_same exL (by decide) qk (some ⟨wp13.heap.size, 0, none⟩) ck 5 wt HSK.out (Sees.of_has HH3.out hg3)).mono ?_
      rintro e wu ⟨rfl, hb⟩
      replace HB := Lib.hid (HB.out.trans (hb.mono HB.out.size))
      clear hb HSK HH3 hg3
      go_wp2_with fail
      refine (H14.out _).mono ?_
      rintro e wr14 ⟨rfl, hb⟩
      replace HB := Lib.hid (HB.out.trans (hb.mono HB.out.size))
      clear hb
      go_wp2_with fail
      refine (H15.out _).mono ?_
      rintro e wr15 ⟨rfl, hb⟩
      replace HB := Lib.hid (HB.out.trans (hb.mono HB.out.size))
      clear hb
      go_wp2_with fail
      refine (H16.out _).mono ?_
      rintro e wr16 ⟨rfl, hb⟩
      replace HB := Lib.hid (HB.out.trans (hb.mono HB.out.size))
      clear hb
      go_wp2_with fail
      go_ret
      exact ⟨rfl, HB.out⟩
end Go.Proofs.YtflgncagoiigfaaDoor
