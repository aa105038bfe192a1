/- Contracts: the law's awake; Cmp as a caller sees it. No condition but the texts' lengths. -/
import Derived.Test.YtflgncagoiigfaaDoorCmp7
namespace Go.Proofs.YtflgncagoiigfaaDoor
open Go.RowKit
theorem below_drewN7 (w : World) (q : Nat) : Below w.heap.size w (w.drewN q) := ⟨rfl, rfl, rfl, Nat.le_refl _, fun _ _ => rfl⟩
theorem cmpB_any (a b : ByteArray) (ha : a.size < 9223372036854775808) (hb : b.size < 9223372036854775808) (w : World) :
    Calls Tryd.prog 18 #[.string a, .string b] w fun e w' => e = .returned (.int .i64 (cmpL a.data.toList b.data.toList)) ∧ Below w.heap.size w w' :=
  (cmp_any a b ha hb w).mono fun _ _ ⟨h, q, hq⟩ => ⟨h, by rw [hq]; exact below_drewN7 w q⟩
set_option maxHeartbeats 800000 in
theorem awake_any (w : World) :
    Calls Tryd.prog 8 #[] w fun e w' => e = .returned (.bool true) ∧ Below w.heap.size w w' := by
  have H1 : Hid (∀ w1, Calls Tryd.prog 9 #[.string ⟨#[97, 47, 98]⟩] w1 fun e w' => e = .returned (.tuple #[.string ⟨#[97]⟩, .bool true]) ∧ Below w1.heap.size w1 w') := Lib.hid fun w1 => by
    have h := up_any ⟨#[97, 47, 98]⟩ (by decide) w1
    have e1 : upV [97, 47, 98] = [97] := by decide
    have e2 : okPath [97, 47, 98] = true := by decide
    simp only [e1, e2] at h
    exact h
  have H2 : Hid (∀ w1, Calls Tryd.prog 10 #[.string ⟨#[97, 47, 98]⟩] w1 fun e w' => e = .returned (.bool true) ∧ Below w1.heap.size w1 w') := Lib.hid fun w1 => by
    have h := good_any ⟨#[97, 47, 98]⟩ (by decide) w1
    have e2 : okPath [97, 47, 98] = true := by decide
    simp only [e2] at h
    exact h
  have H3 : Hid (∀ w1, Calls Tryd.prog 12 #[.string ⟨#[97, 47, 98]⟩] w1 fun e w' => e = .returned (.int .i64 2) ∧ Below w1.heap.size w1 w') := Lib.hid fun w1 => by
    have h := depth_any ⟨#[97, 47, 98]⟩ (by decide) w1
    have e2 : depthV [97, 47, 98] = 2 := by decide
    simp only [e2] at h
    exact h
  have H4 : Hid (∀ w1, Calls Tryd.prog 11 #[.string ⟨#[97, 47, 98]⟩] w1 fun e w' => e = .returned (.string ⟨#[98]⟩) ∧ Below w1.heap.size w1 w') := Lib.hid fun w1 => by
    have h := base_any ⟨#[97, 47, 98]⟩ (by decide) w1
    have e2 : baseV [97, 47, 98] = [98] := by decide
    simp only [e2] at h
    exact h
  go_enter Tryd.func8, Tryd.ntmps8
  go_wp2_with fail
  refine (H1.out _).mono ?_
  rintro e w1 ⟨rfl, hb⟩
  have HB := Lib.hid hb
  clear hb
  go_wp2_with fail
  refine (H2.out _).mono ?_
  rintro e w2 ⟨rfl, hb⟩
  replace HB := Lib.hid (HB.out.trans (hb.mono HB.out.size))
  clear hb
  go_wp2_with fail
  refine (H3.out _).mono ?_
  rintro e w3 ⟨rfl, hb⟩
  replace HB := Lib.hid (HB.out.trans (hb.mono HB.out.size))
  clear hb
  go_wp2_with fail
  refine (H4.out _).mono ?_
  rintro e w4 ⟨rfl, hb⟩
  replace HB := Lib.hid (HB.out.trans (hb.mono HB.out.size))
  clear hb
  go_wp2_with fail
  go_ret
  exact ⟨rfl, HB.out⟩
end Go.Proofs.YtflgncagoiigfaaDoor
