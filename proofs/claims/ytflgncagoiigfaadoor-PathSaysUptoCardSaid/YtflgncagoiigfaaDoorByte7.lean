/- Contracts: package path's goodByte and goodName. No condition. -/
import Derived.Test.YtflgncagoiigfaaDoorLays
import Derived.Test.YtflgncagoiigfaaDoorPm
import Derived.Lib.Hide
import Derived.IntWalk
namespace Go.Proofs.YtflgncagoiigfaaDoor
open Go.RowKit
set_option maxHeartbeats 400000 in
theorem goodByte_any (c : UInt8) (w : World) :
    Calls Tryd.prog 42 #[.int .u8 (c.toNat : Int)] w fun e w' => e = .returned (.bool (okByte c)) ∧ w' = w := by
  obtain ⟨n, hn⟩ : ∃ n : Nat, n = c.toNat := ⟨_, rfl⟩
  have e1 : (c == 46) = decide (n = 46) := by rw [hn, Bool.eq_iff_iff]; simp [← UInt8.toNat_inj]
  have e2 : (c == 45) = decide (n = 45) := by rw [hn, Bool.eq_iff_iff]; simp [← UInt8.toNat_inj]
  have e3 : (c == 95) = decide (n = 95) := by rw [hn, Bool.eq_iff_iff]; simp [← UInt8.toNat_inj]
  unfold okByte
  rw [e1, e2, e3, ← hn]
  clear e1 e2 e3 hn
  go_enter Tryd.func42, Tryd.ntmps42
  go_wp2_with fail
  all_goals go_ret
  all_goals refine ⟨?_, rfl⟩
  all_goals refine congrArg (fun b => Ending.returned (.bool b)) ?_
  all_goals rw [Bool.eq_iff_iff]
  all_goals simp only [Bool.or_eq_true, Bool.and_eq_true, decide_eq_true_eq, beq_iff_eq, true_iff]
  all_goals omega
theorem okName_bad (s : ByteArray) (h : s.data = #[] ∨ 16 < (s.size : Int) ∨ s.data.toList = [46] ∨ s.data.toList = [46, 46]) : okName s.data.toList = false := by
  unfold okName
  have hsz : s.data.toList.length = s.size := rfl
  rcases h with h | h | h | h
  · rw [h]; rfl
  · have : decide (16 < s.data.toList.length) = true := by rw [hsz]; exact decide_eq_true (by omega)
    rw [this]; simp
  · rw [h]; rfl
  · rw [h]; rfl
theorem okName_good (s : ByteArray) (h1 : ¬ s.data = #[]) (h2 : (s.size : Int) ≤ 16) (h3 : ¬ s.data.toList = [46]) (h4 : ¬ s.data.toList = [46, 46]) : okName s.data.toList = s.data.toList.all okByte := by
  unfold okName
  have hsz : s.data.toList.length = s.size := rfl
  have e1 : (s.data.toList == []) = false := by rw [beq_eq_false_iff_ne]; intro e; exact h1 (Array.toList_eq_nil_iff.1 e)
  have e2 : decide (16 < s.data.toList.length) = false := by rw [hsz]; exact decide_eq_false (by omega)
  have e3 : (s.data.toList == [46]) = false := by rw [beq_eq_false_iff_ne]; exact h3
  have e4 : (s.data.toList == [46, 46]) = false := by rw [beq_eq_false_iff_ne]; exact h4
  rw [e1, e2, e3, e4]; rfl
theorem byte_at (s : ByteArray) (i : Nat) (h : i < s.size) : s.data.toList[i]? = some (s[i]'h) := by
  obtain ⟨⟨l⟩⟩ := s
  have h' : i < l.length := h
  show l[i]? = some _
  rw [List.getElem?_eq_getElem h']
  rfl
theorem all_take_succ {l : Tx} {i : Nat} {c : UInt8} (h : l[i]? = some c) : (l.take (i + 1)).all okByte = ((l.take i).all okByte && okByte c) := by
  rw [List.take_add_one, h]; simp
set_option maxHeartbeats 1000000 in
theorem goodName_any (s : ByteArray) (w : World) :
    Calls Tryd.prog 30 #[.string s] w fun e w' => e = .returned (.bool (okName s.data.toList)) ∧ w' = w := by
  have hl : s.toList = s.data.toList := Lib.toList_data s
  obtain ⟨r, hr⟩ : ∃ r, okName s.data.toList = r := ⟨_, rfl⟩
  have HR := Lib.hid hr
  rw [hr]
  clear hr
  go_enter Tryd.func30, Tryd.ntmps30
  go_wp2_with fail
  all_goals first
    | (go_ret; refine ⟨congrArg (fun b => Ending.returned (.bool b)) ?_, rfl⟩; rw [← HR.out]; symm; apply okName_bad; simp_all; done)
    | skip
  have HG := Lib.hid ((okName_good s (by assumption) (by assumption) (by assumption) (by simp_all)).symm.trans HR.out)
  rename_i f1 f2 f3 f4 _ _
  have hs : s.size < 4611686018427387904 := by omega
  clear f1 f2 f3 f4 hl HR
  go_loop [3, 21] (fun _ vi => ∃ i : Nat, i ≤ s.size ∧ vi = .int .i64 i ∧ (s.data.toList.take i).all okByte = true) (fun _ vi => s.size - (intOf vi).toNat)
  case atStart => exact ⟨0, by omega, rfl, rfl⟩
  case round =>
    obtain ⟨i, hi, rfl, hall⟩ := hrel
    by_cases hlt : i < s.size
    · have hx := all_take_succ (byte_at s i hlt)
      rw [hall, Bool.true_and] at hx
      have HX := Lib.hid hx
      have H1 := Lib.hid (fun w1 => goodByte_any (s[i]'hlt) w1)
      clear hx hall
      cases hb : okByte (s[i]'hlt) with
      | true =>
        rw [hb] at H1 HX
        clear hb
        go_wp2_with (first | ((with_reducible refine (H1.out _).mono ?_); rintro e w1 ⟨rfl, rfl⟩))
        go_round
        case rel => exact ⟨i + 1, by omega, by go_num, HX.out⟩
        case measure => simp [intOf]; omega
      | false =>
        rw [hb] at H1 HX
        clear hb
        go_wp2_with (first | ((with_reducible refine (H1.out _).mono ?_); rintro e w1 ⟨rfl, rfl⟩))
        go_ret
        refine ⟨congrArg (fun b => Ending.returned (.bool b)) ?_, rfl⟩
        rw [← HG.out]
        have h1 := HX.out
        rw [← List.take_append_drop (i + 1) s.data.toList, List.all_append, h1, Bool.false_and]
    · have hil : i = s.size := by omega
      subst hil
      have e : s.data.toList.take s.size = s.data.toList := List.take_of_length_le (Nat.le_of_eq rfl)
      rw [e] at hall
      have HA := Lib.hid hall
      have k1 : ¬ (s.size : Int) < (s.size : Int) := by omega
      clear hlt hall e
      go_wp2_with fail
      go_ret
      exact ⟨congrArg (fun b => Ending.returned (.bool b)) (HA.out.symm.trans HG.out), rfl⟩
end Go.Proofs.YtflgncagoiigfaaDoor
