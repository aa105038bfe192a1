/- Contract: the document's own Good. Condition: a text of at most 2^20 bytes. -/
import Derived.Test.YtflgncagoiigfaaDoorNames7
namespace Go.Proofs.YtflgncagoiigfaaDoor
open Go.RowKit
/-- The byte's test, by number. -/
theorem okByte_cases (c : UInt8) (n : Int) (hn : n = (c.toNat : Int)) :
    (okByte c = true ∧ ((97 ≤ n ∧ n ≤ 122) ∨ (n < 97 ∧ 48 ≤ n ∧ n ≤ 57) ∨ n = 46 ∨ n = 45 ∨ n = 95)) ∨
    (okByte c = false ∧ ¬ n = 46 ∧ ¬ n = 45 ∧ ¬ n = 95 ∧ ((n < 97 ∧ n < 48) ∨ (n < 97 ∧ ¬ n < 48 ∧ 57 < n) ∨ (¬ n < 97 ∧ 122 < n ∧ ¬ n < 48 ∧ 57 < n))) := by
  have e1 : (c == 46) = decide (n = 46) := by rw [hn, Bool.eq_iff_iff]; simp [← UInt8.toNat_inj]; omega
  have e2 : (c == 45) = decide (n = 45) := by rw [hn, Bool.eq_iff_iff]; simp [← UInt8.toNat_inj]; omega
  have e3 : (c == 95) = decide (n = 95) := by rw [hn, Bool.eq_iff_iff]; simp [← UInt8.toNat_inj]; omega
  cases hb : okByte c with
  | true =>
    refine .inl ⟨rfl, ?_⟩
    unfold okByte at hb
    rw [e1, e2, e3] at hb
    simp only [Bool.or_eq_true, Bool.and_eq_true, decide_eq_true_eq] at hb
    omega
  | false =>
    refine .inr ⟨rfl, ?_⟩
    unfold okByte at hb
    rw [e1, e2, e3] at hb
    simp only [Bool.or_eq_false_iff, Bool.and_eq_false_iff, decide_eq_false_iff_not] at hb
    omega
theorem okName_no {n : Tx} (h : n.length < 1 ∨ 16 < n.length ∨ n = [46] ∨ n = [46, 46]) : okName n = false := by
  unfold okName
  rcases h with h | h | h | h
  · have : n = [] := List.eq_nil_of_length_eq_zero (by omega)
    rw [this]; rfl
  · rw [decide_eq_true h]; simp
  · rw [h]; rfl
  · rw [h]; rfl
theorem okName_all {n : Tx} (h1 : ¬ n.length < 1) (h2 : ¬ 16 < n.length) (h3 : ¬ n = [46]) (h4 : ¬ n = [46, 46]) : okName n = n.all okByte := by
  unfold okName
  have e1 : (n == []) = false := by rw [beq_eq_false_iff_ne]; rintro rfl; exact h1 (by simp)
  have e3 : (n == [46]) = false := by rw [beq_eq_false_iff_ne]; exact h3
  have e4 : (n == [46, 46]) = false := by rw [beq_eq_false_iff_ne]; exact h4
  rw [e1, decide_eq_false h2, e3, e4]; rfl
theorem nms_len {p : Tx} : ∀ n ∈ nms p, n.length ≤ p.length := by
  induction p with
  | nil => intro n hn; simp [nms] at hn; simp [hn]
  | cons c r ih =>
    intro n hn
    rw [nms] at hn
    by_cases h : c = 47
    · rw [if_pos h] at hn
      rcases List.mem_cons.1 hn with rfl | hn
      · simp
      · have := ih n hn; simp only [List.length_cons]; omega
    · rw [if_neg h] at hn
      cases hr : nms r with
      | nil => exact absurd hr (nms_ne r)
      | cons m ms =>
        rw [hr] at hn ih
        rcases List.mem_cons.1 hn with rfl | hn
        · have := ih m (List.mem_cons_self ..); simp only [List.length_cons]; omega
        · have := ih n (List.mem_cons_of_mem _ hn); simp only [List.length_cons]; omega
set_option maxHeartbeats 8000000 in
set_option maxRecDepth 100000 in
theorem rgood_any (s : ByteArray) (hs : s.size ≤ 1048576) (w : World) :
    Calls Tryd.prog 21 #[.string s] w fun e w' => e = .returned (.bool (okPath s.data.toList)) ∧ Below w.heap.size w w' := by
  have HN := Lib.hid (names_any s hs w)
  have hcl : (nms s.data.toList).length ≤ 1048577 := by rw [nms_count]; have : s.data.toList.count 47 ≤ s.data.toList.length := List.count_le_length; have : s.data.toList.length = s.size := rfl; omega
  have hns : ∀ n ∈ nms s.data.toList, n.length ≤ 1048576 := fun n hn => by
    have h1 := nms_len n hn
    have h2 : s.data.toList.length = s.size := rfl
    omega
  obtain ⟨r, hr⟩ : ∃ r, okPath s.data.toList = r := ⟨_, rfl⟩
  have HR := Lib.hid hr
  rw [hr]
  clear hr
  unfold okPath at HR
  generalize nms s.data.toList = N at *
  go_enter Tryd.func21, Tryd.ntmps21
  go_wp2_with fail
  refine (HN.out).mono ?_
  rintro e w2 ⟨⟨v, rfl, q, c, rfl, hc, hsee⟩, hb⟩
  have HB := Lib.hid hb
  have HS := Lib.hid hsee
  clear hb hsee hc
  go_wp2_with fail
  go_loop [4, 5, 6] (fun vi _ _ => ∃ i : Nat, i ≤ N.length ∧ vi = .int .i64 i ∧ (N.take i).all okName = true) (fun vi _ _ => N.length - (intOf vi).toNat)
  case atStart => exact ⟨0, by omega, rfl, rfl⟩
  case round =>
    obtain ⟨i, hi, rfl, hall⟩ := hrel
    have HALL := Lib.hid hall
    clear hall
    by_cases hlt : i < N.length
    · obtain ⟨ad, rfl, hap, hcell⟩ := HS.out.get (by rw [List.length_map]; omega)
      obtain ⟨x, hx⟩ : ∃ x : ByteArray, x = ⟨N[i].toArray⟩ := ⟨_, rfl⟩
      have hxb : x.data.toList = N[i] := by rw [hx]
      have c1 : w2.cell? (ad.add i) = some (.string x) := hcell i (.string x) (by rw [List.getElem?_map, List.getElem?_eq_getElem hlt, hx]; rfl)
      have hnx : x.size ≤ 1048576 := by have := hns N[i] (List.getElem_mem hlt); rw [← hxb] at this; exact this
      have htk : (N.take (i + 1)).all okName = okName x.data.toList := by
        rw [List.take_add_one, List.getElem?_eq_getElem hlt, List.all_append, HALL.out, hxb]; simp
      have HTK := Lib.hid htk
      have hfail : okName x.data.toList = false → r = false := fun h => by
        rw [← HR.out]
        have : N.all okName = false := by
          rw [← List.take_append_drop (i + 1) N, List.all_append, htk, h]; rfl
        rw [this, Bool.and_false]
      have HF := Lib.hid hfail
      have hxl : x.data.toList.length = x.size := rfl
      have hkl : (i : Int) < (N.length : Int) := by omega
      have hlx : x.toList = x.data.toList := Lib.toList_data x
      clear hcell hap hx hxb htk hfail hlt
      by_cases h1 : x.size < 1
      · have hr := HF.out (okName_no (.inl (by omega)))
        subst hr
        have k1 : (x.size : Int) < 1 := by omega
        go_wp2_with fail
        go_ret
        exact ⟨rfl, HB.out⟩
      by_cases h2 : 16 < x.size
      · have hr := HF.out (okName_no (.inr (.inl (by omega))))
        subst hr
        have k1 : ¬ (x.size : Int) < 1 := by omega
        have k2 : (16 : Int) < (x.size : Int) := by omega
        go_wp2_with fail
        go_ret
        exact ⟨rfl, HB.out⟩
      have k1 : ¬ (x.size : Int) < 1 := by omega
      have k2 : ¬ (16 : Int) < (x.size : Int) := by omega
      by_cases h3 : x.data.toList = [46]
      · have hr := HF.out (okName_no (.inr (.inr (.inl h3))))
        subst hr
        have k3 : (x.data.toList == [46]) = true := by rw [beq_iff_eq]; exact h3
        clear h3 h1 h2
        go_wp2_with fail
        go_ret
        exact ⟨rfl, HB.out⟩
      by_cases h4 : x.data.toList = [46, 46]
      · have hr := HF.out (okName_no (.inr (.inr (.inr h4))))
        subst hr
        have k3 : (x.data.toList == [46]) = false := by rw [beq_eq_false_iff_ne]; exact h3
        have k4 : (x.data.toList == [46, 46]) = true := by rw [beq_iff_eq]; exact h4
        clear h3 h4 h1 h2
        go_wp2_with fail
        go_ret
        exact ⟨rfl, HB.out⟩
      have k3 : (x.data.toList == [46]) = false := by rw [beq_eq_false_iff_ne]; exact h3
      have k4 : (x.data.toList == [46, 46]) = false := by rw [beq_eq_false_iff_ne]; exact h4
      have hok := okName_all (n := x.data.toList) (by omega) (by omega) h3 h4
      rw [hok] at HTK HF
      clear h3 h4 h1 h2 hok
      go_wp2_with fail
      go_loop [5, 6] (fun vk _ => ∃ k : Nat, k ≤ x.size ∧ vk = .int .i64 k ∧ (x.data.toList.take k).all okByte = true) (fun vk _ => x.size - (intOf vk).toNat)
      case atStart => exact ⟨0, by omega, rfl, rfl⟩
      case round =>
        obtain ⟨k, hk, rfl, hak⟩ := hrel
        by_cases hkx : k < x.size
        · have hat := all_take_succ (byte_at x k hkx)
          rw [hak, Bool.true_and] at hat
          have HAT := Lib.hid hat
          have hks : (k : Int) < (x.size : Int) := by omega
          clear hat hak
          rcases okByte_cases (x[k]'hkx) _ rfl with ⟨ho, hc⟩ | ⟨ho, h46, h45, h95, hc⟩
          · have HOK := Lib.hid ho
            clear ho
            rcases hc with ⟨g1, g2⟩ | ⟨g1, g2, g3⟩ | g1 | g1 | g1
            · go_wp2_with fail
              go_round
              case rel => exact ⟨k + 1, by omega, by go_num, by rw [HAT.out, HOK.out]⟩
              case measure => simp [intOf]; omega
            · go_wp2_with fail
              go_round
              case rel => exact ⟨k + 1, by omega, by go_num, by rw [HAT.out, HOK.out]⟩
              case measure => simp [intOf]; omega
            · go_wp2_with fail
              go_round
              case rel => exact ⟨k + 1, by omega, by go_num, by rw [HAT.out, HOK.out]⟩
              case measure => simp [intOf]; omega
            · go_wp2_with fail
              go_round
              case rel => exact ⟨k + 1, by omega, by go_num, by rw [HAT.out, HOK.out]⟩
              case measure => simp [intOf]; omega
            · go_wp2_with fail
              go_round
              case rel => exact ⟨k + 1, by omega, by go_num, by rw [HAT.out, HOK.out]⟩
              case measure => simp [intOf]; omega
          · have hrf := HF.out (by rw [← List.take_append_drop (k + 1) x.data.toList, List.all_append, HAT.out, ho]; rfl)
            subst hrf
            have n46 : (((x[k]'hkx).toNat : Int) != 46) = true := by simp [h46]
            have n45 : (((x[k]'hkx).toNat : Int) != 45) = true := by simp [h45]
            have n95 : (((x[k]'hkx).toNat : Int) != 95) = true := by simp [h95]
            clear ho
            rcases hc with ⟨g1, g2⟩ | ⟨g1, g2, g3⟩ | ⟨g1, g2, g3, g4⟩
            · go_wp2_with fail
              go_ret
              exact ⟨rfl, HB.out⟩
            · go_wp2_with fail
              go_ret
              exact ⟨rfl, HB.out⟩
            · go_wp2_with fail
              go_ret
              exact ⟨rfl, HB.out⟩
        · have hke : k = x.size := by omega
          subst hke
          rw [List.take_of_length_le (show x.data.toList.length ≤ x.size from Nat.le_refl _)] at hak
          have HNX : Hid ((N.take (i + 1)).all okName = true) := Lib.hid (HTK.out.trans hak)
          have hks : ¬ (x.size : Int) < (x.size : Int) := by omega
          clear hak hkx
          go_wp2_with fail
          go_round
          case rel => exact ⟨i + 1, by omega, by go_num, HNX.out⟩
          case measure => simp [intOf]; omega
    · have hil : i = N.length := by omega
      subst hil
      have hN := HALL.out
      rw [List.take_length] at hN
      have hr := HR.out
      rw [hN, Bool.and_true] at hr
      have hkl : ¬ (N.length : Int) < (N.length : Int) := by omega
      by_cases h4 : N.length ≤ 4
      · rw [decide_eq_true h4] at hr
        subst hr
        have k4 : (N.length : Int) ≤ 4 := by omega
        clear hN h4 hlt
        go_wp2_with fail
        go_ret
        exact ⟨by first | rfl | simp, HB.out⟩
      · rw [decide_eq_false h4] at hr
        subst hr
        have k4 : ¬ (N.length : Int) ≤ 4 := by omega
        clear hN h4 hlt
        go_wp2_with fail
        go_ret
        exact ⟨by first | rfl | simp, HB.out⟩
end Go.Proofs.YtflgncagoiigfaaDoor
