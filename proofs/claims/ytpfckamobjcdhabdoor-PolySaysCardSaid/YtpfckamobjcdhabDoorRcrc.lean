/- Contract: the document's own Crc, bit by bit. Condition: the bytes lie in older memory. -/
import Derived.Test.YtpfckamobjcdhabDoorOn
namespace Go.Proofs.YtpfckamobjcdhabDoor
open Go.RowKit
theorem nx_false {s : BitVec 32} (h : s.getLsbD 0 = false) : nx s = s >>> 1 := by unfold nx; rw [h]; simp
theorem nx_true {s : BitVec 32} (h : s.getLsbD 0 = true) : nx s = (s >>> 1) ^^^ dvs := by unfold nx; rw [h]; simp
section
attribute [local go_sem] N_not N_not' u32_signed
set_option maxHeartbeats 1000000 in
theorem rcrc_any (c : BitVec 32) (l : List (BitVec 8)) (q : Option Addr) (cap : Nat) (w : World) (hs : Sees w w.heap.size q (l.map u8v)) (hl : l.length < 9223372036854775807) :
    Calls Tryd.prog 21 #[.int .u32 (N c), .slice q l.length cap] w fun e w' => e = .returned (.int .u32 (N (crc c l))) ∧ w = w' := by
  have HS := Lib.hid hs
  clear hs
  go_enter Tryd.func21, Tryd.ntmps21
  go_wp2_with fail
  go_loop [0, 5, 6, 7] (fun vc vi _ _ => ∃ k : Nat, k ≤ l.length ∧ vi = .int .i64 k ∧ vc = .int .u32 (N (crcS (~~~c) (l.take k)))) (fun _ vi _ _ => l.length - (intOf vi).toNat)
  case atStart => exact ⟨0, by omega, rfl, rfl⟩
  case round =>
    obtain ⟨k, hk, rfl, rfl⟩ := hrel
    by_cases hlt : k < l.length
    · have hst := crcS_snoc (~~~c) (l.take k) (at8 l k)
      rw [← take_at8 l k hlt] at hst
      obtain ⟨a, rfl, _, hcell⟩ := HS.out (by simp; omega)
      have hx := hcell k _ (at8_of l k hlt)
      generalize at8 l k = x at *
      generalize crcS (~~~c) (l.take k) = s at *
      have hb := N_of_B x
      have hxo := N_xor s (w8 x)
      obtain ⟨t, ht⟩ : ∃ t, t = s ^^^ w8 x := ⟨_, rfl⟩
      have ht' : s ^^^ byte32 x = t := ht.symm
      rw [ht'] at hst
      rw [← ht] at hxo
      have HST := Lib.hid hst
      clear hst ht ht' hcell
      go_wp2_with fail
      go_loop [0, 6, 7] (fun vc vj _ => ∃ j : Nat, j ≤ 8 ∧ vj = .int .i64 j ∧ vc = .int .u32 (N (nxs j t))) (fun _ vj _ => 8 - (intOf vj).toNat)
      case atStart => exact ⟨0, by omega, rfl, rfl⟩
      case round =>
        obtain ⟨j, hj, rfl, rfl⟩ := hrel
        by_cases hl8 : j < 8
        · have hn := nxs_succ j t
          generalize nxs j t = y at *
          have h1 := N_and1 y
          have h2 := N_sr1 y
          have h3 := N_dvs (y >>> 1)
          cases hc : y.getLsbD 0
          · rw [hc] at h1
            simp only [Bool.false_eq_true, if_false] at h1
            have HN := Lib.hid (hn.trans (nx_false hc))
            clear hn hc
            go_wp2_with fail
            go_round
            case rel => exact ⟨j + 1, by omega, by go_num, by rw [HN.out]⟩
            case measure => simp [intOf]; omega
          · rw [hc] at h1
            simp only [if_true] at h1
            have HN := Lib.hid (hn.trans (nx_true hc))
            clear hn hc
            go_wp2_with fail
            go_round
            case rel => exact ⟨j + 1, by omega, by go_num, by rw [HN.out]⟩
            case measure => simp [intOf]; omega
        · have : j = 8 := by omega
          subst this
          clear hl8
          go_wp2_with fail
          go_round
          case rel => exact ⟨k + 1, by omega, by go_num, by rw [HST.out]⟩
          case measure => simp [intOf]; omega
    · have : k = l.length := by omega
      subst this
      clear hlt
      rw [List.take_length]
      go_wp2_with fail
      go_ret
      exact ⟨rfl, rfl⟩
end
end Go.Proofs.YtpfckamobjcdhabDoor
