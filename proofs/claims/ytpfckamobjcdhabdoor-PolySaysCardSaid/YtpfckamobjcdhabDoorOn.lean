/- Contracts: poly.On, Of. Conditions: the table of rests as laid; the bytes lie in older memory. -/
import Derived.Test.YtpfckamobjcdhabDoorJoin
import Derived.Test.YtpfckamobjcdhabDoorMem
namespace Go.Proofs.YtpfckamobjcdhabDoor
open Go.RowKit
def u8v (x : BitVec 8) : Value := .int .u8 (B x)
def u32v (x : BitVec 32) : Value := .int .u32 (N x)
def at8 (l : List (BitVec 8)) (i : Nat) : BitVec 8 := l.getD i 0
theorem at8_of (l : List (BitVec 8)) (i : Nat) (h : i < l.length) : (l.map u8v)[i]? = some (.int .u8 (B (at8 l i))) := by
  rw [List.getElem?_map, List.getElem?_eq_getElem h]
  simp [at8, u8v, List.getD_eq_getElem?_getD, List.getElem?_eq_getElem h]
theorem take_at8 (l : List (BitVec 8)) (k : Nat) (h : k < l.length) : l.take (k + 1) = l.take k ++ [at8 l k] := by
  rw [List.take_succ_eq_append_getElem h]
  simp [at8, List.getD_eq_getElem?_getD, List.getElem?_eq_getElem h]
/-- The package-level table of rests, as the program lays it. -/
def Rests (w : World) : Prop := 2 < w.heap.size ∧ ∀ i, i < 16 → w.cell? ⟨2, i, none⟩ = some (.int .u32 (N (restRow.getD i 0#32)))
theorem Rests.keep {w w' : World} {b : Nat} (h : Rests w) (hb : Below b w w') (h1 : 2 < b) : Rests w' :=
  ⟨Nat.lt_of_lt_of_le h.1 hb.size, fun i hi => (hb.cell h1).trans (h.2 i hi)⟩
theorem nib (c : BitVec 32) : ∃ n : Nat, n < 16 ∧ bits .and .u32 (N c) 15 = (n : Int) ∧ bits .xor .u32 (N (c >>> 4)) (N (restRow.getD n 0#32)) = N (nxs 4 c) := by
  refine ⟨(c &&& 15#32).toNat, and_lt c, N_and c 15#32, ?_⟩
  rw [N_xor, nibble]
theorem on_step (s : BitVec 32) (l : List (BitVec 8)) (k : Nat) (h : k < l.length) : crcS s (l.take (k + 1)) = nxs 4 (nxs 4 (crcS s (l.take k) ^^^ byte32 (at8 l k))) := by
  rw [take_at8 l k h, crcS_snoc, ← nxs_add]
section
attribute [local go_sem] N_not N_not' u32_signed
set_option maxHeartbeats 1000000 in
theorem on_any (c : BitVec 32) (l : List (BitVec 8)) (q : Option Addr) (cap : Nat) (w : World) (hs : Sees w w.heap.size q (l.map u8v)) (hl : l.length < 9223372036854775807) (hR : Rests w) :
    Calls Tryd.prog 19 #[.int .u32 (N c), .slice q l.length cap] w fun e w' => e = .returned (.int .u32 (N (crc c l))) ∧ w = w' := by
  have HS := Lib.hid hs
  have HR := Lib.hid hR
  clear hs hR
  go_enter Tryd.func19, Tryd.ntmps19
  go_wp2_with fail
  go_loop [0, 11] (fun vc vi => ∃ k : Nat, k ≤ l.length ∧ vi = .int .i64 k ∧ vc = .int .u32 (N (crcS (~~~c) (l.take k)))) (fun _ vi => l.length - (intOf vi).toNat)
  case atStart => exact ⟨0, by omega, rfl, rfl⟩
  case round =>
    obtain ⟨k, hk, rfl, rfl⟩ := hrel
    by_cases hlt : k < l.length
    · have hst := on_step (~~~c) l k hlt
      obtain ⟨a, rfl, _, hcell⟩ := HS.out (by simp; omega)
      have hx := hcell k _ (at8_of l k hlt)
      generalize at8 l k = x at *
      generalize crcS (~~~c) (l.take k) = s at *
      have hb := N_of_B x
      have hxo := N_xor s (w8 x)
      obtain ⟨t, ht⟩ : ∃ t, t = s ^^^ w8 x := ⟨_, rfl⟩
      have ht' : s ^^^ byte32 x = t := ht.symm
      rw [ht'] at hst
      rw [← ht] at hxo
      obtain ⟨n1, l1, a1, x1⟩ := nib t
      obtain ⟨n2, l2, a2, x2⟩ := nib (nxs 4 t)
      have s1 := N_sr4 t
      have s2 := N_sr4 (nxs 4 t)
      have c1 := HR.out.2 n1 l1
      have c2 := HR.out.2 n2 l2
      have HST := Lib.hid hst
      clear hst ht ht' hcell
      generalize restRow.getD n1 0#32 = r1 at *
      generalize restRow.getD n2 0#32 = r2 at *
      have m1 : (n1 : Int) < 16 := by omega
      have m2 : (n2 : Int) < 16 := by omega
      go_wp2_with fail
      go_round
      case rel => exact ⟨k + 1, by omega, by go_num, by rw [HST.out]⟩
      case measure => simp [intOf]; omega
    · have : k = l.length := by omega
      subst this
      clear hlt
      rw [List.take_length]
      go_wp2_with fail
      go_ret
      exact ⟨rfl, rfl⟩
end
/-- A slice of byte slices that reads as a list of lists. -/
def Parts (w : World) (b : Nat) (p : Option Addr) (ps : List (List (BitVec 8))) : Prop :=
  ∀ i, i < ps.length → ∃ a q c, p = some a ∧ a.block < b ∧ w.cell? (a.add i) = some (.slice q (ps.getD i []).length c) ∧ (ps.getD i []).length ≤ c ∧ Sees w b q ((ps.getD i []).map u8v)
theorem flatten_take (ps : List (List (BitVec 8))) (k : Nat) (h : k < ps.length) : (ps.take (k + 1)).flatten = (ps.take k).flatten ++ ps.getD k [] := by
  rw [List.take_succ_eq_append_getElem h, List.flatten_append]
  simp [List.getD_eq_getElem?_getD, List.getElem?_eq_getElem h]
theorem part_le (ps : List (List (BitVec 8))) (k : Nat) (h : k < ps.length) : (ps.getD k []).length ≤ ps.flatten.length := by
  have h1 := flatten_take ps k h
  have h2 : ((ps.take (k + 1)).flatten).length ≤ ps.flatten.length := by
    conv => rhs; rw [← List.take_append_drop (k + 1) ps, List.flatten_append, List.length_append]
    omega
  rw [h1, List.length_append] at h2; omega
set_option maxHeartbeats 1000000 in
theorem of_any (ps : List (List (BitVec 8))) (p : Option Addr) (cap : Nat) (w : World) (hP : Parts w w.heap.size p ps) (hn : ps.length < 9223372036854775807)
    (hb : ps.flatten.length < 9223372036854775807) (hR : Rests w) :
    Calls Tryd.prog 16 #[.slice p ps.length cap] w fun e w' => e = .returned (.int .u32 (N (crc 0#32 ps.flatten))) ∧ w = w' := by
  have HP := Lib.hid hP
  have HR := Lib.hid hR
  have Hb := Lib.hid hb
  clear hP hR hb
  go_enter Tryd.func16, Tryd.ntmps16
  go_wp2_with fail
  go_loop [3, 8] (fun vc vi => ∃ k : Nat, k ≤ ps.length ∧ vi = .int .i64 k ∧ vc = .int .u32 (N (crc 0#32 (ps.take k).flatten))) (fun _ vi => ps.length - (intOf vi).toNat)
  case atStart => exact ⟨0, by omega, rfl, by rw [List.take_zero, List.flatten_nil, crc_nil]; rfl⟩
  case round =>
    obtain ⟨k, hk, rfl, rfl⟩ := hrel
    by_cases hlt : k < ps.length
    · obtain ⟨a, q, c, rfl, hab, hcell, hc, hs⟩ := HP.out k hlt
      have hst := crc_append 0#32 (ps.take k).flatten (ps.getD k [])
      rw [← flatten_take ps k hlt] at hst
      have hle := part_le ps k hlt
      generalize ps.getD k [] = pk at *
      generalize crc 0#32 (ps.take k).flatten = cc at *
      have HC := Lib.hid (on_any cc pk q c w hs (by have := Hb.out; omega) HR.out)
      have HST := Lib.hid hst
      clear hst hle hs
      go_wp2_with ((with_reducible refine HC.out.mono ?_); rintro e w1 ⟨rfl, rfl⟩)
      go_round
      case rel => exact ⟨k + 1, by omega, by go_num, by rw [HST.out]⟩
      case measure => simp [intOf]; omega
    · have : k = ps.length := by omega
      subst this
      clear hlt
      rw [List.take_length]
      go_wp2_with fail
      go_ret
      exact ⟨rfl, rfl⟩
end Go.Proofs.YtpfckamobjcdhabDoor
