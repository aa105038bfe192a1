/- Contracts: sum.digit, sum.Parse. No condition. -/
import Derived.Test.YtgaphplndpdhaaaDoorOrs
import Derived.Test.YtgaphplndpdhaaaDoorText
import Derived.Test.YtgaphplndpdhaaaDoorXor
import Derived.Laws.ResultCell
namespace Go.Proofs.YtgaphplndpdhaaaDoor
open Go.RowKit
/-- What a digit of base sixteen counts, and whether it is one. -/
def digV (c : BitVec 8) : BitVec 8 := if 48 ≤ B c ∧ B c ≤ 57 then c - 48 else if 97 ≤ B c ∧ B c ≤ 102 then c - 97 + 10 else 0
def digOk (c : BitVec 8) : Bool := decide ((48 ≤ B c ∧ B c ≤ 57) ∨ (97 ≤ B c ∧ B c ≤ 102))
theorem dig_sub (c : BitVec 8) (h : 48 ≤ B c) : B c - 48 = B (c - 48) := by
  unfold B at *; rw [BitVec.toNat_sub]; have := c.isLt; simp; omega
theorem dig_sub2 (c : BitVec 8) (h : 97 ≤ B c) (h2 : B c ≤ 102) : B c - 97 + 10 = B (c - 97 + 10) := by
  unfold B at *; rw [BitVec.toNat_add, BitVec.toNat_sub]; have := c.isLt; simp; omega
theorem digit_any (c : BitVec 8) (w : World) :
    Calls Tryd.prog 22 #[.int .u8 (B c)] w fun e w' => e = .returned (.tuple #[.int .u8 (B (digV c)), .bool (digOk c)]) ∧ w = w' := by
  have hv : digV c = if 48 ≤ B c ∧ B c ≤ 57 then c - 48 else if 97 ≤ B c ∧ B c ≤ 102 then c - 97 + 10 else 0 := rfl
  have ho : digOk c = decide ((48 ≤ B c ∧ B c ≤ 57) ∨ (97 ≤ B c ∧ B c ≤ 102)) := rfl
  have s1 := dig_sub c
  have s2 := dig_sub2 c
  have hb0 : (0 : Int) ≤ B c := by unfold B; omega
  have hb1 : B c ≤ 255 := by unfold B; have := c.isLt; omega
  have hz : (0 : Int) = B 0 := rfl
  generalize digV c = v at *
  generalize digOk c = o at *
  generalize B c = n at *
  by_cases h1 : 48 ≤ n ∧ n ≤ 57
  · rw [if_pos h1] at hv
    rw [decide_eq_true (.inl h1)] at ho
    subst hv ho
    have e1 := Lib.hid (s1 h1.1)
    obtain ⟨h1, h2⟩ := h1
    clear s1 s2 hz
    go_enter Tryd.func22, Tryd.ntmps22
    go_wp2_with fail
    go_ret2
    exact ⟨congrArg (fun n => Ending.returned (.tuple #[.int .u8 n, .bool true])) e1.out, rfl⟩
  · by_cases h2 : 97 ≤ n ∧ n ≤ 102
    · rw [if_neg h1, if_pos h2] at hv
      rw [decide_eq_true (.inr h2)] at ho
      subst hv ho
      have e1 := Lib.hid (s2 h2.1 h2.2)
      have h3 : ¬ n ≤ 57 := by omega
      obtain ⟨h4, h5⟩ := h2
      have h6 : 48 ≤ n := by omega
      clear s1 s2 hz h1
      go_enter Tryd.func22, Tryd.ntmps22
      go_wp2_with fail
      go_ret2
      exact ⟨congrArg (fun n => Ending.returned (.tuple #[.int .u8 n, .bool true])) e1.out, rfl⟩
    · rw [if_neg h1, if_neg h2] at hv
      rw [decide_eq_false (by omega)] at ho
      subst hv ho
      have e1 := Lib.hid hz
      clear s1 s2 hz
      by_cases h3 : 48 ≤ n
      · have h4 : ¬ n ≤ 57 := by omega
        by_cases h5 : 97 ≤ n
        · have h6 : ¬ n ≤ 102 := by omega
          clear h1 h2
          go_enter Tryd.func22, Tryd.ntmps22
          go_wp2_with fail
          go_ret2
          exact ⟨congrArg (fun n => Ending.returned (.tuple #[.int .u8 n, .bool false])) e1.out, rfl⟩
        · clear h1 h2
          go_enter Tryd.func22, Tryd.ntmps22
          go_wp2_with fail
          go_ret2
          exact ⟨congrArg (fun n => Ending.returned (.tuple #[.int .u8 n, .bool false])) e1.out, rfl⟩
      · have h5 : ¬ 97 ≤ n := by omega
        clear h1 h2
        go_enter Tryd.func22, Tryd.ntmps22
        go_wp2_with fail
        go_ret2
        exact ⟨congrArg (fun n => Ending.returned (.tuple #[.int .u8 n, .bool false])) e1.out, rfl⟩
/-- The bytes that the first 2k digits tell; whether all of them are digits. -/
def digAt (t : List (BitVec 8)) (k : Nat) : BitVec 8 := (digV (at8 t (2 * k)) <<< 4) ||| digV (at8 t (2 * k + 1))
def digsTo (t : List (BitVec 8)) (k : Nat) : List (BitVec 8) := (List.range k).map (digAt t)
theorem digsTo_length (t : List (BitVec 8)) (k : Nat) : (digsTo t k).length = k := by simp [digsTo]
theorem digsTo_succ (t : List (BitVec 8)) (k : Nat) : digsTo t (k + 1) = digsTo t k ++ [digAt t k] := by simp [digsTo, List.range_succ]
theorem str_index (t : List (BitVec 8)) (k : Nat) (hk : k < t.length) (kd : IntKind) (w : World) :
    (Instr.index 9 (.string (strB t)) (.int kd (k : Int))).run Tryd.prog w = .ok (.int .u8 (B (at8 t k))) w := by
  have hs : (strB t).size = t.length := by simp [strB, ByteArray.size]
  rw [run_index_string (h := Tryd.underlying9), dif_pos ⟨by omega, by rw [hs]; omega⟩]
  have h0 : k < (strB t).data.size := by simp [strB, hk]
  have : (strB t)[((k : Int)).toNat]'(by rw [hs]; omega) = UInt8.ofBitVec (at8 t k) := by
    show (strB t).data[k]'h0 = _
    simp [strB, at8, List.getD_eq_getElem?_getD, List.getElem?_eq_getElem hk]
  rw [this]; rfl
theorem digit_good (c : BitVec 8) (h : digOk c = true) (w : World) :
    Calls Tryd.prog 22 #[.int .u8 (B c)] w fun e w' => e = .returned (.tuple #[.int .u8 (B (digV c)), .bool true]) ∧ w = w' :=
  (digit_any c w).mono fun e w' ⟨he, hw⟩ => ⟨by rw [he, h], hw⟩
theorem B_sl4 (x : BitVec 8) (yk : IntKind) : Op.shift .shl .u8 (B x) yk 4 = pure (.int .u8 (B (x <<< 4))) := by
  rw [shift_shl_any _ _ _ _ (by omega), show min ((4 : Int).toNat) IntKind.u8.bits = 4 from rfl, B_shl]
section
attribute [local go_sem] B_or
set_option maxHeartbeats 1000000 in
theorem parse_good (t : List (BitVec 8)) (ht : t.length = 64) (hd : ∀ j, j < 64 → digOk (at8 t j) = true) (w : World) :
    Calls Tryd.prog 7 #[.string (strB t)] w fun e w' => e = .returned (.tuple #[.agg ((digsTo t 32).map u8v).toArray, .bool true]) ∧ Below w.heap.size w w' := by
  obtain ⟨s, hs⟩ : ∃ s, s = strB t := ⟨_, rfl⟩
  have hsz : (s.size : Int) = 64 := by rw [hs]; simp [strB, ByteArray.size, ht]
  have hix : ∀ k : Nat, k < 64 → ∀ w', (Instr.index 9 (.string s) (.int .i64 (k : Int))).run Tryd.prog w' = .ok (.int .u8 (B (at8 t k))) w' := fun k hk w' => by
    rw [hs]; exact str_index t k (by omega) _ w'
  rw [← hs]
  have HIX := Lib.hid hix
  have HD := Lib.hid hd
  clear hix hd ht hs
  go_enter Tryd.func7, Tryd.ntmps7
  go_wp2_with fail
  generalize hw0 : (w.alloc _).alloc _ = w0
  have h2 : Has w0 w.heap.size 25 (brow 32 []) := by
    subst hw0; rw [brow_nil]; exact (Has.made' _ _ _ _ rfl).alloc _
  have h3 : Has w0 (w.heap.size + 1) 25 (brow 32 (digsTo t 0)) := by
    subst hw0
    have : brow 32 (digsTo t 0) = List.replicate 32 (.int .u8 0) := brow_nil 32
    rw [this]; exact Has.made1 _ _ _ _ _ rfl
  have hB : Below w.heap.size w w0 := by
    subst hw0; exact ((Below.refl _ _).alloc (Nat.le_refl _) _).alloc (by simp) _
  clear hw0
  go_loopw [14] (fun i wr => ∃ k : Nat, k ≤ 32 ∧ i = .int .i64 k ∧ Has wr w.heap.size 25 (brow 32 []) ∧ Has wr (w.heap.size + 1) 25 (brow 32 (digsTo t k)) ∧ Below w.heap.size w wr)
    (fun i _ => 32 - (intOf i).toNat)
  case atStart => exact ⟨0, by omega, rfl, h2, h3, hB⟩
  case round =>
    clear h2 h3 hB
    rename_i wr
    obtain ⟨k, hk, rfl, h2, h3, hB⟩ := hrel
    by_cases hlt : k < 32
    · have i1 := HIX.out (2 * k) (by omega)
      have i2 := HIX.out (2 * k + 1) (by omega)
      have d1 := Lib.hid (digit_good _ (HD.out (2 * k) (by omega)))
      have d2 := Lib.hid (digit_good _ (HD.out (2 * k + 1) (by omega)))
      have hat : digAt t k = (digV (at8 t (2 * k)) <<< 4) ||| digV (at8 t (2 * k + 1)) := rfl
      have Hat := Lib.hid hat
      have e1 : ((2 * k : Nat) : Int) = 2 * (k : Int) := by omega
      have e2 : ((2 * k + 1 : Nat) : Int) = 2 * (k : Int) + 1 := by omega
      rw [e1] at i1
      rw [e2] at i2
      clear hat e1 e2
      have hc := h3.cellv (brow_get0 32 (digsTo t k) k (by rw [digsTo_length]; omega) hlt)
      have hf := h3.free k
      have sh := B_sl4
      generalize at8 t (2 * k) = p at *
      generalize at8 t (2 * k + 1) = q at *
      go_wp2_with (first
        | (go_at_call 22; with_reducible refine (d1.out _).mono ?_; rintro e w' ⟨rfl, rfl⟩)
        | (go_at_call 22; with_reducible refine (d2.out _).mono ?_; rintro e w' ⟨rfl, rfl⟩))
      go_roundw
      case rel =>
        refine ⟨k + 1, by omega, by go_num, h2.off (by simp) _, ?_, hB.setCell (by simp) _⟩
        have := h3.put k (u8v (digV p <<< 4 ||| digV q))
        rw [brow_put 32 _ _ k (digsTo_length t k) hlt, ← Hat.out, ← digsTo_succ] at this
        rw [Hat.out] at this
        exact this
      case measure => simp [intOf]; omega
    · have : k = 32 := by omega
      subst this
      have hlen : ((digsTo t 32).map u8v).length = 32 := by rw [List.length_map, digsTo_length]
      rw [brow_full 32 _ (digsTo_length t 32)] at h3
      have HSZ : Hid ((Tryd.prog.info? 25).map (·.size) = some ((digsTo t 32).map u8v).toArray.size) := Lib.hid (by rw [sum_info]; simp [digsTo_length])
      have HSB : Hid ((brow 32 []).toArray.size = ((digsTo t 32).map u8v).toArray.size) := Lib.hid (by simp [brow, digsTo_length])
      clear hlen
      go_wp2_with (first
        | (refine wpList_load_row rfl 25 _ rfl (w.heap.size + 1) rfl 25 _ (0, 0) _ h3 Tryd.underlying25 rfl HSZ.out ?_)
        | (refine wpList_store_row rfl 25 _ _ rfl w.heap.size _ rfl rfl 25 _ h2 HSZ.out HSB.out (u8v_one _) ?_))
      refine bodyPost_ret (v := .tuple #[.agg ((digsTo t 32).map u8v).toArray, .bool true]) ?_ rfl ⟨rfl, below_row hB (by omega) _⟩
      have hrow := run_loadVar_row (P := Tryd.prog) (wr.setRow w.heap.size ((digsTo t 32).map u8v).toArray) w.heap.size 25 25 ((digsTo t 32).map u8v).toArray (0, 0) _ (h2.rowl _) Tryd.underlying25 rfl HSZ.out
      rw [results_cell_tmp rfl]
      simp [asAddr, hrow, Result.andThen]
end
end Go.Proofs.YtgaphplndpdhaaaDoor
