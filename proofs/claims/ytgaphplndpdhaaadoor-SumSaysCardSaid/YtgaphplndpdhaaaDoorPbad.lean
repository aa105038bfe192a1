/- Contract: sum.Parse at a text that is no sum's. No condition. -/
import Derived.Test.YtgaphplndpdhaaaDoorRtext
import Derived.Deep.DeepCutAuto
namespace Go.Proofs.YtgaphplndpdhaaaDoor
open Go.RowKit
def zrw : Array Value := #[Value.int IntKind.u8 0, Value.int IntKind.u8 0, Value.int IntKind.u8 0, Value.int IntKind.u8 0, Value.int IntKind.u8 0, Value.int IntKind.u8 0, Value.int IntKind.u8 0, Value.int IntKind.u8 0, Value.int IntKind.u8 0, Value.int IntKind.u8 0, Value.int IntKind.u8 0, Value.int IntKind.u8 0, Value.int IntKind.u8 0, Value.int IntKind.u8 0, Value.int IntKind.u8 0, Value.int IntKind.u8 0, Value.int IntKind.u8 0, Value.int IntKind.u8 0, Value.int IntKind.u8 0, Value.int IntKind.u8 0, Value.int IntKind.u8 0, Value.int IntKind.u8 0, Value.int IntKind.u8 0, Value.int IntKind.u8 0, Value.int IntKind.u8 0, Value.int IntKind.u8 0, Value.int IntKind.u8 0, Value.int IntKind.u8 0, Value.int IntKind.u8 0, Value.int IntKind.u8 0, Value.int IntKind.u8 0, Value.int IntKind.u8 0]
theorem zrw_eq : zrw = (zero32.map u8v).toArray := rfl
theorem zrw_size : (Tryd.prog.info? 25).map (·.size) = some zrw.size := by rw [sum_info]; rfl
theorem zrw_len : (brow 32 []).toArray.size = zrw.size := rfl
theorem zrw_one : zrw.all (·.oneCell') = true := by kernel_rfl
set_option maxHeartbeats 1000000 in
theorem parse_bad1 (t : List (BitVec 8)) (ht : t.length ≠ 64) (w : World) :
    Calls Tryd.prog 7 #[.string (strB t)] w fun e w' => e = .returned (.tuple #[.agg zrw, .bool false]) ∧ Below w.heap.size w w' := by
  obtain ⟨s, hs⟩ : ∃ s, s = strB t := ⟨_, rfl⟩
  have hsz : ¬ (s.size : Int) = 64 := by rw [hs]; simp [strB, ByteArray.size]; omega
  rw [← hs]
  clear hs ht
  go_enter Tryd.func7, Tryd.ntmps7
  go_upto_region 3 with fail
  generalize hw0 : (w.alloc _).alloc _ = w0
  have h2 : Has w0 w.heap.size 25 (brow 32 []) := by
    subst hw0; rw [brow_nil]; exact (Has.made' _ _ _ _ rfl).alloc _
  have hB : Below w.heap.size w w0 := by
    subst hw0; exact ((Below.refl _ _).alloc (Nat.le_refl _) _).alloc (by simp) _
  clear hw0
  go_wp2_with (refine wpList_store_row rfl 25 _ _ rfl w.heap.size zrw rfl rfl 25 _ h2 zrw_size zrw_len zrw_one ?_)
  refine bodyPost_ret (v := .tuple #[.agg zrw, .bool false]) ?_ rfl ⟨rfl, below_row hB (by omega) _⟩
  have h3 := h2.row zrw
  have hrow := run_loadVar_row (P := Tryd.prog) (w0.setRow w.heap.size zrw) w.heap.size 25 25 zrw (0, 0) _ h3 Tryd.underlying25 rfl zrw_size
  rw [results_cell_tmp rfl]
  generalize zrw = zz at *
  simp [asAddr, hrow, Result.andThen]
section
attribute [local go_sem] B_or
set_option maxHeartbeats 1000000 in
theorem parse_bad2 (t : List (BitVec 8)) (ht : t.length = 64) (K : Nat) (hK : K < 32) (hd : ∀ j, j < 2 * K → digOk (at8 t j) = true) (hbad : digOk (at8 t (2 * K)) = false ∨ digOk (at8 t (2 * K + 1)) = false) (w : World) :
    Calls Tryd.prog 7 #[.string (strB t)] w fun e w' => e = .returned (.tuple #[.agg zrw, .bool false]) ∧ Below w.heap.size w w' := by
  obtain ⟨s, hs⟩ : ∃ s, s = strB t := ⟨_, rfl⟩
  have hsz : (s.size : Int) = 64 := by rw [hs]; simp [strB, ByteArray.size, ht]
  have hix : ∀ k : Nat, k < 64 → ∀ w', (Instr.index 9 (.string s) (.int .i64 (k : Int))).run Tryd.prog w' = .ok (.int .u8 (B (at8 t k))) w' := fun k hk w' => by
    rw [hs]; exact str_index t k (by omega) _ w'
  rw [← hs]
  have HIX := Lib.hid hix
  have HD := Lib.hid hd
  have HBad := Lib.hid hbad
  clear hix hd ht hs hbad
  go_enter Tryd.func7, Tryd.ntmps7
  go_wp2_with fail
  generalize hw0 : (w.alloc _).alloc _ = w0
  have h2 : Has w0 w.heap.size 25 (brow 32 []) := by
    subst hw0; rw [brow_nil]; exact (Has.made' _ _ _ _ rfl).alloc _
  have h3 : Has w0 (w.heap.size + 1) 25 (brow 32 (digsTo t 0)) := by
    subst hw0
    have : brow 32 (digsTo t 0) = List.replicate 32 (.int .u8 0) := brow_nil 32
    rw [this]; exact Has.made1 _ _ _ _ _ rfl
  have hB : Below w.heap.size w w0 := by
    subst hw0; exact ((Below.refl _ _).alloc (Nat.le_refl _) _).alloc (by simp) _
  clear hw0
  go_loopw [14] (fun i wr => ∃ k : Nat, k ≤ K ∧ i = .int .i64 k ∧ Has wr w.heap.size 25 (brow 32 []) ∧ Has wr (w.heap.size + 1) 25 (brow 32 (digsTo t k)) ∧ Below w.heap.size w wr)
    (fun i _ => 32 - (intOf i).toNat)
  case atStart => exact ⟨0, by omega, rfl, h2, h3, hB⟩
  case round =>
    clear h2 h3 hB
    rename_i wr
    obtain ⟨k, hk, rfl, h2, h3, hB⟩ := hrel
    have hk32 : (k : Int) < 32 := by omega
    have i1 := HIX.out (2 * k) (by omega)
    have i2 := HIX.out (2 * k + 1) (by omega)
    have e1 : ((2 * k : Nat) : Int) = 2 * (k : Int) := by omega
    have e2 : ((2 * k + 1 : Nat) : Int) = 2 * (k : Int) + 1 := by omega
    rw [e1] at i1
    rw [e2] at i2
    clear e1 e2
    by_cases hlt : k < K
    · have d1 := Lib.hid (digit_good _ (HD.out (2 * k) (by omega)))
      have d2 := Lib.hid (digit_good _ (HD.out (2 * k + 1) (by omega)))
      have hat : digAt t k = (digV (at8 t (2 * k)) <<< 4) ||| digV (at8 t (2 * k + 1)) := rfl
      have Hat := Lib.hid hat
      clear hat
      have hc := h3.cellv (brow_get0 32 (digsTo t k) k (by rw [digsTo_length]; omega) (by omega))
      have hf := h3.free k
      have sh := B_sl4
      generalize at8 t (2 * k) = p at *
      generalize at8 t (2 * k + 1) = q at *
      go_wp2_with (first
        | (go_at_call 22; with_reducible refine (d1.out _).mono ?_; rintro e w' ⟨rfl, rfl⟩)
        | (go_at_call 22; with_reducible refine (d2.out _).mono ?_; rintro e w' ⟨rfl, rfl⟩))
      go_roundw
      case rel =>
        refine ⟨k + 1, by omega, by go_num, h2.off (by simp) _, ?_, hB.setCell (by simp) _⟩
        have := h3.put k (u8v (digV p <<< 4 ||| digV q))
        rw [brow_put 32 _ _ k (digsTo_length t k) (by omega), ← Hat.out, ← digsTo_succ] at this
        rw [Hat.out] at this
        exact this
      case measure => simp [intOf]; omega
    · have : k = K := by omega
      subst this
      have d1 := Lib.hid (digit_any (at8 t (2 * k)))
      have d2 := Lib.hid (digit_any (at8 t (2 * k + 1)))
      have hb := HBad.out
      clear h3 HBad
      generalize at8 t (2 * k) = p at *
      generalize at8 t (2 * k + 1) = q at *
      generalize digOk p = o1 at *
      generalize digOk q = o2 at *
      have hb2 : (o1 = false ∧ o2 = false) ∨ (o1 = false ∧ o2 = true) ∨ (o1 = true ∧ o2 = false) := by
        cases o1 <;> cases o2 <;> simp at hb ⊢
      clear hb
      rcases hb2 with ⟨rfl, rfl⟩ | ⟨rfl, rfl⟩ | ⟨rfl, rfl⟩
      all_goals
        go_wp2_with (first
          | (go_at_call 22; with_reducible refine (d1.out _).mono ?_; rintro e w' ⟨rfl, rfl⟩)
          | (go_at_call 22; with_reducible refine (d2.out _).mono ?_; rintro e w' ⟨rfl, rfl⟩)
          | (refine wpList_store_row rfl 25 _ _ rfl w.heap.size zrw rfl rfl 25 _ h2 zrw_size zrw_len zrw_one ?_))
        refine bodyPost_ret (v := .tuple #[.agg zrw, .bool false]) ?_ rfl ⟨rfl, below_row hB (by omega) _⟩
        have h3 := h2.row zrw
        have hrow := run_loadVar_row (P := Tryd.prog) _ w.heap.size 25 25 zrw (0, 0) _ h3 Tryd.underlying25 rfl zrw_size
        rw [results_cell_tmp rfl]
        generalize zrw = zz at *
        simp [asAddr, hrow, Result.andThen]
end
end Go.Proofs.YtgaphplndpdhaaaDoor
