/- Contract: sum.spread. -/
import Derived.Test.YtepeloenijlnhaaDoorProg
import Derived.Test.YtepeloenijlnhaaDoorTurn
import Derived.Test.YtepeloenijlnhaaDoorMem
import Derived.Test.YtepeloenijlnhaaDoorSha
import Derived.WalkSpells
import Derived.Lib.Hide
import Derived.Deep.QuietTactic
import Derived.BigQuiet
import Derived.StillTailTactics
namespace Go.Proofs.YtepeloenijlnhaaDoor
open Go.RowKit
section
attribute [local go_sem] N_and N_or N_xor N_add N_of_B N_shl24 N_shl16 N_shl8 
set_option maxHeartbeats 1000000 in
set_option maxRecDepth 100000 in
theorem spread_any (blk : List (BitVec 8)) (hb : blk.length = 64) (A : Addr) (cap : Nat) (hcap : 64 ≤ cap) (w : World)
    (hA : ∀ j u, (blk.map u8v)[j]? = some u → w.cell? (A.add j) = some u) (hlA : A.block < w.heap.size) :
    Calls Tryd.prog 90 #[.slice (some A) 64 cap] w fun e w' => e = .returned (.agg ((words blk 64).map u32v).toArray) ∧ Below w.heap.size w w' := by
  have sh3 := N_sr3
  have sh10 := N_sr10
  have HA := Lib.hid hA
  clear hA
  have Hb := Lib.hid hb
  clear hb
  go_enter Tryd.func90, Tryd.ntmps90
  go_wp2_with fail
  generalize hw0 : (w.alloc _).alloc _ = W0
  have h2 : Has W0 w.heap.size 131 (zrow []) := by
    subst hw0; rw [zrow_nil]; exact (Has.made' _ _ _ _ rfl).alloc _
  have h3 : Has W0 (w.heap.size + 1) 131 (zrow []) := by
    subst hw0; rw [zrow_nil]; exact Has.made1 _ _ _ _ _ rfl
  have hb0 : Below w.heap.size w W0 := by
    subst hw0; exact ((Below.refl _ _).alloc (Nat.le_refl _) _).alloc (by simp) _
  clear hw0
  go_loopw [11] (fun i wr => ∃ k : Nat, k ≤ 16 ∧ i = .int .i64 k ∧ Below w.heap.size w wr ∧ Has wr w.heap.size 131 (zrow []) ∧ Has wr (w.heap.size + 1) 131 (zrow (words blk k)))
    (fun i _ => 16 - (intOf i).toNat)
  case atStart => exact ⟨0, by omega, rfl, hb0, h2, h3⟩
  case round =>
    clear h2 h3 hb0
    rename_i wr
    obtain ⟨k, hk, rfl, hbr, h2, h3⟩ := hrel
    by_cases hlt : k < 16
    · have e4 : 4 * k + 4 - 4 * k = 4 := by omega
      have hg (i : Nat) (hi : i < 4) : wr.cell? ((A.add (4 * k)).add i) = some (.int .u8 (B (at8 blk (4 * k + i)))) := by
        have hA := (Sees.keep (b := w.heap.size) (p := some A) (l := blk.map u8v) (fun _ => ⟨A, rfl, hlA, HA.out⟩) hbr)
        have hl := Hb.out
        obtain ⟨a, ha, _, hc⟩ := hA (by simp; omega)
        injection ha with ha
        subst ha
        rw [add_add]
        exact hc _ _ (at8_of _ _ (by omega))
      have c0 : wr.cell? (A.add (4 * k)) = some (.int .u8 (B (at8 blk (4 * k)))) := hg 0 (by omega)
      have c1 : wr.cell? { block := (A.add (4 * k)).block, off := (A.add (4 * k)).off + 1 } = some (.int .u8 (B (at8 blk (4 * k + 1)))) := hg 1 (by omega)
      have c2 : wr.cell? { block := (A.add (4 * k)).block, off := (A.add (4 * k)).off + 2 } = some (.int .u8 (B (at8 blk (4 * k + 2)))) := hg 2 (by omega)
      have c3 : wr.cell? { block := (A.add (4 * k)).block, off := (A.add (4 * k)).off + 3 } = some (.int .u8 (B (at8 blk (4 * k + 3)))) := hg 3 (by omega)
      clear hg
      have hk64 : (k : Int) < 64 := by omega
      have hl0 := words_length blk k
      have cw := h3.cell k
      have cf := h3.free k
      have hz : (zrow (words blk k))[k]? = some (.int .u32 0) := zrow_get0 _ _ (by omega) (by omega)
      rw [hz] at cw
      have hl := Lib.hid hl0
      clear hz hl0
      go_wp2
      go_still_tail 24, (by kernel_rfl)
      go_wp2
      go_roundw
      case rel =>
        refine ⟨k + 1, by omega, by go_num, (hbr.setCell (by simp) _).drew, h2.drew.off (by simp) _, ?_⟩
        have := (h3.put k (u32v (wordAt blk k))).drew
        rw [zrow_put _ _ k hl.out (by omega)] at this
        rw [words_lo _ _ hlt]
        exact this
      case measure => simp [intOf]; omega
    · have : k = 16 := by omega
      subst this
      clear hlt
      rw [show ((16 : Nat) : Int) = 16 from rfl]
      go_wp2
      go_loopw [6] (fun i wr => ∃ k : Nat, 16 ≤ k ∧ k ≤ 64 ∧ i = .int .i64 k ∧ Below w.heap.size w wr ∧ Has wr w.heap.size 131 (zrow []) ∧ Has wr (w.heap.size + 1) 131 (zrow (words blk k)))
        (fun i _ => 64 - (intOf i).toNat)
      case atStart => exact ⟨16, by omega, by omega, rfl, hbr, h2, h3⟩
      case round =>
        clear h2 h3 hbr
        rename_i wr2
        obtain ⟨k, hk1, hk2, rfl, hbr, h2, h3⟩ := hrel
        by_cases hlt : k < 64
        · have k1 : (15 : Int) ≤ (k : Int) := by omega
          have k2 : (k : Int) - 2 < 64 := by omega
          have k3 : (0 : Int) ≤ (k : Int) - 15 := by omega
          have k4 : (0 : Int) ≤ (k : Int) - 2 := by omega
          have k5 : (k : Int) - 15 < 64 := by omega
          have k6 : (0 : Int) ≤ (k : Int) - 16 := by omega
          have k7 : (0 : Int) ≤ (k : Int) - 7 := by omega
          have k8 : (k : Int) - 16 < 64 := by omega
          have k9 : (k : Int) - 7 < 64 := by omega
          have hl0 := words_length blk k
          have r15 := h3.cellv (zrow_get (words blk k) (k - 15) (by omega))
          have r2 := h3.cellv (zrow_get (words blk k) (k - 2) (by omega))
          have hl := Lib.hid hl0
          clear hl0
          go_wp2_with fail
          go_quiet (fail)
          clear r15 r2
          replace hbr := below_drewN hbr nq
          replace h2 := h2.drewN nq
          replace h3 := h3.drewN nq
          generalize wr.drewN nq = wq at hbr h2 h3 ⊢
          have r16 := h3.cellv (zrow_get (words blk k) (k - 16) (by rw [hl.out]; omega))
          have r7 := h3.cellv (zrow_get (words blk k) (k - 7) (by rw [hl.out]; omega))
          have cw := h3.cellv (zrow_get0 (words blk k) k (by rw [hl.out]; omega) (by omega))
          have cf := h3.free k
          go_wp2_with fail
          refine (rot_any _ 7 (by decide) _ rfl _).mono ?_
          rintro e w' ⟨rfl, rfl⟩
          go_wp2_with fail
          refine (rot_any _ 18 (by decide) _ rfl _).mono ?_
          rintro e w' ⟨rfl, rfl⟩
          go_wp2_with fail
          refine (rot_any _ 17 (by decide) _ rfl _).mono ?_
          rintro e w' ⟨rfl, rfl⟩
          go_wp2_with fail
          refine (rot_any _ 19 (by decide) _ rfl _).mono ?_
          rintro e w' ⟨rfl, rfl⟩
          go_wp2_with fail
          have k10 : (16 : Int) ≤ (k : Int) := by omega
          have k11 : (7 : Int) ≤ (k : Int) := by omega
          have k12 : (k : Int) < 64 := by omega
          have s1 : IntKind.i64.wrap ((k : Int) - 16) = (k : Int) - 16 := IntWalk.i64_in _ (by omega)
          have s2 : IntKind.i64.wrap ((k : Int) - 7) = (k : Int) - 7 := IntWalk.i64_in _ (by omega)
          have s3 : ((k : Int) - 16).toNat = k - 16 := by omega
          have s4 : ((k : Int) - 7).toNat = k - 7 := by omega
          go_still_tail 14, (by kernel_rfl)
          clear s1 s2 s3 s4
          go_wp2
          go_roundw
          case rel =>
            refine ⟨k + 1, by omega, by omega, by go_num, (hbr.setCell (by simp) _).drew, (h2.off (by simp) _).drew, ?_⟩
            have := (h3.put k (u32v (at32 (words blk k) (k - 16) + low (at32 (words blk k) (k - 15)) + at32 (words blk k) (k - 7) + high (at32 (words blk k) (k - 2))))).drew
            rw [zrow_put _ _ k hl.out (by omega)] at this
            rw [words_hi _ _ hk1]
            exact this
          case measure => simp [intOf]; omega
        · have : k = 64 := by omega
          subst this
          clear hlt
          have hfull : zrow (words blk 64) = (words blk 64).map u32v := zrow_full _ (words_length _ _)
          rw [hfull] at h3
          clear hfull
          go_wp2_with (first
            | (refine wpList_load_row rfl 131 _ rfl (w.heap.size + 1) rfl 131 _ (0, 0) _ h3 Tryd.underlying131 rfl (by kernel_rfl) ?_)
            | (refine wpList_store_row rfl 131 _ _ rfl w.heap.size _ rfl rfl 131 _ h2 (by kernel_rfl) (by simp [zrow, words_length]) (u32v_one _) ?_))
          refine bodyPost_ret (v := .agg ((words blk 64).map u32v).toArray) ?_ rfl ⟨rfl, below_row hbr (Nat.le_refl _) _⟩
          refine results_cell_row rfl _ _ w.heap.size 131 _ (0, 0) _ rfl ?_ Tryd.underlying131 rfl (by kernel_rfl)
          exact h2.rowl _
end
end Go.Proofs.YtepeloenijlnhaaDoor
