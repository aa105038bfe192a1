/- Contract: sum.mix. -/
import Derived.Test.YtepeloenijlnhaaDoorProg
import Derived.Test.YtepeloenijlnhaaDoorSpread
import Derived.Deep.DeepCutAuto
namespace Go.Proofs.YtepeloenijlnhaaDoor
open Go.RowKit
/-- The package-level table of the rounds' constants, as the program lays it. -/
def Keys (w : World) : Prop := 1 < w.heap.size ∧ ∀ i, i < 64 → w.cell? ⟨1, i, none⟩ = some (.int .u32 (N (at32 keys i)))
theorem Keys.keep {w w' : World} {b : Nat} (h : Keys w) (hb : Below b w w') (h1 : 1 < b) : Keys w' :=
  ⟨Nat.lt_of_lt_of_le h.1 hb.size, fun i hi => (hb.cell h1).trans (h.2 i hi)⟩
section
attribute [local go_sem] N_and N_or N_xor N_add N_not' u32_signed
set_option maxHeartbeats 1000000 in
set_option maxRecDepth 100000 in
theorem mix_any (s : St) (blk : List (BitVec 8)) (hb : blk.length = 64) (A : Addr) (cap : Nat) (hcap : 64 ≤ cap) (w : World)
    (hA : ∀ j u, (blk.map u8v)[j]? = some u → w.cell? (A.add j) = some u) (hlA : A.block < w.heap.size) (hK : Keys w) :
    Calls Tryd.prog 74 #[.agg #[.int .u32 (N s.a), .int .u32 (N s.b), .int .u32 (N s.c), .int .u32 (N s.d), .int .u32 (N s.e), .int .u32 (N s.f), .int .u32 (N s.g), .int .u32 (N s.h)], .slice (some A) 64 cap] w fun e w' =>
      e = .returned (.agg (mix s blk).vals.toArray) ∧ Below w.heap.size w w' := by
  have HA := Lib.hid hA
  clear hA
  have Hb := Lib.hid hb
  clear hb
  have HK := Lib.hid hK
  clear hK
  go_enter Tryd.func74, Tryd.ntmps74
  go_wp2_with fail
  generalize hw0 : (w.alloc _).alloc _ = W0
  have h2 : Has W0 w.heap.size 102 s.vals := by
    subst hw0; exact (Has.made' _ _ _ _ rfl).alloc _
  have h4 : Has W0 (w.heap.size + 1) 102 (List.replicate 8 (.int .u32 0)) := by
    subst hw0; exact Has.made1 _ _ _ _ _ rfl
  have hb0 : Below w.heap.size w W0 := by
    subst hw0; exact ((Below.refl _ _).alloc (Nat.le_refl _) _).alloc (by simp) _
  clear hw0
  refine (spread_any blk Hb.out A cap hcap _ (fun j u hu => (hb0.cell (by rw [add_block]; exact hlA)).trans (HA.out j u hu)) (Nat.lt_of_lt_of_le hlA hb0.size)).mono ?_
  rintro e w1 ⟨rfl, hb1⟩
  replace h2 := h2.keep hb1 h2.lt
  replace h4 := h4.keep hb1 h4.lt
  replace hb0 := hb0.trans (hb1.mono hb0.size)
  clear hb1
  have hz1 : w.heap.size + 1 < w1.heap.size := h4.lt
  go_wp2_with (refine wpList_store_row rfl 131 _ _ rfl w1.heap.size _ rfl rfl 131 _ (heap_alloc_new _ _) (by kernel_rfl) (by simp [words_length]) (u32v_one _) ?_)
  generalize hw2 : (w1.alloc _).setRow _ _ = w2
  have h5 : Has w2 w1.heap.size 131 ((words blk 64).map u32v) := by
    subst hw2; exact Has.rowl (Has.made _ _ _) _
  replace h2 : Has w2 w.heap.size 102 s.vals := by
    subst hw2; exact (h2.alloc _).offRow (by omega) _
  replace h4 : Has w2 (w.heap.size + 1) 102 (List.replicate 8 (.int .u32 0)) := by
    subst hw2; exact (h4.alloc _).offRow (by omega) _
  replace hb0 : Below w.heap.size w w2 := by
    subst hw2; exact below_row (hb0.alloc hb0.size _) hb0.size _
  clear hw2
  generalize w1.heap.size = g5 at *
  have a0 := h2.cellv (i := 0) (v := .int .u32 (N s.a)) rfl
  have a1 := h2.cellv (i := 1) (v := .int .u32 (N s.b)) rfl
  have a2 := h2.cellv (i := 2) (v := .int .u32 (N s.c)) rfl
  have a3 := h2.cellv (i := 3) (v := .int .u32 (N s.d)) rfl
  have a4 := h2.cellv (i := 4) (v := .int .u32 (N s.e)) rfl
  have a5 := h2.cellv (i := 5) (v := .int .u32 (N s.f)) rfl
  have a6 := h2.cellv (i := 6) (v := .int .u32 (N s.g)) rfl
  have a7 := h2.cellv (i := 7) (v := .int .u32 (N s.h)) rfl
  have H4 := Lib.hid h4
  have H2 := Lib.hid h2
  clear h4 h2
  go_quiet (fail)
  replace H2 := Lib.hid (H2.out.drewN nq)
  replace H4 := Lib.hid (H4.out.drewN nq)
  replace h5 := h5.drewN nq
  replace hb0 := below_drewN hb0 nq
  have b4 := H2.out.cellv (i := 4) (v := .int .u32 (N s.e)) rfl
  have b5 := H2.out.cellv (i := 5) (v := .int .u32 (N s.f)) rfl
  have b6 := H2.out.cellv (i := 6) (v := .int .u32 (N s.g)) rfl
  have b7 := H2.out.cellv (i := 7) (v := .int .u32 (N s.h)) rfl
  clear a0 a1 a2 a3 a4 a5 a6 a7
  generalize w2.drewN nq = w3 at *
  go_wp2_with fail
  go_quiet (fail)
  clear b4 b5 b6 b7
  replace H2 := Lib.hid (H2.out.drewN nq)
  replace H4 := Lib.hid (H4.out.drewN nq)
  replace h5 := h5.drewN nq
  replace hb0 := below_drewN hb0 nq
  generalize w3.drewN nq = w4 at *
  go_wp2_with fail
  go_loopw [6, 7, 8, 9, 10, 11, 12, 13, 37] (fun a b c d e f g h i wr => ∃ k : Nat, k ≤ 64 ∧ i = .int .i64 k ∧ a = .int .u32 (N (rounds blk s k).a) ∧ b = .int .u32 (N (rounds blk s k).b) ∧ c = .int .u32 (N (rounds blk s k).c) ∧
      d = .int .u32 (N (rounds blk s k).d) ∧ e = .int .u32 (N (rounds blk s k).e) ∧ f = .int .u32 (N (rounds blk s k).f) ∧ g = .int .u32 (N (rounds blk s k).g) ∧ h = .int .u32 (N (rounds blk s k).h) ∧
      Below w.heap.size w wr ∧ Has wr w.heap.size 102 s.vals ∧ Has wr (w.heap.size + 1) 102 (List.replicate 8 (.int .u32 0)) ∧ Has wr g5 131 ((words blk 64).map u32v))
    (fun _ _ _ _ _ _ _ _ i _ => 64 - (intOf i).toNat)
  case atStart => exact ⟨0, by omega, rfl, rfl, rfl, rfl, rfl, rfl, rfl, rfl, rfl, hb0, H2.out, H4.out, h5⟩
  case round =>
    clear H2 H4 h5 hb0
    rename_i wr
    obtain ⟨k, hk, rfl, rfl, rfl, rfl, rfl, rfl, rfl, rfl, rfl, hbr, h2, h4, h5⟩ := hrel
    have HR := Lib.hid (rounds_succ blk s k)
    by_cases hlt : k < 64
    · generalize rounds blk s k = t at *
      have k1 : (k : Int) < 64 := by omega
      have hw := h5.cellv (at32_of (words blk 64) k (by rw [words_length]; omega))
      have hkey := (HK.out.keep hbr (Nat.lt_of_lt_of_le HK.out.1 (Nat.le_refl _))).2 k hlt
      go_wp2_with fail
      go_quiet ((go_at_call 91; exact Calls.quiet_of_same (turn_q t.e 6 11 25 (by decide) (by decide) (by decide) _ _ _ rfl rfl rfl _)))
      go_wp2_with fail
      replace hbr := below_drewN hbr nq
      replace h2 := h2.drewN nq
      replace h4 := h4.drewN nq
      replace h5 := h5.drewN nq
      clear hw hkey
      generalize wr.drewN nq = wq at hbr h2 h4 h5 ⊢
      refine (turn_any t.a 2 13 22 (by decide) (by decide) (by decide) _ _ _ rfl rfl rfl _).mono ?_
      rintro e w' ⟨rfl, rfl⟩
      go_wp2_with fail
      go_roundw
      case rel =>
        refine ⟨k + 1, by omega, by go_num, ?_, ?_, ?_, ?_, ?_, ?_, ?_, ?_, hbr, h2, h4, h5⟩ <;> simp only [HR.out, St.round, roundT, roundU, turn3]
      case measure => simp [intOf]; omega
    · have : k = 64 := by omega
      subst this
      clear hlt
      rw [show ((64 : Nat) : Int) = 64 from rfl]
      generalize hm : rounds blk s 64 = t at *
      have Hm := Lib.hid hm
      clear hm
      have a0 := h2.cellv (i := 0) (v := .int .u32 (N s.a)) rfl
      have f0 := h2.free 0
      have a1 := h2.cellv (i := 1) (v := .int .u32 (N s.b)) rfl
      have f1 := h2.free 1
      have a2 := h2.cellv (i := 2) (v := .int .u32 (N s.c)) rfl
      have f2 := h2.free 2
      have a3 := h2.cellv (i := 3) (v := .int .u32 (N s.d)) rfl
      have f3 := h2.free 3
      have a4 := h2.cellv (i := 4) (v := .int .u32 (N s.e)) rfl
      have f4 := h2.free 4
      have a5 := h2.cellv (i := 5) (v := .int .u32 (N s.f)) rfl
      have f5 := h2.free 5
      have a6 := h2.cellv (i := 6) (v := .int .u32 (N s.g)) rfl
      have f6 := h2.free 6
      have a7 := h2.cellv (i := 7) (v := .int .u32 (N s.h)) rfl
      have f7 := h2.free 7
      have H5 := Lib.hid h5
      have H2 := Lib.hid h2
      have H4 := Lib.hid h4
      clear h2 h4 h5
      go_upto_region 21 with (fail)
      clear a0 f0 a1 f1 a2 f2 a3 f3 a4 f4 a5 f5 a6 f6 a7 f7 HR
      generalize hW : World.setCell _ _ _ = w9
      have h2 : Has w9 w.heap.size 102 (s.plus t).vals := by
        subst hW
        exact (((((((H2.out.put 0 _).put 1 _).put 2 _).put 3 _).put 4 _).put 5 _).put 6 _).put 7 _
      have h4 : Has w9 (w.heap.size + 1) 102 (List.replicate 8 (.int .u32 0)) := by
        subst hW
        exact (((((((H4.out.off (by simp) _).off (by simp) _).off (by simp) _).off (by simp) _).off (by simp) _).off (by simp) _).off (by simp) _).off (by simp) _
      replace hbr : Below w.heap.size w w9 := by
        subst hW
        exact (((((((hbr.setCell (by simp) _).setCell (by simp) _).setCell (by simp) _).setCell (by simp) _).setCell (by simp) _).setCell (by simp) _).setCell (by simp) _).setCell (by simp) _
      clear hW
      go_wp2_with (first
        | (refine wpList_load_row rfl 102 _ rfl w.heap.size rfl 102 _ (0, 0) _ h2 Tryd.underlying102 rfl (by kernel_rfl) ?_)
        | (refine wpList_store_row rfl 102 _ _ rfl (w.heap.size + 1) _ rfl rfl 102 _ h4 (by kernel_rfl) (by simp [St.vals, St.list]) (u32v_one _) ?_))
      refine bodyPost_ret (v := .agg (mix s blk).vals.toArray) ?_ rfl ⟨rfl, below_row hbr (by simp) _⟩
      have hmix : mix s blk = s.plus t := by rw [mix, Hm.out]
      rw [hmix]
      refine results_cell_row rfl _ _ (w.heap.size + 1) 102 _ (0, 0) _ rfl ?_ Tryd.underlying102 rfl (by kernel_rfl)
      exact h4.rowl _
end
end Go.Proofs.YtepeloenijlnhaaDoor
