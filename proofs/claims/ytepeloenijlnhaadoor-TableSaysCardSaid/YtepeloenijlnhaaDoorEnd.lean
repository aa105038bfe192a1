/- Contract: (*sum.hash).end: the sum of what was taken in. Condition: fewer than 2^60 bytes in all. -/
import Derived.Test.YtepeloenijlnhaaDoorAdd
import Derived.Test.YtepeloenijlnhaaDoorPad
namespace Go.Proofs.YtepeloenijlnhaaDoor
open Go.RowKit
theorem u64_shr (n k : Nat) (hk : k < 8) : Op.shift .shr .u64 (n : Int) .i64 (8 * (k : Int)) = pure (.int .u64 ((n / 2 ^ (8 * k) : Nat) : Int)) := by
  rw [shift_shr_any _ _ _ _ (by omega)]
  have : min ((8 * (k : Int)).toNat) IntKind.u64.bits = 8 * k := by show min _ 64 = _; omega
  rw [this]; simp
theorem B_wrap (n : Nat) : IntKind.u8.wrap (n : Int) = B (BitVec.ofNat 8 n) := by
  rw [IntKind.wrap_u8']; unfold B; simp

def tzero : List Value := List.replicate 128 (.int .u8 0)
theorem tzero_run (w : World) : (zeroValue 119).run Tryd.prog w = .ok (.agg tzero.toArray) w := by kernel_rfl
set_option maxHeartbeats 1000000 in
set_option maxRecDepth 100000 in
theorem end_any (g : Nat) (m : List (BitVec 8)) (w : World) (hH : Holds w g m) (hb : m.length < 1152921504606846976) (hL : Laid w) (h1 : 1 < g) :
    Calls Tryd.prog 64 #[.pointer (some ⟨g, 0, none⟩)] w fun e w' => e = .returned (.agg ((sha m).map u8v).toArray) ∧ Below g w w' := by
  obtain ⟨buf, hbl, hH, hbr⟩ := hH
  have hg := hH.lt
  have hd64 : m.length % 64 < 64 := Nat.mod_lt _ (by omega)
  have hsz := padSize_or (m.length % 64)
  have hsz2 := padSize_le (m.length % 64) hd64
  have hs9 : 64 < (m.length % 64) + 9 ↔ padSize (m.length % 64) = 128 := by unfold padSize; split <;> omega
  obtain ⟨sz, hszd⟩ : ∃ sz, sz = padSize (m.length % 64) := ⟨_, rfl⟩
  rw [← hszd] at hsz hsz2 hs9
  have Hsz := Lib.hid hszd
  clear hszd
  obtain ⟨hd, hhd⟩ : ∃ hd, hd = m.length % 64 := ⟨_, rfl⟩
  rw [← hhd] at hH hbr hd64 hsz2 hs9
  have Hhd := Lib.hid hhd
  clear hhd
  have HL := Lib.hid hL
  have Hbl := Lib.hid hbl
  have Hbr := Lib.hid hbr
  have Hs9 := Lib.hid hs9
  have c72 := hH.cellv (hv_held _ _ _ _ hbl)
  have hz := tzero_run
  clear hL hbl hbr hs9
  go_enter Tryd.func64, Tryd.ntmps64
  go_upto_region 3 with (fail)
  generalize hw0 : (w.alloc _).alloc _ = w0
  have hR : Has w0 w.heap.size 41 (brow 32 []) := by
    subst hw0; rw [brow_nil]; exact (Has.made' _ _ _ _ rfl).alloc _
  have hT : Has w0 (w.heap.size + 1) 119 (brow 128 []) := by
    subst hw0; rw [brow_nil]; exact Has.made1 _ _ _ tzero.toArray _ rfl
  have hG : Has w0 g 105 (hv (stateOf m) buf (hd : Int) (m.length : Int)) := by subst hw0; exact (hH.alloc _).alloc _
  have hB : Below g w w0 := by
    subst hw0; exact ((Below.refl _ _).alloc (Nat.le_of_lt hg) _).alloc (by simp; omega) _
  clear hw0 c72 hH hz
  have hgR : g < w.heap.size := hg
  have c72 := hG.cellv (hv_held _ _ _ _ Hbl.out)
  have HG := Lib.hid hG
  have HR := Lib.hid hR
  have HT := Lib.hid hT
  clear hG hR hT
  go_upto_if 14 with (fail)
  go_cut [4] (fun v wc => v = .int .i64 (sz : Int) ∧ wc = w0)
  case first =>
    by_cases h128 : 64 < hd + 9
    · have K1 : (64 : Int) < (hd : Int) + 1 + 8 := by omega
      have e := Hs9.out.1 h128
      have E := Lib.hid e
      clear e
      go_wp2_with fail
      go_meet
      exact ⟨by rw [E.out]; rfl, rfl⟩
    · have K1 : ¬ (64 : Int) < (hd : Int) + 1 + 8 := by omega
      have e : sz = 64 := by have := Hs9.out; omega
      have E := Lib.hid e
      clear e
      go_wp2_with fail
      go_meet
      exact ⟨by rw [E.out]; rfl, rfl⟩
  case rest =>
    obtain ⟨rfl, rfl⟩ := hcut
    go_wp2_with fail
    have K1 : (hd : Int) ≤ 64 := by omega
    have K2 : hd ≤ 64 := by omega
    go_still_tail 9, (by kernel_rfl)
    change wpList _ _ _ _ _ wc.drew
    clear c72
    have hrl : (restOf m).length = hd := by rw [restOf_length, Hhd.out]
    obtain ⟨cs, hcs⟩ : ∃ cs, cs = (restOf m).map u8v := ⟨_, rfl⟩
    have hcl : cs.length = hd := by rw [hcs, List.length_map, hrl]
    have HN : Hid (cs.length = Nat.min hd 128) := Lib.hid (by rw [hcl]; exact (Nat.min_eq_left (by omega)).symm)
    have HPO : Hid (0 < cs.length → (some ⟨w.heap.size + 1, 0, none⟩ : Option Addr) = some ⟨w.heap.size + 1, 0, none⟩ ∧ ∃ ad, (some ⟨g, 8, none⟩ : Option Addr) = some ad ∧ ∀ j v, cs[j]? = some v → wc.drew.cell? (ad.add j) = some v) := Lib.hid (by
      intro h0
      refine ⟨rfl, _, rfl, fun j v hv => ?_⟩
      have hj : j < hd := by rw [← hcl]; exact (List.getElem?_eq_some_iff.1 hv).1
      rw [Addr.add_mid]
      refine (HG.out.drew.cell (8 + j)).trans ((hv_buf _ _ _ _ j (by rw [Hbl.out]; omega)).trans ?_)
      rw [hcs, ← Hbr.out, List.map_take, List.getElem?_take, if_pos hj] at hv
      exact hv)
    have HF : Hid (0 + cs.length ≤ (brow 128 []).length) := Lib.hid (by rw [hcl, brow_length _ _ (by simp)]; omega)
    have HO : Hid (∀ v ∈ cs, v.oneCell' = true) := Lib.hid (by
      intro v hv
      rw [hcs] at hv
      obtain ⟨x, _, rfl⟩ := List.mem_map.1 hv
      rfl)
    have Hcs := Lib.hid hcs
    have Hrl := Lib.hid hrl
    clear hcs hcl hrl
    go_upto_region 6 with
      (refine wpList_copy_splice rfl (.tmp 15) (.tmp 23) 83 83 rfl 5 Tryd.underlying83 (by kernel_rfl) _ _ _ _ _ _ rfl rfl (w.heap.size + 1) 0 (brow 128 []) 119 HT.out.drew cs HN.out HPO.out HF.out HO.out (w.heap.size + 1) wc.drew (Below.refl _ _) (Nat.le_refl _) ?_
       intro w4 h4 hB4
       have H4 : Hid (Has w4 (w.heap.size + 1) 119 (brow 128 (restOf m))) := Lib.hid (by
         have e := splice_brow 128 (restOf m)
         rw [← Hcs.out] at e
         rw [← e]
         exact h4.out)
       clear h4)
    replace HG := Lib.hid (HG.out.drew.keep hB4 (by omega))
    replace HR := Lib.hid (HR.out.drew.keep hB4 (by omega))
    replace hB := hB.drew.trans (hB4.mono (by omega))
    clear HN HPO HF HO Hcs HT hB4
    have c72 := HG.out.cellv (hv_held _ _ _ _ Hbl.out)
    have c73 := HG.out.cellv (hv_total _ _ _ _ Hbl.out)
    have ct := H4.out.cellv (brow_get0 128 (restOf m) hd (by rw [Hrl.out]; exact Nat.le_refl _) (by omega))
    have ft := H4.out.free hd
    go_upto_region 8 with (fail)
    generalize hW : World.setCell _ _ _ = w5
    have h5 : Has w5 (w.heap.size + 1) 119 ((padTo m 0).map u8v) := by
      subst hW
      have := H4.out.put hd (u8v 0x80)
      rw [brow_put 128 _ _ hd Hrl.out (by omega), brow, ← padTo_zero] at this
      exact this
    have g5 : Has w5 g 105 (hv (stateOf m) buf (hd : Int) (m.length : Int)) := by subst hW; exact HG.out.off (by simp; omega) _
    have r5 : Has w5 w.heap.size 41 (brow 32 []) := by subst hW; exact HR.out.off (by simp) _
    have b5 : Below g w w5 := by subst hW; exact hB.setCell (by simp; omega) _
    clear hW H4 HG HR hB c72 c73 ct ft
    have hlb : 8 * m.length < 18446744073709551616 := by omega
    go_wp2_with fail
    go_loopw [35] (fun i wr => ∃ k : Nat, k ≤ 8 ∧ i = .int .i64 k ∧ Has wr (w.heap.size + 1) 119 ((padTo m k).map u8v) ∧ Has wr g 105 (hv (stateOf m) buf (hd : Int) (m.length : Int)) ∧ Has wr w.heap.size 41 (brow 32 []) ∧ Below g w wr)
      (fun i _ => 8 - (intOf i).toNat)
    case atStart => exact ⟨0, by omega, rfl, h5, g5, r5, b5⟩
    case round =>
      clear h5 g5 r5 b5
      rename_i wr
      obtain ⟨k, hk, rfl, hT, hG, hR, hB⟩ := hrel
      by_cases hlt : k < 8
      · obtain ⟨q, hq⟩ : ∃ q, q = 8 * m.length / 2 ^ (8 * k) := ⟨_, rfl⟩
        have hp := padTo_put m k hlt
        rw [← hq, ← Hsz.out] at hp
        have HP := Lib.hid hp
        have Hq := Lib.hid hq
        clear hq hp
        have ct := hT.cellv (at8_of (padTo m k) (sz - 1 - k) (by rw [padTo_length _ _ hk]; omega))
        have ft := hT.free (sz - 1 - k)
        have k1 : (k : Int) + 1 ≤ (sz : Int) := by omega
        have k2 : (sz : Int) - 1 - (k : Int) < 128 := by omega
        have k3 : (0 : Int) ≤ (sz : Int) - 1 - (k : Int) := by omega
        go_wp2_with fail
        go_roundw
        case rel =>
          refine ⟨k + 1, by omega, by go_num, ?_, hG.off (by simp; omega) _, hR.off (by simp) _, hB.setCell (by simp; omega) _⟩
          have := hT.put (sz - 1 - k) (u8v (BitVec.ofNat 8 q))
          rw [← List.map_set, HP.out] at this
          have e : (8 * (m.length : Int) / 2 ^ (8 * k) % 256) = B (BitVec.ofNat 8 q) := by
            unfold B; rw [Hq.out]; simp
          rw [e]
          exact this
        case measure => simp [intOf]; omega
      · have : k = 8 := by omega
        subst this
        clear hlt
        rw [show ((8 : Nat) : Int) = 8 from rfl]
        have hG0 : Has wr g 105 (hv (feed 0 (padded m) (stateOf m)) buf (hd : Int) (m.length : Int)) := hG
        go_wp2_with fail
        go_loopw [7] (fun i wr => ∃ j : Nat, 64 * j ≤ sz ∧ i = .int .i64 (64 * (j : Int)) ∧ Has wr (w.heap.size + 1) 119 ((padTo m 8).map u8v) ∧ Has wr g 105 (hv (feed j (padded m) (stateOf m)) buf (hd : Int) (m.length : Int)) ∧ Has wr w.heap.size 41 (brow 32 []) ∧ Below g w wr)
          (fun i _ => 128 - (intOf i).toNat)
        case atStart => exact ⟨0, by omega, rfl, hT, hG0, hR, hB⟩
        case round =>
          clear hT hG hR hB hG0
          rename_i wr2
          obtain ⟨j, hj, rfl, hT, hG, hR, hB⟩ := hrel
          by_cases hlt : 64 * j < sz
          · have hj2 : 64 * j + 64 ≤ sz := by omega
            have hbk := block_of_pad m j (by rw [← Hsz.out]; exact hj2)
            have hfe := feed_end j (padded m) (stateOf m)
            rw [← hbk] at hfe
            have HFE := Lib.hid hfe
            clear hbk hfe
            generalize hs : feed j (padded m) (stateOf m) = s at *
            have Hs := Lib.hid hs
            clear hs
            obtain ⟨bk, hbk⟩ : ∃ bk, bk = ((padTo m 8).drop (64 * j)).take 64 := ⟨_, rfl⟩
            rw [← hbk] at HFE
            have hbl : bk.length = 64 := by rw [hbk, List.length_take, List.length_drop, padTo_length _ _ (Nat.le_refl _)]; omega
            have HM := Lib.hid (mix_ex s bk hbl ⟨w.heap.size + 1, 64 * j, none⟩ (128 - 64 * j) (by omega) wr.drew
              (fun i u hu => by
                have hi : i < bk.length := by have := (List.getElem?_eq_some_iff.1 hu).1; simpa using this
                rw [Addr.add_mid]
                refine (hT.drew.cell (64 * j + i)).trans ?_
                rw [hbk, List.map_take, List.map_drop, List.getElem?_take, if_pos (by omega), List.getElem?_drop] at hu
                exact hu) (show w.heap.size + 1 < wr.heap.size from hT.lt) (HL.out.1.keep hB.drew h1))
            have Hbk := Lib.hid hbk
            have Hbl' := Lib.hid hbl
            clear hbk hbl
            have hgw := hG.lt
            have htw := hT.lt
            have k1 : 64 * (j : Int) < (sz : Int) := by omega
            have k2 : 64 * (j : Int) + 64 ≤ 128 := by omega
            have k3 : ¬ 128 = 64 * j := by omega
            have k4 : 64 * j + 64 - 64 * j = 64 := by omega
            have k5 : (0 : Int) ≤ (j : Int) := by omega
            have k7 : 64 * (j : Int) ≤ 64 := by omega
            have k8 : (0 : Int) ≤ 64 * (j : Int) := by omega
            have k9 : 64 * (j : Int) ≤ 64 * (j : Int) + 64 := by omega
            have t1 : (64 * (j : Int)).toNat = 64 * j := by omega
            have t2 : (64 * (j : Int) + 64).toNat = 64 * j + 64 := by omega
            have k6 : IntKind.i64.wrap (64 * (j : Int) + 64) = 64 * (j : Int) + 64 := IntWalk.i64_in _ (by omega)
            have a0 := hG.cellv (i := 0) (v := .int .u32 (N s.a)) rfl
            have a1 := hG.cellv (i := 1) (v := .int .u32 (N s.b)) rfl
            have a2 := hG.cellv (i := 2) (v := .int .u32 (N s.c)) rfl
            have a3 := hG.cellv (i := 3) (v := .int .u32 (N s.d)) rfl
            have a4 := hG.cellv (i := 4) (v := .int .u32 (N s.e)) rfl
            have a5 := hG.cellv (i := 5) (v := .int .u32 (N s.f)) rfl
            have a6 := hG.cellv (i := 6) (v := .int .u32 (N s.g)) rfl
            have a7 := hG.cellv (i := 7) (v := .int .u32 (N s.h)) rfl
            have HG := Lib.hid hG
            have HT := Lib.hid hT
            have HR := Lib.hid hR
            clear hG hT hR
            go_wp2_with fail
            refine wp_region_ord [(0, true), (1, true), (2, true), (3, true), (5, true), (6, true), (7, true), (8, true), (4, false), (9, false), (10, true), (11, true), (12, false)] (by kernel_rfl) (by kernel_rfl) (by kernel_rfl) ?_
            simp only [pickOps, List.getElem?_cons_zero, List.getElem?_cons_succ]
            (repeat (refine ord_pure (v := ?_) (by rfl) ?_ ?_; rotate_left; (· intro w'; go_simp; try with_reducible rfl); try simp only [Act.put, List.setIfInBounds_toArray, List.set_cons_zero, List.set_cons_succ]))
            clear k6 k4 t1 t2 k7 k8 k9
            refine ord_step (by rfl) (fun K hK => ?_)
            go_wp2_with fail
            refine ord_step (by rfl) (fun K hK => ?_)
            go_wp2_with fail
            refine HM.out.mono ?_
            rintro e w3 ⟨M, hM, rfl, hb3⟩
            clear a0 a1 a2 a3 a4 a5 a6 a7
            go_wp2_with fail
            (repeat (refine ord_pure (v := ?_) (by rfl) ?_ ?_; rotate_left; (· intro w'; go_simp; try with_reducible rfl); try simp only [Act.put, List.setIfInBounds_toArray, List.set_cons_zero, List.set_cons_succ]))
            have H3 := HG.out.drew.keep hb3 hgw
            have b0 := H3.cellv (i := 0) (v := .int .u32 (N s.a)) rfl
            have m0 := H3.free 0
            have b1 := H3.cellv (i := 1) (v := .int .u32 (N s.b)) rfl
            have m1 := H3.free 1
            have b2 := H3.cellv (i := 2) (v := .int .u32 (N s.c)) rfl
            have m2 := H3.free 2
            have b3 := H3.cellv (i := 3) (v := .int .u32 (N s.d)) rfl
            have m3 := H3.free 3
            have b4 := H3.cellv (i := 4) (v := .int .u32 (N s.e)) rfl
            have m4 := H3.free 4
            have b5 := H3.cellv (i := 5) (v := .int .u32 (N s.f)) rfl
            have m5 := H3.free 5
            have b6 := H3.cellv (i := 6) (v := .int .u32 (N s.g)) rfl
            have m6 := H3.free 6
            have b7 := H3.cellv (i := 7) (v := .int .u32 (N s.h)) rfl
            have m7 := H3.free 7
            have HX := Lib.hid H3
            clear H3
            refine ord_step (by rfl) (fun K hK => ?_)
            go_wp2_with fail
            refine ord_nil ?_
            clear b0 m0 b1 m1 b2 m2 b3 m3 b4 m4 b5 m5 b6 m6 b7 m7
            generalize hW : World.setCell _ _ _ = w9
            have G9 : Has w9 g 105 (hv M buf (hd : Int) (m.length : Int)) := by
              subst hW
              exact (((((((HX.out.put 0 _).put 1 _).put 2 _).put 3 _).put 4 _).put 5 _).put 6 _).put 7 _
            have hng : w.heap.size + 1 ≠ g := by omega
            have hnr : w.heap.size ≠ g := by omega
            have T9 : Has w9 (w.heap.size + 1) 119 ((padTo m 8).map u8v) := by
              subst hW
              exact ((((((((HT.out.drew.keep hb3 htw).off hng _).off hng _).off hng _).off hng _).off hng _).off hng _).off hng _).off hng _
            have R9 : Has w9 w.heap.size 41 (brow 32 []) := by
              subst hW
              exact ((((((((HR.out.drew.keep hb3 HR.out.lt).off hnr _).off hnr _).off hnr _).off hnr _).off hnr _).off hnr _).off hnr _).off hnr _
            have B9 : Below g w w9 := by
              subst hW
              have hB3 : Below g w w3 := hB.drew.trans (hb3.mono (Nat.le_of_lt hgw))
              exact (((((((hB3.setCell (Nat.le_refl _) _).setCell (Nat.le_refl _) _).setCell (Nat.le_refl _) _).setCell (Nat.le_refl _) _).setCell (Nat.le_refl _) _).setCell (Nat.le_refl _) _).setCell (Nat.le_refl _) _).setCell (Nat.le_refl _) _
            clear hW HX HM
            go_wp2_with fail
            go_roundw
            case rel =>
              refine ⟨j + 1, by omega, by go_num, T9, ?_, R9, B9⟩
              rw [HFE.out, ← hM.out]
              exact G9
            case measure => simp [intOf]; omega
          · have he : 64 * j = sz := by omega
            have HS : Hid (feed j (padded m) (stateOf m) = shaState m) := Lib.hid (by
              unfold shaState
              rw [← Hsz.out, ← he, Nat.mul_div_cancel_left _ (by omega)])
            have k1 : ¬ 64 * (j : Int) < (sz : Int) := by omega
            clear he
            rw [HS.out] at hG
            have HR := Lib.hid hR
            clear hT hR
            go_wp2_with fail
            refine (tell_any (shaState m) buf (hd : Int) (m.length : Int) g wr hG).mono ?_
            rintro e w3 ⟨rfl, hb3⟩
            have hR3 := HR.out.keep hb3 HR.out.lt
            go_wp2_with (refine wpList_store_row rfl 41 _ _ rfl w.heap.size _ rfl rfl 41 _ hR3 (by kernel_rfl) (by simp [brow, tell_length]) (u8v_one _) ?_)
            refine bodyPost_ret (v := .agg ((sha m).map u8v).toArray) ?_ rfl ⟨rfl, below_row (hB.trans (hb3.mono (Nat.le_of_lt hG.lt))) (Nat.le_of_lt hgR) _⟩
            refine results_cell_row rfl _ _ w.heap.size 41 _ (0, 0) _ rfl ?_ Tryd.underlying41 rfl (by kernel_rfl)
            exact hR3.rowl _
end Go.Proofs.YtepeloenijlnhaaDoor
