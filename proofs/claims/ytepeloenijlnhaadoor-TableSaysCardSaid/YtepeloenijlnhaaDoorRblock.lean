/- Contract: the document's own block: one block of 64 bytes mixed into eight words. Condition: the block's bytes lie in older memory. -/
import Derived.Test.YtepeloenijlnhaaDoorGp8
import Derived.Deep.QuietTactic
import Derived.BigQuiet
import Derived.StillTailTactics
import Derived.Deep.DeepCutAuto
namespace Go.Proofs.YtepeloenijlnhaaDoor
open Go.RowKit
/-- The blocks that the call has made: the words handed in, what it hands back, the keys, the schedule. -/
def Blks (w : World) (g2 : Nat) (ks h : List Value) (l : List (BitVec 32)) (wr : World) : Prop :=
  Below w.heap.size w wr ∧ Has wr w.heap.size 102 h ∧ Has wr (w.heap.size + 1) 102 (List.replicate 8 (.int .u32 0)) ∧ Has wr g2 131 ks ∧ Has wr (g2 + 1) 131 (zrow l) ∧ w.heap.size + 1 < g2
theorem Blks.drew {w wr : World} {g2 : Nat} {ks h : List Value} {l : List (BitVec 32)} (hb : Blks w g2 ks h l wr) : Blks w g2 ks h l wr.drew := ⟨hb.1.drew, hb.2.1, hb.2.2.1, hb.2.2.2.1, hb.2.2.2.2.1, hb.2.2.2.2.2⟩
theorem Blks.put {w wr : World} {g2 : Nat} {ks h : List Value} {l : List (BitVec 32)} (hb : Blks w g2 ks h l wr) (k : Nat) (x : BitVec 32) (hl : l.length = k) (hk : k < 64) : Blks w g2 ks h (l ++ [x]) (wr.setCell ⟨g2 + 1, k, none⟩ (u32v x)) := by
  obtain ⟨h0, h1, h2, h3, h4, h5⟩ := hb
  refine ⟨h0.setCell (by simp; omega) _, h1.off (by simp; omega) _, h2.off (by simp; omega) _, h3.off (by simp) _, ?_, h5⟩
  have := h4.put k (u32v x)
  rwa [zrow_put l x k hl hk] at this
/-- And the words of the rounds. -/
def Blk3 (w : World) (g2 g4 : Nat) (ks h : List Value) (l : List (BitVec 32)) (v : List Value) (wr : World) : Prop := Blks w g2 ks h l wr ∧ Has wr g4 102 v ∧ g2 + 1 < g4
theorem Blk3.drew {w wr : World} {g2 g4 : Nat} {ks h v : List Value} {l : List (BitVec 32)} (hb : Blk3 w g2 g4 ks h l v wr) : Blk3 w g2 g4 ks h l v wr.drew := ⟨hb.1.drew, hb.2.1, hb.2.2⟩
theorem Blk3.row {w wr : World} {g2 g4 : Nat} {ks h v : List Value} {l : List (BitVec 32)} (hb : Blk3 w g2 g4 ks h l v wr) (v' : List Value) : Blk3 w g2 g4 ks h l v' (wr.setRow g4 v'.toArray) := by
  obtain ⟨⟨h0, h1, h2, h3, h4, h5⟩, h6, h7⟩ := hb
  exact ⟨⟨below_row h0 (by omega) _, h1.offRow (by omega) _, h2.offRow (by omega) _, h3.offRow (by omega) _, h4.offRow (by omega) _, h5⟩, h6.rowl v', h7⟩
theorem Blk3.put {w wr : World} {g2 g4 : Nat} {ks h v : List Value} {l : List (BitVec 32)} (hb : Blk3 w g2 g4 ks h l v wr) (k : Nat) (x : Value) : Blk3 w g2 g4 ks (h.set k x) l v (wr.setCell ⟨w.heap.size, k, none⟩ x) := by
  obtain ⟨⟨h0, h1, h2, h3, h4, h5⟩, h6, h7⟩ := hb
  exact ⟨⟨h0.setCell (by simp) _, h1.put k x, h2.off (by simp) _, h3.off (by simp; omega) _, h4.off (by simp; omega) _, h5⟩, h6.off (by simp; omega) _, h7⟩
/-- The sums of two rows as far as they are reckoned. -/
def mixTo (a b : List (BitVec 32)) (k : Nat) : List (BitVec 32) := (List.zipWith (· + ·) a b).take k ++ a.drop k
theorem mixTo_put (a b : List (BitVec 32)) (k : Nat) (ha : k < a.length) (hb : k < b.length) : ((mixTo a b k).map u32v).set k (u32v (at32 a k + at32 b k)) = (mixTo a b (k + 1)).map u32v := by
  have hz : k < (List.zipWith (· + ·) a b).length := by rw [List.length_zipWith]; omega
  have e1 : a.drop k = at32 a k :: a.drop (k + 1) := by rw [List.drop_eq_getElem_cons ha]; simp [at32, List.getD_eq_getElem?_getD, List.getElem?_eq_getElem ha]
  have e2 : (List.zipWith (· + ·) a b).take (k + 1) = (List.zipWith (· + ·) a b).take k ++ [at32 a k + at32 b k] := by
    rw [List.take_succ_eq_append_getElem hz, List.getElem_zipWith]
    simp [at32, List.getD_eq_getElem?_getD, List.getElem?_eq_getElem ha, List.getElem?_eq_getElem hb]
  have e3 : ((List.zipWith (· + ·) a b).take k).length = k := by rw [List.length_take]; omega
  rw [← List.map_set]
  unfold mixTo
  rw [e1, List.set_append_right _ _ (by omega), e3, Nat.sub_self, List.set_cons_zero, e2, List.append_assoc]
  rfl
theorem mixTo_at (a b : List (BitVec 32)) (k : Nat) (ha : k < a.length) (hb : k < b.length) : ((mixTo a b k).map u32v)[k]? = some (.int .u32 (N (at32 a k))) := by
  have e1 : a.drop k = at32 a k :: a.drop (k + 1) := by rw [List.drop_eq_getElem_cons ha]; simp [at32, List.getD_eq_getElem?_getD, List.getElem?_eq_getElem ha]
  have e3 : ((List.zipWith (· + ·) a b).take k).length = k := by rw [List.length_take, List.length_zipWith]; omega
  unfold mixTo
  rw [List.getElem?_map, e1, List.getElem?_append_right (by omega), e3, Nat.sub_self]
  rfl
section
attribute [local go_sem] N_and N_or N_xor N_add N_of_B N_shl24 N_shl16 N_shl8 N_not' u32_signed
set_option maxHeartbeats 4000000 in
set_option maxRecDepth 100000 in
theorem rblock_any (s : St) (blk : List (BitVec 8)) (hb : blk.length = 64) (A : Addr) (cap : Nat) (w : World)
    (hA : ∀ j u, (blk.map u8v)[j]? = some u → w.cell? (A.add j) = some u) (hlA : A.block < w.heap.size) :
    Calls Tryd.prog 73 #[.agg #[.int .u32 (N s.a), .int .u32 (N s.b), .int .u32 (N s.c), .int .u32 (N s.d), .int .u32 (N s.e), .int .u32 (N s.f), .int .u32 (N s.g), .int .u32 (N s.h)], .slice (some A) 64 cap] w fun e w' =>
      e = .returned (.agg (mix s blk).vals.toArray) ∧ Below w.heap.size w w' := by
  have sh3 := N_sr3
  have sh10 := N_sr10
  have HA := Lib.hid hA
  have Hb := Lib.hid hb
  have HlA := Lib.hid hlA
  clear hA hb hlA
  go_enter Tryd.func73, Tryd.ntmps73
  go_wp2_with fail
  generalize hw0 : (w.alloc _).alloc _ = W0
  have h0 : Has W0 w.heap.size 102 s.vals := by
    subst hw0; exact (Has.made' _ _ _ _ rfl).alloc _
  have h1 : Has W0 (w.heap.size + 1) 102 (List.replicate 8 (.int .u32 0)) := by
    subst hw0; exact Has.made1 _ _ _ _ _ rfl
  have hB : Below w.heap.size w W0 := by
    subst hw0; exact ((Below.refl _ _).alloc (Nat.le_refl _) _).alloc (by simp) _
  clear hw0
  refine (keys_any W0).mono ?_
  rintro e w1 ⟨rfl, hb1⟩
  replace h0 := h0.keep hb1 h0.lt
  replace h1 := h1.keep hb1 h1.lt
  replace hB := hB.trans (hb1.mono hB.size)
  have HK1 : Hid ((keys.map u32v).toArray.all (·.oneCell') = true) := Lib.hid (u32v_one _)
  have HK2 : Hid ((Tryd.prog.info? 131).map (·.size) = some (keys.map u32v).toArray.size) := Lib.hid (by rw [List.size_toArray, List.length_map, keys_length]; kernel_rfl)
  have HK3 : Hid (∀ cs : Array Value, cs.size = 64 → cs.size = (keys.map u32v).toArray.size) := Lib.hid (by intro cs h; rw [h, List.size_toArray, List.length_map, keys_length])
  obtain ⟨ks, hks⟩ : ∃ ks, ks = keys.map u32v := ⟨_, rfl⟩
  rw [← hks] at HK1 HK2 HK3 ⊢
  have HKS := Lib.hid hks
  have hlt1 := h1.lt
  clear hb1 hks
  have hg2 : w1.heap.size = w1.heap.size := rfl
  go_upto_region 2 with (refine wpList_store_row rfl 131 _ _ rfl w1.heap.size ks.toArray rfl rfl 131 _ (heap_alloc_new _ _) HK2.out (HK3.out _ (by kernel_rfl)) HK1.out ?_)
  generalize hw2 : (w1.alloc _).setRow _ _ = w2
  have h2 : Has w2 w1.heap.size 131 ks := by
    subst hw2; exact Has.rowl (Has.made _ _ _) _
  replace h0 : Has w2 w.heap.size 102 s.vals := by
    subst hw2; exact (h0.alloc _).offRow (by have := h0.lt; omega) _
  replace h1 : Has w2 (w.heap.size + 1) 102 (List.replicate 8 (.int .u32 0)) := by
    subst hw2; exact (h1.alloc _).offRow (by have := h1.lt; omega) _
  have hz2 : w2.heap.size = w1.heap.size + 1 := by subst hw2; simp
  replace hB : Below w.heap.size w w2 := by
    subst hw2; exact below_row (hB.alloc hB.size _) hB.size _
  have hgz : w.heap.size + 1 < w1.heap.size := hlt1
  clear hw2 hg2
  generalize w1.heap.size = g2 at *
  go_wp2_with fail
  generalize hw3 : w2.alloc _ = w3
  have hS : Blks w g2 ks s.vals (words blk 0) w3 := by
    subst hw3
    refine ⟨hB.alloc hB.size _, h0.alloc _, h1.alloc _, h2.alloc _, ?_, hgz⟩
    have := Has.made' w2 131 _ (zrow []) (by rw [zrow_nil])
    rw [hz2] at this
    exact this
  have HS := Lib.hid hS
  clear hw3 h0 h1 h2 hB hS hz2
  go_loopw [7] (fun i wr => ∃ k : Nat, k ≤ 16 ∧ i = .int .i64 k ∧ Blks w g2 ks s.vals (words blk k) wr) (fun i _ => 16 - (intOf i).toNat)
  case atStart => exact ⟨0, by omega, rfl, HS.out⟩
  case round =>
    clear HS
    rename_i wr
    obtain ⟨k, hk, rfl, hS⟩ := hrel
    by_cases hlt : k < 16
    · have hg (i : Nat) (hi : i < 4) : wr.cell? (A.add (4 * k + i)) = some (.int .u8 (B (at8 blk (4 * k + i)))) := by
        have hl := Hb.out
        exact (hS.1.cell (by rw [add_block]; exact HlA.out)).trans (HA.out _ _ (at8_of _ _ (by omega)))
      have c0 : wr.cell? (A.add (4 * k)) = some (.int .u8 (B (at8 blk (4 * k)))) := hg 0 (by omega)
      have c1 : wr.cell? { block := A.block, off := A.off + (4 * k + 1) } = some (.int .u8 (B (at8 blk (4 * k + 1)))) := hg 1 (by omega)
      have c2 : wr.cell? { block := A.block, off := A.off + (4 * k + 2) } = some (.int .u8 (B (at8 blk (4 * k + 2)))) := hg 2 (by omega)
      have c3 : wr.cell? { block := A.block, off := A.off + (4 * k + 3) } = some (.int .u8 (B (at8 blk (4 * k + 3)))) := hg 3 (by omega)
      clear hg
      have hk64 : (k : Int) < 64 := by omega
      have hl0 := words_length blk k
      have h4 := hS.2.2.2.2.1
      have cw := h4.cell k
      have cf := h4.free k
      have hz : (zrow (words blk k))[k]? = some (.int .u32 0) := zrow_get0 _ _ (by omega) (by omega)
      rw [hz] at cw
      have hl := Lib.hid hl0
      have HS := Lib.hid hS
      have hwl := Lib.hid (words_lo blk k hlt)
      clear hz hl0 h4 hS
      have i0 : 4 * (k : Int) < 64 := by omega
      have i1 : 4 * (k : Int) + 1 < 64 := by omega
      have i2 : 4 * (k : Int) + 2 < 64 := by omega
      have i3 : 4 * (k : Int) + 3 < 64 := by omega
      have j0 : 0 ≤ 4 * (k : Int) := by omega
      have j1 : 0 ≤ 4 * (k : Int) + 1 := by omega
      have j2 : 0 ≤ 4 * (k : Int) + 2 := by omega
      have j3 : 0 ≤ 4 * (k : Int) + 3 := by omega
      have t0 : (4 * (k : Int)).toNat = 4 * k := by omega
      have t1 : (4 * (k : Int) + 1).toNat = 4 * k + 1 := by omega
      have t2 : (4 * (k : Int) + 2).toNat = 4 * k + 2 := by omega
      have t3 : (4 * (k : Int) + 3).toNat = 4 * k + 3 := by omega
      have m0 : IntKind.i64.wrap (4 * (k : Int)) = 4 * (k : Int) := IntWalk.i64_in _ (by omega)
      have m1 : IntKind.i64.wrap (4 * (k : Int) + 1) = 4 * (k : Int) + 1 := IntWalk.i64_in _ (by omega)
      have m2 : IntKind.i64.wrap (4 * (k : Int) + 2) = 4 * (k : Int) + 2 := IntWalk.i64_in _ (by omega)
      have m3 : IntKind.i64.wrap (4 * (k : Int) + 3) = 4 * (k : Int) + 3 := IntWalk.i64_in _ (by omega)
      go_wp2
      go_still_tail 35, (by kernel_rfl)
      clear m0 m1 m2 m3 t0 t1 t2 t3
      go_wp2
      go_roundw
      case rel =>
        refine ⟨k + 1, by omega, by go_num, ?_⟩
        rw [hwl.out]
        exact (HS.out.put k (wordAt blk k) hl.out (by omega)).drew
      case measure => simp [intOf]; omega
    · have hk16 : k = 16 := by omega
      rw [hk16] at hS ⊢
      have HS := Lib.hid hS
      clear hlt hk hS hk16
      rw [show ((16 : Nat) : Int) = 16 from rfl]
      obtain ⟨wo, rfl⟩ : ∃ wo : World, wo = wr := ⟨_, rfl⟩
      go_wp2
      go_loopw [8] (fun i wr => ∃ k : Nat, 16 ≤ k ∧ k ≤ 64 ∧ i = .int .i64 k ∧ Blks w g2 ks s.vals (words blk k) wr) (fun i _ => 64 - (intOf i).toNat)
      case atStart => exact ⟨16, by omega, by omega, rfl, HS.out⟩
      case round =>
        clear HS
        obtain ⟨k, hk1, hk2, rfl, hS⟩ := hrel
        by_cases hlt : k < 64
        · have k1 : (15 : Int) ≤ (k : Int) := by omega
          have k2 : (k : Int) - 2 < 64 := by omega
          have k3 : (0 : Int) ≤ (k : Int) - 15 := by omega
          have k4 : (0 : Int) ≤ (k : Int) - 2 := by omega
          have k5 : (k : Int) - 15 < 64 := by omega
          have k6 : (0 : Int) ≤ (k : Int) - 16 := by omega
          have k7 : (0 : Int) ≤ (k : Int) - 7 := by omega
          have k8 : (k : Int) - 16 < 64 := by omega
          have k9 : (k : Int) - 7 < 64 := by omega
          have hl0 := words_length blk k
          have h3 := hS.2.2.2.2.1
          have r15 := h3.cellv (zrow_get (words blk k) (k - 15) (by omega))
          have r2 := h3.cellv (zrow_get (words blk k) (k - 2) (by omega))
          have hl := Lib.hid hl0
          have HS := Lib.hid hS
          clear hl0 hS h3
          go_wp2_with fail
          go_quiet (fail)
          clear r15 r2
          have HS2 : Hid (Blks w g2 ks s.vals (words blk k) (wr.drewN nq)) := Lib.hid ⟨below_drewN HS.out.1 nq, HS.out.2.1.drewN nq, HS.out.2.2.1.drewN nq, HS.out.2.2.2.1.drewN nq, HS.out.2.2.2.2.1.drewN nq, HS.out.2.2.2.2.2⟩
          generalize wr.drewN nq = wq at HS2 ⊢
          have h3 := HS2.out.2.2.2.2.1
          have r16 := h3.cellv (zrow_get (words blk k) (k - 16) (by rw [hl.out]; omega))
          have r7 := h3.cellv (zrow_get (words blk k) (k - 7) (by rw [hl.out]; omega))
          have cw := h3.cellv (zrow_get0 (words blk k) k (by rw [hl.out]; omega) (by omega))
          have cf := h3.free k
          have hwh := Lib.hid (words_hi blk k hk1)
          clear h3 HS
          go_wp2_with fail
          have k10 : (16 : Int) ≤ (k : Int) := by omega
          have k11 : (7 : Int) ≤ (k : Int) := by omega
          have k12 : (k : Int) < 64 := by omega
          have s1 : IntKind.i64.wrap ((k : Int) - 16) = (k : Int) - 16 := IntWalk.i64_in _ (by omega)
          have s2 : IntKind.i64.wrap ((k : Int) - 7) = (k : Int) - 7 := IntWalk.i64_in _ (by omega)
          have s3 : ((k : Int) - 16).toNat = k - 16 := by omega
          have s4 : ((k : Int) - 7).toNat = k - 7 := by omega
          refine wp_region_still_tail 29 (by kernel_rfl) (by kernel_rfl) ?_
          simp only [List.take_succ_cons, List.take_zero, List.drop_succ_cons, List.drop_zero]
          iterate 6 still_step
          still_call (turned_q _ 7 _ rfl (by omega) (by omega) _)
          still_step
          still_call (turned_q _ 18 _ rfl (by omega) (by omega) _)
          iterate 11 still_step
          still_call (turned_q _ 17 _ rfl (by omega) (by omega) _)
          still_step
          still_call (turned_q _ 19 _ rfl (by omega) (by omega) _)
          iterate 6 still_step
          refine wpStill_nil ?_
          clear s1 s2 s3 s4
          go_wp2
          go_roundw
          case rel =>
            refine ⟨k + 1, by omega, by omega, by go_num, ?_⟩
            rw [hwh.out]
            exact (HS2.out.put k (at32 (words blk k) (k - 16) + low (at32 (words blk k) (k - 15)) + at32 (words blk k) (k - 7) + high (at32 (words blk k) (k - 2))) hl.out (by omega)).drew
          case measure => simp [intOf]; omega
        · have hk64 : k = 64 := by omega
          rw [hk64] at hS
          have HS := Lib.hid hS
          have hfull : zrow (words blk 64) = (words blk 64).map u32v := zrow_full _ (words_length _ _)
          have HF := Lib.hid hfull
          have h0 := hS.2.1
          have hBz := hS.1.size
          have hg4 : g2 + 1 < wr.heap.size := hS.2.2.2.2.1.lt
          have HV1 : Hid (s.vals.toArray.all (·.oneCell') = true) := Lib.hid (u32v_one _)
          have k3 : ¬ (k : Int) < 64 := by omega
          rw [hk64]
          clear hlt hk1 hk2 hS hk64 hfull
          obtain ⟨wo2, rfl⟩ : ∃ wo2 : World, wo2 = wr := ⟨_, rfl⟩
          go_upto_region 13 with (first
            | (refine wpList_load_row rfl 102 _ rfl w.heap.size rfl 102 _ (0, 0) _ h0 Tryd.underlying102 rfl (by kernel_rfl) ?_)
            | (refine wpList_store_row rfl 102 _ _ rfl wo2.heap.size s.vals.toArray rfl rfl 102 _ (heap_alloc_new _ _) (by kernel_rfl) (by simp [St.vals, St.list]) HV1.out ?_))
          generalize hw5 : (wo2.alloc _).setRow _ _ = w5
          have hS : Blk3 w g2 wo2.heap.size ks s.vals (words blk 64) (rounds blk s 0).vals w5 := by
            subst hw5
            obtain ⟨a0, a1, a2, a3, a4, a5⟩ := HS.out
            refine ⟨⟨below_row (a0.alloc a0.size _) a0.size _, (a1.alloc _).offRow (by have := a1.lt; omega) _, (a2.alloc _).offRow (by have := a2.lt; omega) _, (a3.alloc _).offRow (by have := a3.lt; omega) _, (a4.alloc _).offRow (by have := a4.lt; omega) _, a5⟩, ?_, hg4⟩
            exact Has.rowl (Has.made _ _ _) _
          generalize wo2.heap.size = g4 at *
          replace HS := Lib.hid hS
          clear hw5 h0 hS hg4 hBz
          go_wp2_with fail
          go_loopw [12] (fun i wr => ∃ k : Nat, k ≤ 64 ∧ i = .int .i64 k ∧ Blk3 w g2 g4 ks s.vals (words blk 64) (rounds blk s k).vals wr) (fun i _ => 64 - (intOf i).toNat)
          case atStart => exact ⟨0, by omega, rfl, HS.out⟩
          case round =>
            clear HS
            obtain ⟨n, hn, rfl, hS⟩ := hrel
            have HS := Lib.hid hS
            clear hS
            have HR := Lib.hid (rounds_succ blk s n)
            by_cases hlt : n < 64
            · generalize rounds blk s n = t at *
              have k1 : (n : Int) < 64 := by omega
              have hw := HS.out.1.2.2.2.2.1.cellv (zrow_get (words blk 64) n (by rw [words_length]; omega))
              have hkey := HS.out.1.2.2.2.1.cellv (i := n) (v := .int .u32 (N (at32 keys n))) (by rw [HKS.out]; exact at32_of keys n (by rw [keys_length]; exact hlt))
              have a0 := HS.out.2.1.cellv (i := 0) (v := .int .u32 (N t.a)) rfl
              have a1 := HS.out.2.1.cellv (i := 1) (v := .int .u32 (N t.b)) rfl
              have a2 := HS.out.2.1.cellv (i := 2) (v := .int .u32 (N t.c)) rfl
              have a3 := HS.out.2.1.cellv (i := 3) (v := .int .u32 (N t.d)) rfl
              have a4 := HS.out.2.1.cellv (i := 4) (v := .int .u32 (N t.e)) rfl
              have a5 := HS.out.2.1.cellv (i := 5) (v := .int .u32 (N t.f)) rfl
              have a6 := HS.out.2.1.cellv (i := 6) (v := .int .u32 (N t.g)) rfl
              have a7 := HS.out.2.1.cellv (i := 7) (v := .int .u32 (N t.h)) rfl
              generalize at32 keys n = key at *
              generalize at32 (words blk 64) n = wd at *
              go_wp2_with fail
              refine wp_region_still_lit (by kernel_rfl) (by kernel_rfl) ?_
              iterate 4 still_step
              still_call (turned_q _ 6 _ rfl (by omega) (by omega) _)
              iterate 2 still_step
              still_call (turned_q _ 11 _ rfl (by omega) (by omega) _)
              iterate 3 still_step
              still_call (turned_q _ 25 _ rfl (by omega) (by omega) _)
              iterate 24 still_step
              refine wpStill_nil ?_
              change Exit.then _ _ _ _ wr.drew
              have HS2 := Lib.hid HS.out.drew
              replace a0 : wr.drew.cell? ⟨g4, 0, none⟩ = some (.int .u32 (N t.a)) := a0
              replace a1 : wr.drew.cell? ⟨g4, 1, none⟩ = some (.int .u32 (N t.b)) := a1
              replace a2 : wr.drew.cell? ⟨g4, 2, none⟩ = some (.int .u32 (N t.c)) := a2
              replace a3 : wr.drew.cell? ⟨g4, 3, none⟩ = some (.int .u32 (N t.d)) := a3
              replace a4 : wr.drew.cell? ⟨g4, 4, none⟩ = some (.int .u32 (N t.e)) := a4
              replace a5 : wr.drew.cell? ⟨g4, 5, none⟩ = some (.int .u32 (N t.f)) := a5
              replace a6 : wr.drew.cell? ⟨g4, 6, none⟩ = some (.int .u32 (N t.g)) := a6
              clear hw hkey a7 HS
              generalize wr.drew = wp at *
              go_wp2_with fail
              refine wp_region_still_lit (by kernel_rfl) (by kernel_rfl) ?_
              iterate 2 still_step
              still_call (turned_q _ 2 _ rfl (by omega) (by omega) _)
              iterate 2 still_step
              still_call (turned_q _ 13 _ rfl (by omega) (by omega) _)
              iterate 3 still_step
              still_call (turned_q _ 22 _ rfl (by omega) (by omega) _)
              iterate 20 still_step
              refine wpStill_nil ?_
              change Exit.then _ _ _ _ wp.drew
              have HS3 := Lib.hid HS2.out.drew
              replace a0 : wp.drew.cell? ⟨g4, 0, none⟩ = some (.int .u32 (N t.a)) := a0
              replace a1 : wp.drew.cell? ⟨g4, 1, none⟩ = some (.int .u32 (N t.b)) := a1
              replace a2 : wp.drew.cell? ⟨g4, 2, none⟩ = some (.int .u32 (N t.c)) := a2
              replace a3 : wp.drew.cell? ⟨g4, 3, none⟩ = some (.int .u32 (N t.d)) := a3
              replace a4 : wp.drew.cell? ⟨g4, 4, none⟩ = some (.int .u32 (N t.e)) := a4
              replace a5 : wp.drew.cell? ⟨g4, 5, none⟩ = some (.int .u32 (N t.f)) := a5
              replace a6 : wp.drew.cell? ⟨g4, 6, none⟩ = some (.int .u32 (N t.g)) := a6
              clear HS2
              generalize wp.drew = wq at *
              have HV := HS3.out.2.1
              have HV2 : Hid ((t.round key wd).vals.toArray.all (·.oneCell') = true) := Lib.hid (u32v_one _)
              go_wp2_with (refine wpList_store_row rfl 102 _ _ rfl g4 (t.round key wd).vals.toArray rfl rfl 102 _ HV (by kernel_rfl) (by simp [St.vals, St.list]) HV2.out ?_)
              go_roundw
              case rel =>
                refine ⟨n + 1, by omega, by go_num, ?_⟩
                rw [HR.out]
                exact HS3.out.row _
              case measure => simp [intOf]; omega
            · have hn64 : n = 64 := by omega
              have k4 : ¬ (n : Int) < 64 := by omega
              rw [hn64] at HS
              have hmix : ∃ t, t = rounds blk s 64 := ⟨_, rfl⟩
              obtain ⟨t, ht⟩ := hmix
              rw [← ht] at HS
              have HM : Hid ((mixTo s.list t.list 8).map u32v = (mix s blk).vals) := Lib.hid (by rw [mix, ← ht]; rfl)
              have hS0 : Blk3 w g2 g4 ks ((mixTo s.list t.list 0).map u32v) (words blk 64) (t.list.map u32v) wr := HS.out
              have HS0 := Lib.hid hS0
              clear HS hS0 ht HR hlt hn hn64
              go_wp2_with fail
              obtain ⟨wo3, rfl⟩ : ∃ wo3 : World, wo3 = wr := ⟨_, rfl⟩
              go_loopw [15] (fun i wr => ∃ m : Nat, m ≤ 8 ∧ i = .int .i64 m ∧ Blk3 w g2 g4 ks ((mixTo s.list t.list m).map u32v) (words blk 64) (t.list.map u32v) wr) (fun i _ => 8 - (intOf i).toNat)
              case atStart => exact ⟨0, by omega, rfl, HS0.out⟩
              case round =>
                clear HS0
                obtain ⟨m, hm, rfl, hS⟩ := hrel
                by_cases hlt : m < 8
                · have k5 : (m : Int) < 8 := by omega
                  have cx := hS.1.2.1.cellv (mixTo_at s.list t.list m hlt hlt)
                  have cy := hS.2.1.cellv (at32_of t.list m hlt)
                  have cf := hS.1.2.1.free m
                  have HP := Lib.hid (hS.put m (u32v (at32 s.list m + at32 t.list m))).drew
                  rw [mixTo_put s.list t.list m hlt hlt] at HP
                  generalize at32 s.list m = xs at *
                  generalize at32 t.list m = ys at *
                  clear hS
                  go_wp2_with fail
                  go_still_tail 9, (by kernel_rfl)
                  go_wp2
                  go_roundw
                  case rel => exact ⟨m + 1, by omega, by go_num, HP.out⟩
                  case measure => simp [intOf]; omega
                · have hm8 : m = 8 := by omega
                  have k5 : ¬ (m : Int) < 8 := by omega
                  rw [hm8, HM.out] at hS
                  obtain ⟨⟨b0, b1, b2, _, _, b5⟩, _, _⟩ := hS
                  have HB := Lib.hid b0
                  have HV1 : Hid ((mix s blk).vals.toArray.all (·.oneCell') = true) := Lib.hid (u32v_one _)
                  have HM1 : Hid ((mix s blk).vals.length = 8) := Lib.hid rfl
                  obtain ⟨M, hM⟩ : ∃ M, M = mix s blk := ⟨_, rfl⟩
                  rw [← hM] at HV1 HM1 b1
                  have HME := Lib.hid hM
                  clear hM HM
                  clear b0 hlt hm hm8
                  go_wp2_with (first
                    | (refine wpList_load_row rfl 102 _ rfl w.heap.size rfl 102 _ (0, 0) _ b1 Tryd.underlying102 rfl (by rw [List.size_toArray, HM1.out]; kernel_rfl) ?_)
                    | (refine wpList_store_row rfl 102 _ _ rfl (w.heap.size + 1) M.vals.toArray rfl rfl 102 _ b2 (by rw [List.size_toArray, HM1.out]; kernel_rfl) (by rw [List.size_toArray, List.size_toArray, HM1.out]; rfl) HV1.out ?_))
                  refine bodyPost_ret (v := .agg M.vals.toArray) ?_ rfl ⟨by rw [HME.out], below_row HB.out (by simp) _⟩
                  refine results_cell_row rfl _ _ (w.heap.size + 1) 102 _ (0, 0) _ rfl ?_ Tryd.underlying102 rfl (by rw [List.size_toArray, HM1.out]; kernel_rfl)
                  exact b2.rowl _
end
end Go.Proofs.YtepeloenijlnhaaDoor
