/- Contract: the document's own block: one block of 64 bytes mixed into eight words. Condition: the block's bytes lie in older memory. -/
import Derived.Test.YthpledfjopbchaaDoorBe1
import Derived.Deep.QuietTactic
import Derived.BigQuiet
import Derived.StillTailTactics
import Derived.Deep.DeepCutAuto
import Derived.Test.YthpledfjopbchaaDoorBc1
import Derived.Test.YthpledfjopbchaaDoorBa1
import Derived.Test.YthpledfjopbchaaDoorBb1
import Derived.Great.BuildSlice
import Derived.Laws.OwnMore
import Derived.Test.YthpledfjopbchaaDoorBd1
namespace Go.Proofs.YthpledfjopbchaaDoor
open Go.RowKit
/-- The blocks that the call has made: the words handed in, what it hands back, the keys, the schedule. -/
def Blks (w : World) (g2 : Nat) (ks h : List Value) (l : List (BitVec 32)) (wr : World) : Prop :=
  Below w.heap.size w wr ∧ Has wr w.heap.size 64 h ∧ Has wr (w.heap.size + 1) 64 (List.replicate 8 (.int .u32 0)) ∧ Has wr g2 103 ks ∧ Has wr (g2 + 1) 103 (zrow l) ∧ w.heap.size + 1 < g2
theorem Blks.drew {w wr : World} {g2 : Nat} {ks h : List Value} {l : List (BitVec 32)} (hb : Blks w g2 ks h l wr) : Blks w g2 ks h l wr.drew := ⟨hb.1.drew, hb.2.1, hb.2.2.1, hb.2.2.2.1, hb.2.2.2.2.1, hb.2.2.2.2.2⟩
theorem Blks.put {w wr : World} {g2 : Nat} {ks h : List Value} {l : List (BitVec 32)} (hb : Blks w g2 ks h l wr) (k : Nat) (x : BitVec 32) (hl : l.length = k) (hk : k < 64) : Blks w g2 ks h (l ++ [x]) (wr.setCell ⟨g2 + 1, k, none⟩ (u32v x)) := by
  obtain ⟨h0, h1, h2, h3, h4, h5⟩ := hb
  refine ⟨h0.setCell (by simp; omega) _, h1.off (by simp; omega) _, h2.off (by simp; omega) _, h3.off (by simp) _, ?_, h5⟩
  have := h4.put k (u32v x)
  rwa [zrow_put l x k hl hk] at this
/-- And the words of the rounds. -/
def Blk3 (w : World) (g2 g4 : Nat) (ks h : List Value) (l : List (BitVec 32)) (v : List Value) (wr : World) : Prop := Blks w g2 ks h l wr ∧ Has wr g4 64 v ∧ g2 + 1 < g4
theorem Blk3.drew {w wr : World} {g2 g4 : Nat} {ks h v : List Value} {l : List (BitVec 32)} (hb : Blk3 w g2 g4 ks h l v wr) : Blk3 w g2 g4 ks h l v wr.drew := ⟨hb.1.drew, hb.2.1, hb.2.2⟩
theorem Blk3.row {w wr : World} {g2 g4 : Nat} {ks h v : List Value} {l : List (BitVec 32)} (hb : Blk3 w g2 g4 ks h l v wr) (v' : List Value) : Blk3 w g2 g4 ks h l v' (wr.setRow g4 v'.toArray) := by
  obtain ⟨⟨h0, h1, h2, h3, h4, h5⟩, h6, h7⟩ := hb
  exact ⟨⟨below_row h0 (by omega) _, h1.offRow (by omega) _, h2.offRow (by omega) _, h3.offRow (by omega) _, h4.offRow (by omega) _, h5⟩, h6.rowl v', h7⟩
theorem Blk3.put {w wr : World} {g2 g4 : Nat} {ks h v : List Value} {l : List (BitVec 32)} (hb : Blk3 w g2 g4 ks h l v wr) (k : Nat) (x : Value) : Blk3 w g2 g4 ks (h.set k x) l v (wr.setCell ⟨w.heap.size, k, none⟩ x) := by
  obtain ⟨⟨h0, h1, h2, h3, h4, h5⟩, h6, h7⟩ := hb
  exact ⟨⟨h0.setCell (by simp) _, h1.put k x, h2.off (by simp) _, h3.off (by simp; omega) _, h4.off (by simp; omega) _, h5⟩, h6.off (by simp; omega) _, h7⟩
/-- The sums of two rows as far as they are reckoned. -/
def mixTo (a b : List (BitVec 32)) (k : Nat) : List (BitVec 32) := (List.zipWith (· + ·) a b).take k ++ a.drop k
theorem mixTo_put (a b : List (BitVec 32)) (k : Nat) (ha : k < a.length) (hb : k < b.length) : ((mixTo a b k).map u32v).set k (u32v (at32 a k + at32 b k)) = (mixTo a b (k + 1)).map u32v := by
  have hz : k < (List.zipWith (· + ·) a b).length := by rw [List.length_zipWith]; omega
  have e1 : a.drop k = at32 a k :: a.drop (k + 1) := by rw [List.drop_eq_getElem_cons ha]; simp [at32, List.getD_eq_getElem?_getD, List.getElem?_eq_getElem ha]
  have e2 : (List.zipWith (· + ·) a b).take (k + 1) = (List.zipWith (· + ·) a b).take k ++ [at32 a k + at32 b k] := by
    rw [List.take_succ_eq_append_getElem hz, List.getElem_zipWith]
    simp [at32, List.getD_eq_getElem?_getD, List.getElem?_eq_getElem ha, List.getElem?_eq_getElem hb]
  have e3 : ((List.zipWith (· + ·) a b).take k).length = k := by rw [List.length_take]; omega
  rw [← List.map_set]
  unfold mixTo
  rw [e1, List.set_append_right _ _ (by omega), e3, Nat.sub_self, List.set_cons_zero, e2, List.append_assoc]
  rfl
theorem mixTo_at (a b : List (BitVec 32)) (k : Nat) (ha : k < a.length) (hb : k < b.length) : ((mixTo a b k).map u32v)[k]? = some (.int .u32 (N (at32 a k))) := by
  have e1 : a.drop k = at32 a k :: a.drop (k + 1) := by rw [List.drop_eq_getElem_cons ha]; simp [at32, List.getD_eq_getElem?_getD, List.getElem?_eq_getElem ha]
  have e3 : ((List.zipWith (· + ·) a b).take k).length = k := by rw [List.length_take, List.length_zipWith]; omega
  unfold mixTo
  rw [List.getElem?_map, e1, List.getElem?_append_right (by omega), e3, Nat.sub_self]
  rfl
section
attribute [local go_sem] N_and N_or N_xor N_add N_of_B N_shl24 N_shl16 N_shl8 N_not' u32_signed
set_option maxHeartbeats 4000000 in
set_option maxRecDepth 100000 in
theorem rblock_any (s : St) (blk : List (BitVec 8)) (hb : blk.length = 64) (A : Addr) (cap : Nat) (w : World)
    (hA : ∀ j u, (blk.map u8v)[j]? = some u → w.cell? (A.add j) = some u) (hlA : A.block < w.heap.size) :
    Calls Tryd.prog 50 #[.agg #[.int .u32 (N s.a), .int .u32 (N s.b), .int .u32 (N s.c), .int .u32 (N s.d), .int .u32 (N s.e), .int .u32 (N s.f), .int .u32 (N s.g), .int .u32 (N s.h)], .slice (some A) 64 cap] w fun e w' =>
      e = .returned (.agg (mix s blk).vals.toArray) ∧ Below w.heap.size w w' := by
  have sh3 := N_sr3
  have sh10 := N_sr10
  have HA := Lib.hid hA
  have Hb := Lib.hid hb
  have HlA := Lib.hid hlA
  clear hA hb hlA
  go_enter Tryd.func50, Tryd.ntmps50
  go_wp2_with fail
  generalize hw0 : (w.alloc _).alloc _ = W0
  have h0 : Has W0 w.heap.size 64 s.vals := by
    subst hw0; exact (Has.made' _ _ _ _ rfl).alloc _
  have h1 : Has W0 (w.heap.size + 1) 64 (List.replicate 8 (.int .u32 0)) := by
    subst hw0; exact Has.made1 _ _ _ _ _ rfl
  have hB : Below w.heap.size w W0 := by
    subst hw0; exact ((Below.refl _ _).alloc (Nat.le_refl _) _).alloc (by simp) _
  clear hw0
  refine (keys_any W0).mono ?_
  rintro e w1 ⟨rfl, hb1⟩
  replace h0 := h0.keep hb1 h0.lt
  replace h1 := h1.keep hb1 h1.lt
  replace hB := hB.trans (hb1.mono hB.size)
  have HK1 : Hid ((keys.map u32v).toArray.all (·.oneCell') = true) := Lib.hid (u32v_one _)
  have HK2 : Hid ((Tryd.prog.info? 103).map (·.size) = some (keys.map u32v).toArray.size) := Lib.hid (by rw [List.size_toArray, List.length_map, keys_length]; kernel_rfl)
  have HK3 : Hid (∀ cs : Array Value, cs.size = 64 → cs.size = (keys.map u32v).toArray.size) := Lib.hid (by intro cs h; rw [h, List.size_toArray, List.length_map, keys_length])
  obtain ⟨ks, hks⟩ : ∃ ks, ks = keys.map u32v := ⟨_, rfl⟩
  rw [← hks] at HK1 HK2 HK3 ⊢
  have HKS := Lib.hid hks
  have hlt1 := h1.lt
  clear hb1 hks
  have hg2 : w1.heap.size = w1.heap.size := rfl
  go_upto_region 2 with (refine wpList_store_row rfl 103 _ _ rfl w1.heap.size ks.toArray rfl rfl 103 _ (heap_alloc_new _ _) HK2.out (HK3.out _ (by kernel_rfl)) HK1.out ?_)
  generalize hw2 : (w1.alloc _).setRow _ _ = w2
  have h2 : Has w2 w1.heap.size 103 ks := by
    subst hw2; exact Has.rowl (Has.made _ _ _) _
  replace h0 : Has w2 w.heap.size 64 s.vals := by
    subst hw2; exact (h0.alloc _).offRow (by have := h0.lt; omega) _
  replace h1 : Has w2 (w.heap.size + 1) 64 (List.replicate 8 (.int .u32 0)) := by
    subst hw2; exact (h1.alloc _).offRow (by have := h1.lt; omega) _
  have hz2 : w2.heap.size = w1.heap.size + 1 := by subst hw2; simp
  replace hB : Below w.heap.size w w2 := by
    subst hw2; exact below_row (hB.alloc hB.size _) hB.size _
  have hgz : w.heap.size + 1 < w1.heap.size := hlt1
  clear hw2 hg2
  generalize w1.heap.size = g2 at *
  go_wp2_with fail
  generalize hw3 : w2.alloc _ = w3
  have hS : Blks w g2 ks s.vals (words blk 0) w3 := by
    subst hw3
    refine ⟨hB.alloc hB.size _, h0.alloc _, h1.alloc _, h2.alloc _, ?_, hgz⟩
    have := Has.made' w2 103 _ (zrow []) (by rw [zrow_nil])
    rw [hz2] at this
    exact this
  have HS := Lib.hid hS
  clear hw3 h0 h1 h2 hB hS hz2
  go_loopw [7] (fun i wr => ∃ k : Nat, k ≤ 16 ∧ i = .int .i64 k ∧ Blks w g2 ks s.vals (words blk k) wr) (fun i _ => 16 - (intOf i).toNat)
  case atStart => exact ⟨0, by omega, rfl, HS.out⟩
  case round =>
    clear HS
    rename_i wr
    obtain ⟨k, hk, rfl, hS⟩ := hrel
    by_cases hlt : k < 16
    · have hg (i : Nat) (hi : i < 4) : wr.cell? (A.add (4 * k + i)) = some (.int .u8 (B (at8 blk (4 * k + i)))) := by
        have hl := Hb.out
        exact (hS.1.cell (by rw [add_block]; exact HlA.out)).trans (HA.out _ _ (at8_of _ _ (by omega)))
      have c0 : wr.cell? (A.add (4 * k)) = some (.int .u8 (B (at8 blk (4 * k)))) := hg 0 (by omega)
      have c1 : wr.cell? { block := A.block, off := A.off + (4 * k + 1) } = some (.int .u8 (B (at8 blk (4 * k + 1)))) := hg 1 (by omega)
      have c2 : wr.cell? { block := A.block, off := A.off + (4 * k + 2) } = some (.int .u8 (B (at8 blk (4 * k + 2)))) := hg 2 (by omega)
      have c3 : wr.cell? { block := A.block, off := A.off + (4 * k + 3) } = some (.int .u8 (B (at8 blk (4 * k + 3)))) := hg 3 (by omega)
      clear hg
      have hk64 : (k : Int) < 64 := by omega
      have hl0 := words_length blk k
      have h4 := hS.2.2.2.2.1
      have cw := h4.cell k
      have cf := h4.free k
      have hz : (zrow (words blk k))[k]? = some (.int .u32 0) := zrow_get0 _ _ (by omega) (by omega)
      rw [hz] at cw
      have hl := Lib.hid hl0
      have HS := Lib.hid hS
      have hwl := Lib.hid (words_lo blk k hlt)
      clear hz hl0 h4 hS
      have i0 : 4 * (k : Int) < 64 := by omega
      have i1 : 4 * (k : Int) + 1 < 64 := by omega
      have i2 : 4 * (k : Int) + 2 < 64 := by omega
      have i3 : 4 * (k : Int) + 3 < 64 := by omega
      have j0 : 0 ≤ 4 * (k : Int) := by omega
      have j1 : 0 ≤ 4 * (k : Int) + 1 := by omega
      have j2 : 0 ≤ 4 * (k : Int) + 2 := by omega
      have j3 : 0 ≤ 4 * (k : Int) + 3 := by omega
      have t0 : (4 * (k : Int)).toNat = 4 * k := by omega
      have t1 : (4 * (k : Int) + 1).toNat = 4 * k + 1 := by omega
      have t2 : (4 * (k : Int) + 2).toNat = 4 * k + 2 := by omega
      have t3 : (4 * (k : Int) + 3).toNat = 4 * k + 3 := by omega
      have m0 : IntKind.i64.wrap (4 * (k : Int)) = 4 * (k : Int) := IntWalk.i64_in _ (by omega)
      have m1 : IntKind.i64.wrap (4 * (k : Int) + 1) = 4 * (k : Int) + 1 := IntWalk.i64_in _ (by omega)
      have m2 : IntKind.i64.wrap (4 * (k : Int) + 2) = 4 * (k : Int) + 2 := IntWalk.i64_in _ (by omega)
      have m3 : IntKind.i64.wrap (4 * (k : Int) + 3) = 4 * (k : Int) + 3 := IntWalk.i64_in _ (by omega)
      go_wp2
      go_still_tail 35, (by kernel_rfl)
      clear m0 m1 m2 m3 t0 t1 t2 t3
      go_wp2
      go_roundw
      case rel =>
        refine ⟨k + 1, by omega, by go_num, ?_⟩
        rw [hwl.out]
        exact (HS.out.put k (wordAt blk k) hl.out (by omega)).drew
      case measure => simp [intOf]; omega
    · have hk16 : k = 16 := by omega
      rw [hk16] at hS ⊢
      have HS := Lib.hid hS
      clear hlt hk hS hk16
      rw [show ((16 : Nat) : Int) = 16 from rfl]
      obtain ⟨wo, rfl⟩ : ∃ wo : World, wo = wr := ⟨_, rfl⟩
      go_wp2
      go_loopw [8] (fun i wr => ∃ k : Nat, 16 ≤ k ∧ k ≤ 64 ∧ i = .int .i64 k ∧ Blks w g2 ks s.vals (words blk k) wr) (fun i _ => 64 - (intOf i).toNat)
      case atStart => exact ⟨16, by omega, by omega, rfl, HS.out⟩
      case round =>
        clear HS
        obtain ⟨k, hk1, hk2, rfl, hS⟩ := hrel
        by_cases hlt : k < 64
        · have k1 : (15 : Int) ≤ (k : Int) := by omega
          have k2 : (k : Int) - 2 < 64 := by omega
          have k3 : (0 : Int) ≤ (k : Int) - 15 := by omega
          have k4 : (0 : Int) ≤ (k : Int) - 2 := by omega
          have k5 : (k : Int) - 15 < 64 := by omega
          have k6 : (0 : Int) ≤ (k : Int) - 16 := by omega
          have k7 : (0 : Int) ≤ (k : Int) - 7 := by omega
          have k8 : (k : Int) - 16 < 64 := by omega
          have k9 : (k : Int) - 7 < 64 := by omega
          have hl0 := words_length blk k
          have h3 := hS.2.2.2.2.1
          have r15 := h3.cellv (zrow_get (words blk k) (k - 15) (by omega))
          have r2 := h3.cellv (zrow_get (words blk k) (k - 2) (by omega))
          have hl := Lib.hid hl0
          have HS := Lib.hid hS
          clear hl0 hS h3
          go_wp2_with fail
          go_quiet (fail)
          clear r15 r2
          have HS2 : Hid (Blks w g2 ks s.vals (words blk k) (wr.drewN nq)) := Lib.hid ⟨below_drewN HS.out.1 nq, HS.out.2.1.drewN nq, HS.out.2.2.1.drewN nq, HS.out.2.2.2.1.drewN nq, HS.out.2.2.2.2.1.drewN nq, HS.out.2.2.2.2.2⟩
          generalize wr.drewN nq = wq at HS2 ⊢
          have h3 := HS2.out.2.2.2.2.1
          have r16 := h3.cellv (zrow_get (words blk k) (k - 16) (by rw [hl.out]; omega))
          have r7 := h3.cellv (zrow_get (words blk k) (k - 7) (by rw [hl.out]; omega))
          have cw := h3.cellv (zrow_get0 (words blk k) k (by rw [hl.out]; omega) (by omega))
          have cf := h3.free k
          have hwh := Lib.hid (words_hi blk k hk1)
          clear h3 HS
          go_wp2_with fail
          have k10 : (16 : Int) ≤ (k : Int) := by omega
          have k11 : (7 : Int) ≤ (k : Int) := by omega
          have k12 : (k : Int) < 64 := by omega
          have s1 : IntKind.i64.wrap ((k : Int) - 16) = (k : Int) - 16 := IntWalk.i64_in _ (by omega)
          have s2 : IntKind.i64.wrap ((k : Int) - 7) = (k : Int) - 7 := IntWalk.i64_in _ (by omega)
          have s3 : ((k : Int) - 16).toNat = k - 16 := by omega
          have s4 : ((k : Int) - 7).toNat = k - 7 := by omega
          refine wp_region_still_tail 29 (by kernel_rfl) (by kernel_rfl) ?_
          simp only [List.take_succ_cons, List.take_zero, List.drop_succ_cons, List.drop_zero]
          iterate 6 still_step
          still_call (turned_q _ 7 _ rfl (by omega) (by omega) _)
          still_step
          still_call (turned_q _ 18 _ rfl (by omega) (by omega) _)
          iterate 11 still_step
          still_call (turned_q _ 17 _ rfl (by omega) (by omega) _)
          still_step
          still_call (turned_q _ 19 _ rfl (by omega) (by omega) _)
          iterate 6 still_step
          refine wpStill_nil ?_
          clear s1 s2 s3 s4
          go_wp2
          go_roundw
          case rel =>
            refine ⟨k + 1, by omega, by omega, by go_num, ?_⟩
            rw [hwh.out]
            exact (HS2.out.put k (at32 (words blk k) (k - 16) + low (at32 (words blk k) (k - 15)) + at32 (words blk k) (k - 7) + high (at32 (words blk k) (k - 2))) hl.out (by omega)).drew
          case measure => simp [intOf]; omega
        · have hk64 : k = 64 := by omega
          rw [hk64] at hS
          have HS := Lib.hid hS
          have hfull : zrow (words blk 64) = (words blk 64).map u32v := zrow_full _ (words_length _ _)
          have HF := Lib.hid hfull
          have h0 := hS.2.1
          have hBz := hS.1.size
          have hg4 : g2 + 1 < wr.heap.size := hS.2.2.2.2.1.lt
          have HV1 : Hid (s.vals.toArray.all (·.oneCell') = true) := Lib.hid (u32v_one _)
          have k3 : ¬ (k : Int) < 64 := by omega
          rw [hk64]
          clear hlt hk1 hk2 hS hk64 hfull
          obtain ⟨wo2, rfl⟩ : ∃ wo2 : World, wo2 = wr := ⟨_, rfl⟩
          go_upto_region 13 with (first
            | (refine wpList_load_row rfl 64 _ rfl w.heap.size rfl 64 _ (0, 0) _ h0 Tryd.underlying64 rfl (by kernel_rfl) ?_)
            | (refine wpList_store_row rfl 64 _ _ rfl wo2.heap.size s.vals.toArray rfl rfl 64 _ (heap_alloc_new _ _) (by kernel_rfl) (by simp [St.vals, St.list]) HV1.out ?_))
          generalize hw5 : (wo2.alloc _).setRow _ _ = w5
          have hS : Blk3 w g2 wo2.heap.size ks s.vals (words blk 64) (rounds blk s 0).vals w5 := by
            subst hw5
            obtain ⟨a0, a1, a2, a3, a4, a5⟩ := HS.out
            refine ⟨⟨below_row (a0.alloc a0.size _) a0.size _, (a1.alloc _).offRow (by have := a1.lt; omega) _, (a2.alloc _).offRow (by have := a2.lt; omega) _, (a3.alloc _).offRow (by have := a3.lt; omega) _, (a4.alloc _).offRow (by have := a4.lt; omega) _, a5⟩, ?_, hg4⟩
            exact Has.rowl (Has.made _ _ _) _
          generalize wo2.heap.size = g4 at *
          replace HS := Lib.hid hS
          clear hw5 h0 hS hg4 hBz
          go_wp2_with fail
          go_loopw [12] (fun i wr => ∃ k : Nat, k ≤ 64 ∧ i = .int .i64 k ∧ Blk3 w g2 g4 ks s.vals (words blk 64) (rounds blk s k).vals wr) (fun i _ => 64 - (intOf i).toNat)
          case atStart => exact ⟨0, by omega, rfl, HS.out⟩
          case round =>
            clear HS
            obtain ⟨n, hn, rfl, hS⟩ := hrel
            have HS := Lib.hid hS
            clear hS
            have HR := Lib.hid (rounds_succ blk s n)
            by_cases hlt : n < 64
            · generalize rounds blk s n = t at *
              have k1 : (n : Int) < 64 := by omega
              have hw := HS.out.1.2.2.2.2.1.cellv (zrow_get (words blk 64) n (by rw [words_length]; omega))
              have hkey := HS.out.1.2.2.2.1.cellv (i := n) (v := .int .u32 (N (at32 keys n))) (by rw [HKS.out]; exact at32_of keys n (by rw [keys_length]; exact hlt))
              have a0 := HS.out.2.1.cellv (i := 0) (v := .int .u32 (N t.a)) rfl
              have a1 := HS.out.2.1.cellv (i := 1) (v := .int .u32 (N t.b)) rfl
              have a2 := HS.out.2.1.cellv (i := 2) (v := .int .u32 (N t.c)) rfl
              have a3 := HS.out.2.1.cellv (i := 3) (v := .int .u32 (N t.d)) rfl
              have a4 := HS.out.2.1.cellv (i := 4) (v := .int .u32 (N t.e)) rfl
              have a5 := HS.out.2.1.cellv (i := 5) (v := .int .u32 (N t.f)) rfl
              have a6 := HS.out.2.1.cellv (i := 6) (v := .int .u32 (N t.g)) rfl
              have a7 := HS.out.2.1.cellv (i := 7) (v := .int .u32 (N t.h)) rfl
              generalize at32 keys n = key at *
              generalize at32 (words blk 64) n = wd at *
              go_wp2_with fail
              refine wp_region_still_lit (by kernel_rfl) (by kernel_rfl) ?_
              iterate 4 still_step
              still_call (turned_q _ 6 _ rfl (by omega) (by omega) _)
              iterate 2 still_step
              still_call (turned_q _ 11 _ rfl (by omega) (by omega) _)
              iterate 3 still_step
              still_call (turned_q _ 25 _ rfl (by omega) (by omega) _)
              iterate 24 still_step
              refine wpStill_nil ?_
              change Exit.then _ _ _ _ wr.drew
              have HS2 := Lib.hid HS.out.drew
              replace a0 : wr.drew.cell? ⟨g4, 0, none⟩ = some (.int .u32 (N t.a)) := a0
              replace a1 : wr.drew.cell? ⟨g4, 1, none⟩ = some (.int .u32 (N t.b)) := a1
              replace a2 : wr.drew.cell? ⟨g4, 2, none⟩ = some (.int .u32 (N t.c)) := a2
              replace a3 : wr.drew.cell? ⟨g4, 3, none⟩ = some (.int .u32 (N t.d)) := a3
              replace a4 : wr.drew.cell? ⟨g4, 4, none⟩ = some (.int .u32 (N t.e)) := a4
              replace a5 : wr.drew.cell? ⟨g4, 5, none⟩ = some (.int .u32 (N t.f)) := a5
              replace a6 : wr.drew.cell? ⟨g4, 6, none⟩ = some (.int .u32 (N t.g)) := a6
              clear hw hkey a7 HS
              generalize wr.drew = wp at *
              go_wp2_with fail
              refine wp_region_still_lit (by kernel_rfl) (by kernel_rfl) ?_
              iterate 2 still_step
              still_call (turned_q _ 2 _ rfl (by omega) (by omega) _)
              iterate 2 still_step
              still_call (turned_q _ 13 _ rfl (by omega) (by omega) _)
              iterate 3 still_step
              still_call (turned_q _ 22 _ rfl (by omega) (by omega) _)
              iterate 20 still_step
              refine wpStill_nil ?_
              change Exit.then _ _ _ _ wp.drew
              have HS3 := Lib.hid HS2.out.drew
              replace a0 : wp.drew.cell? ⟨g4, 0, none⟩ = some (.int .u32 (N t.a)) := a0
              replace a1 : wp.drew.cell? ⟨g4, 1, none⟩ = some (.int .u32 (N t.b)) := a1
              replace a2 : wp.drew.cell? ⟨g4, 2, none⟩ = some (.int .u32 (N t.c)) := a2
              replace a3 : wp.drew.cell? ⟨g4, 3, none⟩ = some (.int .u32 (N t.d)) := a3
              replace a4 : wp.drew.cell? ⟨g4, 4, none⟩ = some (.int .u32 (N t.e)) := a4
              replace a5 : wp.drew.cell? ⟨g4, 5, none⟩ = some (.int .u32 (N t.f)) := a5
              replace a6 : wp.drew.cell? ⟨g4, 6, none⟩ = some (.int .u32 (N t.g)) := a6
              clear HS2
              generalize wp.drew = wq at *
              have HV := HS3.out.2.1
              have HV2 : Hid ((t.round key wd).vals.toArray.all (·.oneCell') = true) := Lib.hid (u32v_one _)
              go_wp2_with (refine wpList_store_row rfl 64 _ _ rfl g4 (t.round key wd).vals.toArray rfl rfl 64 _ HV (by kernel_rfl) (by simp [St.vals, St.list]) HV2.out ?_)
              go_roundw
              case rel =>
                refine ⟨n + 1, by omega, by go_num, ?_⟩
                rw [HR.out]
                exact HS3.out.row _
              case measure => simp [intOf]; omega
            · have hn64 : n = 64 := by omega
              have k4 : ¬ (n : Int) < 64 := by omega
              rw [hn64] at HS
              have hmix : ∃ t, t = rounds blk s 64 := ⟨_, rfl⟩
              obtain ⟨t, ht⟩ := hmix
              rw [← ht] at HS
              have HM : Hid ((mixTo s.list t.list 8).map u32v = (mix s blk).vals) := Lib.hid (by rw [mix, ← ht]; rfl)
              have hS0 : Blk3 w g2 g4 ks ((mixTo s.list t.list 0).map u32v) (words blk 64) (t.list.map u32v) wr := HS.out
              have HS0 := Lib.hid hS0
              clear HS hS0 ht HR hlt hn hn64
              go_wp2_with fail
              obtain ⟨wo3, rfl⟩ : ∃ wo3 : World, wo3 = wr := ⟨_, rfl⟩
              go_loopw [15] (fun i wr => ∃ m : Nat, m ≤ 8 ∧ i = .int .i64 m ∧ Blk3 w g2 g4 ks ((mixTo s.list t.list m).map u32v) (words blk 64) (t.list.map u32v) wr) (fun i _ => 8 - (intOf i).toNat)
              case atStart => exact ⟨0, by omega, rfl, HS0.out⟩
              case round =>
                clear HS0
                obtain ⟨m, hm, rfl, hS⟩ := hrel
                by_cases hlt : m < 8
                · have k5 : (m : Int) < 8 := by omega
                  have cx := hS.1.2.1.cellv (mixTo_at s.list t.list m hlt hlt)
                  have cy := hS.2.1.cellv (at32_of t.list m hlt)
                  have cf := hS.1.2.1.free m
                  have HP := Lib.hid (hS.put m (u32v (at32 s.list m + at32 t.list m))).drew
                  rw [mixTo_put s.list t.list m hlt hlt] at HP
                  generalize at32 s.list m = xs at *
                  generalize at32 t.list m = ys at *
                  clear hS
                  go_wp2_with fail
                  go_still_tail 9, (by kernel_rfl)
                  go_wp2
                  go_roundw
                  case rel => exact ⟨m + 1, by omega, by go_num, HP.out⟩
                  case measure => simp [intOf]; omega
                · have hm8 : m = 8 := by omega
                  have k5 : ¬ (m : Int) < 8 := by omega
                  rw [hm8, HM.out] at hS
                  obtain ⟨⟨b0, b1, b2, _, _, b5⟩, _, _⟩ := hS
                  have HB := Lib.hid b0
                  have HV1 : Hid ((mix s blk).vals.toArray.all (·.oneCell') = true) := Lib.hid (u32v_one _)
                  have HM1 : Hid ((mix s blk).vals.length = 8) := Lib.hid rfl
                  obtain ⟨M, hM⟩ : ∃ M, M = mix s blk := ⟨_, rfl⟩
                  rw [← hM] at HV1 HM1 b1
                  have HME := Lib.hid hM
                  clear hM HM
                  clear b0 hlt hm hm8
                  go_wp2_with (first
                    | (refine wpList_load_row rfl 64 _ rfl w.heap.size rfl 64 _ (0, 0) _ b1 Tryd.underlying64 rfl (by rw [List.size_toArray, HM1.out]; kernel_rfl) ?_)
                    | (refine wpList_store_row rfl 64 _ _ rfl (w.heap.size + 1) M.vals.toArray rfl rfl 64 _ b2 (by rw [List.size_toArray, HM1.out]; kernel_rfl) (by rw [List.size_toArray, List.size_toArray, HM1.out]; rfl) HV1.out ?_))
                  refine bodyPost_ret (v := .agg M.vals.toArray) ?_ rfl ⟨by rw [HME.out], below_row HB.out (by simp) _⟩
                  refine results_cell_row rfl _ _ (w.heap.size + 1) 64 _ (0, 0) _ rfl ?_ Tryd.underlying64 rfl (by rw [List.size_toArray, HM1.out]; kernel_rfl)
                  exact b2.rowl _
end
end Go.Proofs.YthpledfjopbchaaDoor
/- Plain laws: SHA-256 over the whole text, padded at once. No condition. -/
namespace Go.Proofs.YthpledfjopbchaaDoor
/-- How many noughts. -/
def zeros (k : Nat) : Nat := padSize (k % 64) - 9 - k % 64
def padZ (m : List (BitVec 8)) (j : Nat) : List (BitVec 8) := m ++ (0x80 :: List.replicate j 0)
def whole (m : List (BitVec 8)) (i : Nat) : List (BitVec 8) := padZ m (zeros m.length) ++ (lenBytes (8 * m.length)).take i
theorem padZ_length (m : List (BitVec 8)) (j : Nat) : (padZ m j).length = m.length + 1 + j := by unfold padZ; simp; omega
theorem padZ_succ (m : List (BitVec 8)) (j : Nat) : padZ m (j + 1) = padZ m j ++ [0] := by
  unfold padZ
  rw [List.replicate_succ', List.append_assoc, List.cons_append]
theorem zeros_not (k j : Nat) (h : j < zeros k) : (k + 1 + j) % 64 ≠ 56 := by unfold zeros padSize at h; split at h <;> omega
theorem zeros_at (k : Nat) : (k + 1 + zeros k) % 64 = 56 := by unfold zeros padSize; split <;> omega
theorem zeros_le (k : Nat) : zeros k ≤ 119 := by unfold zeros padSize; split <;> omega
theorem whole_length (m : List (BitVec 8)) : (whole m 8).length = m.length + 9 + zeros m.length := by
  unfold whole
  rw [List.length_append, padZ_length, List.length_take]
  have : (lenBytes (8 * m.length)).length = 8 := rfl
  omega
theorem whole_zero (m : List (BitVec 8)) : whole m 0 = padZ m (zeros m.length) := by unfold whole; rw [List.take_zero, List.append_nil]
theorem whole_blocks (m : List (BitVec 8)) : ∃ n, (whole m 8).length = 64 * n ∧ n = m.length / 64 + padSize (m.length % 64) / 64 := by
  refine ⟨m.length / 64 + padSize (m.length % 64) / 64, ?_, rfl⟩
  rw [whole_length]
  unfold zeros padSize
  split <;> omega
theorem whole_sha (m : List (BitVec 8)) (n : Nat) (hn : n = m.length / 64 + padSize (m.length % 64) / 64) : feed n (whole m 8) start = shaState m := by
  subst hn
  have e : whole m 8 = m ++ (0x80 :: (List.replicate (zeros m.length) 0 ++ lenBytes (8 * m.length))) := by
    unfold whole padZ
    rw [List.take_of_length_le (show (lenBytes (8 * m.length)).length ≤ 8 from Nat.le_refl _), List.append_assoc, List.cons_append]
  rw [feed_add, e, feed_append _ _ _ _ (by omega), List.drop_append_of_le_length (by omega)]
  rfl
def lenByte (n i : Nat) : BitVec 8 := BitVec.ofNat 8 (n / 2 ^ (56 - 8 * i))
theorem lenBytes_take (n i : Nat) (hi : i < 8) : (lenBytes n).take (i + 1) = (lenBytes n).take i ++ [lenByte n i] := by
  have h : i = 0 ∨ i = 1 ∨ i = 2 ∨ i = 3 ∨ i = 4 ∨ i = 5 ∨ i = 6 ∨ i = 7 := by omega
  rcases h with rfl | rfl | rfl | rfl | rfl | rfl | rfl | rfl <;> simp [lenBytes, lenByte]
theorem whole_succ (m : List (BitVec 8)) (i : Nat) (hi : i < 8) : whole m (i + 1) = whole m i ++ [lenByte (8 * m.length) i] := by
  unfold whole; rw [lenBytes_take _ _ hi, List.append_assoc]
theorem tell_at (s : St) (i : Nat) (hi : i < 32) : at8 (tell s) i = b32 (at32 s.list (i / 4) >>> (24 - 8 * (i % 4))) := by
  have h4 : i / 4 = 0 ∨ i / 4 = 1 ∨ i / 4 = 2 ∨ i / 4 = 3 ∨ i / 4 = 4 ∨ i / 4 = 5 ∨ i / 4 = 6 ∨ i / 4 = 7 := by omega
  have h5 : i % 4 = 0 ∨ i % 4 = 1 ∨ i % 4 = 2 ∨ i % 4 = 3 := by omega
  have h6 : i = 4 * (i / 4) + i % 4 := by omega
  generalize i / 4 = a at *
  generalize i % 4 = b at *
  subst h6
  rcases h4 with rfl | rfl | rfl | rfl | rfl | rfl | rfl | rfl <;> rcases h5 with rfl | rfl | rfl | rfl <;> simp [tell, tellTo, fourOf, at8, at32, St.list]
end Go.Proofs.YthpledfjopbchaaDoor
/- Contract: the document's own Of: SHA-256. Condition: fewer than 2^40 bytes; a nil slice has no capacity. -/
namespace Go.Proofs.YthpledfjopbchaaDoor
open Go.RowKit
theorem empty_own (w : World) (base : Nat) (hb : base ≤ w.heap.size) : (w.alloc (.cells #[] 5)).ownsRow base 5 1 (.slice (some ⟨w.heap.size, 0, none⟩) 0 0) 0 [] :=
  World.ownsRow_made w #[] 0 hb (by unfold maxLen; omega) (by simp)
theorem lit_sees (w : World) (x : BitVec 8) (v : Value) (hv : v = u8v x) : Sees (w.alloc (.cells #[v] 5)) (w.heap.size + 1) (some ⟨w.heap.size, 0, none⟩) ([x].map u8v) := by
  subst hv
  exact Sees.of_has (Has.made' w 5 #[u8v x] _ rfl) (Nat.lt_succ_self _)
/-- What the call has made: the result's block, the eight words, the text that grows. -/
def Grows (w : World) (h : List Value) (v : Value) (p : List (BitVec 8)) (wr : World) : Prop :=
  Below w.heap.size w wr ∧ Has wr w.heap.size 46 (brow 32 []) ∧ Has wr (w.heap.size + 1) 64 h ∧ wr.ownsRow (w.heap.size + 2) 5 1 v p.length (p.map u8v)
theorem Grows.size {w wr : World} {h : List Value} {v : Value} {p : List (BitVec 8)} (g : Grows w h v p wr) : w.heap.size + 2 ≤ wr.heap.size := by have := g.2.2.1.lt; omega
theorem Grows.next {w wr w2 : World} {h : List Value} {v v2 : Value} {p q : List (BitVec 8)} (g : Grows w h v p wr) (o : Obj) (hb : Below (w.heap.size + 2) (wr.alloc o) w2) (ho : w2.ownsRow (w.heap.size + 2) 5 1 v2 q.length (q.map u8v)) : Grows w h v2 q w2 := by
  obtain ⟨h0, h1, h2, _⟩ := g
  have hz := h2.lt
  exact ⟨(h0.alloc h0.size o).trans (hb.mono (by omega)), (h1.alloc o).keep hb (by omega), (h2.alloc o).keep hb (by omega), ho⟩
theorem wpStill_val {P : Program} {ops : Array Oper} {w : World} {Q : Act → Prop} {o : Oper} {rest : List Oper} {a : Act} {v : Value} (hw : Region.wanted o (yielded ops a.tmps) = true) (hy : (execOp a.eval o).run P w = .ok (.value v) w)
    (h : wpStill P ops w Q rest (a.put o.dst v)) : wpStill P ops w Q (o :: rest) a := by
  show if _ then _ else _
  rw [if_pos hw]
  unfold Oper.still
  rw [hy, Oper.stillUpon_value]
  exact h
theorem load_at {P : Program} {o : Oper} {ev : Operand → Value} (T : TypeId) (x : Operand) (ho : o.op = .load T x) (g : Nat) (hx : ev x = .pointer (some ⟨g, 0, none⟩)) (t : TypeId) (l : List Value) (w : World)
    (hS : Has w g t l) (d : TypeDesc) (hu : P.underlying T = some d) (hd : (match d with | .struct _ | .array _ _ => true | _ => false) = true) (hi : (P.info? T).map (·.size) = some l.toArray.size) :
    (execOp ev o).run P w = .ok (.value (.agg l.toArray)) w := by
  unfold execOp
  simp only [ho, hx, Instr.loadAt, Instr.sureAddr, Sem.run_bind, Sem.run_pure, Result.andThen_ok, run_loadVar_row w g t T l.toArray (0, 0) d hS hu hd hi]
theorem cut_64 (a : Option Addr) (n cap f : Nat) (h1 : f + 64 ≤ cap) (w : World) :
    (Instr.slice 26 (.slice a n cap) (some (.int .i64 (f : Int))) (some (.int .i64 ((f : Int) + 64))) none).run Tryd.prog w = .ok (.slice (cutQ a cap f) 64 (cap - f)) w := by
  obtain ⟨i0, hi, _, hz1, _⟩ := info_parts u8_info
  have he : Tryd.prog.elem 26 = 5 := by kernel_rfl
  have e1 : ((f : Int) + 64).toNat = f + 64 := by omega
  rw [run_slice_lh (ht := by rw [he]; exact Tryd.underlying26) (h0 := by omega) (h1 := by omega) (h2 := by omega), he, e1]
  simp [sizeOf, typeInfo, hi, hz1, sliced, cutQ]
theorem lenByte_val (n i : Nat) : (n : Int) * 8 / 2 ^ (56 - 8 * i) % 256 = B (lenByte (8 * n) i) := by
  unfold B lenByte
  rw [BitVec.toNat_ofNat, Nat.mul_comm 8 n]
  simp
section
attribute [local go_sem] N_and N_or N_xor N_add
set_option maxHeartbeats 4000000 in
set_option maxRecDepth 100000 in
theorem rof_any (x : List (BitVec 8)) (q : Option Addr) (c : Nat) (w : World) (hs : Sees w w.heap.size q (x.map u8v)) (hq : q = none → c = 0) (hl : x.length < 1099511627776) :
    Calls Tryd.prog 36 #[.slice q x.length c] w fun e w' => e = .returned (.agg ((sha x).map u8v).toArray) ∧ Below w.heap.size w w' := by
  have HS := Lib.hid hs
  have HQ := Lib.hid hq
  have hz32 : (brow 32 []).toArray.size = 32 := rfl
  clear hs hq hz32
  go_enter Tryd.func36, Tryd.ntmps36
  have HV0 : Hid (start.vals.toArray.all (·.oneCell') = true) := Lib.hid (u32v_one _)
  go_upto_region 2 with (refine wpList_store_row rfl 64 _ _ rfl (w.heap.size + 1) start.vals.toArray rfl (by kernel_rfl) 64 _ (Has.made1 _ _ _ _ _ rfl) (by kernel_rfl) (by kernel_rfl) HV0.out ?_)
  simp only [Act.put]
  generalize hw0 : World.setRow _ _ _ = w0
  have h1 : Has w0 w.heap.size 46 (brow 32 []) := by
    subst hw0; rw [brow_nil]; exact ((Has.made' _ _ _ _ rfl).alloc _).offRow (by omega) _
  have h2 : Has w0 (w.heap.size + 1) 64 start.vals := by
    subst hw0; exact (Has.made1 _ _ _ _ _ rfl).rowl _
  have hB : Below w.heap.size w w0 := by
    subst hw0; exact below_row (((Below.refl _ _).alloc (Nat.le_refl _) _).alloc (by simp) _) (by omega) _
  have hz0 : w0.heap.size = w.heap.size + 2 := by subst hw0; simp
  clear hw0
  have hBe : Below w0.heap.size w0 (w0.alloc (.cells #[] 5)) := (Below.refl _ _).alloc (Nat.le_refl _) _
  have HSx := Lib.hid ((HS.out.keep hB).keep (hBe.mono (by omega)))
  have HO := Lib.hid (empty_own w0 (w.heap.size + 2) (by omega))
  have HBe : Hid (Below (w.heap.size + 2) w0 (w0.alloc (.cells #[] 5))) := Lib.hid (hBe.mono (by omega))
  have H1 := Lib.hid h1
  have H2 := Lib.hid h2
  have HB := Lib.hid hB
  have HZ0 := Lib.hid hz0
  clear h1 h2 hB hBe hz0
  go_wp2_with (first
    | (at_builtin
       refine wpList_append_sees rfl (.tmp 11) (.tmp 12) rfl (w.heap.size + 2) _ 0 [] rfl HO.out q x c w.heap.size rfl HQ.out HSx.out (by omega) (by have := HZ0.out; simp; omega) ?_
       intro v1 w1 g1 g2
       have H3 := Lib.hid g1
       have HB1 := Lib.hid (HBe.out.trans g2)
       have HL1 := Lib.hid (lit_sees w1 128 (.int .u8 128) rfl)
       have HB1' : Hid (Below (w.heap.size + 2) w0 (w1.alloc (.cells #[.int .u8 128] 5))) := Lib.hid (HB1.out.alloc (by have := HZ0.out; have := HB1.out.size; omega) _)
       clear g1 g2)
    | (at_builtin
       refine wpList_append_sees rfl (.tmp 13) (.tmp 14) rfl (w.heap.size + 2) v1 (0 + x.length) ([] ++ x.map u8v) rfl (H3.out.alloc _) (some ⟨w1.heap.size, 0, none⟩) [128] 1 (w1.heap.size + 1) rfl (fun h => by cases h) HL1.out (by simp; omega) (by have := HZ0.out; have := HB1'.out.size; omega) ?_
       intro v2 w2 g1 g2
       have H4 := Lib.hid g1
       have HB2 := Lib.hid (HB1'.out.trans g2)
       clear g1 g2))
  have hG : Grows w start.vals v2 (padZ x 0) w2 := by
    have h := H4.out
    refine ⟨HB.out.trans (HB2.out.mono (by omega)), H1.out.keep HB2.out (by omega), H2.out.keep HB2.out (by omega), ?_⟩
    rw [padZ_length]
    have e : (padZ x 0).map u8v = [] ++ x.map u8v ++ [(128 : BitVec 8)].map u8v := by unfold padZ; simp
    rw [e]
    have e2 : x.length + 1 + 0 = 0 + x.length + [(128 : BitVec 8)].length := by simp
    rw [e2]
    exact h
  have HG := Lib.hid hG
  clear hG H4 HB2 HB1' HL1 HB1 H3 HSx HO HBe H1 H2 HB
  go_loopw [4] (fun v wr => ∃ j : Nat, j ≤ zeros x.length ∧ Grows w start.vals v (padZ x j) wr) (fun v _ => match v with | .slice _ n _ => (120 - n % 64) % 64 | _ => 0)
  case atStart => exact ⟨0, by omega, HG.out⟩
  case round =>
    clear HG
    obtain ⟨j, hj, hG⟩ := hrel
    obtain ⟨q1, c1, rfl, _, _, _⟩ := Bs.own hG.2.2.2
    have hpl := padZ_length x j
    have hzl := zeros_le x.length
    by_cases hlt : j < zeros x.length
    · have hne := zeros_not x.length j hlt
      have hps := padZ_succ x j
      generalize padZ x j = P at *
      have k1 : (((P.length : Int) % 64) != 56) = true := by simp; omega
      have HPS := Lib.hid hps
      have HG := Lib.hid hG
      have HS1 := Lib.hid (lit_sees wr 0 (.int .u8 0) rfl)
      have hsz := hG.size
      have HNE : Hid (P.length % 64 ≠ 56) := Lib.hid (by rw [hpl]; exact hne)
      have hPb : P.length < 1099511627906 := by omega
      clear hps hG hne hpl
      go_wp2_with (at_builtin; refine wpList_append_sees rfl _ _ rfl (w.heap.size + 2) _ _ _ rfl (HG.out.2.2.2.alloc _) (some ⟨wr.heap.size, 0, none⟩) [0] 1 (wr.heap.size + 1) rfl (fun h => by cases h) HS1.out (by simp; omega) (by simp; omega) ?_; intro v3 w3 g1 g2; have H5 := Lib.hid g1; have H6 := Lib.hid g2; clear g1 g2)
      have hG3 : Grows w start.vals v3 (P ++ [0]) w3 := HG.out.next _ H6.out (by have := H5.out; rw [List.length_append, List.map_append]; exact this)
      obtain ⟨q3, c3, rfl, _, _, _⟩ := Bs.own hG3.2.2.2
      go_roundw
      case rel => exact ⟨j + 1, by omega, by rw [HPS.out]; exact hG3⟩
      case measure => have h := HNE.out; simp only [List.length_append, List.length_cons, List.length_nil]; omega
    · have hjz : j = zeros x.length := by omega
      have hat := zeros_at x.length
      rw [hjz, ← whole_zero] at hG
      rw [hjz] at hpl
      rw [hjz]
      rw [← whole_zero] at hpl ⊢
      generalize hP : whole x 0 = P at *
      have k1 : (((P.length : Int) % 64) != 56) = false := by simp; omega
      have HP := Lib.hid hP
      have HG := Lib.hid hG
      have k2 : IntKind.u64.wrap (x.length : Int) = (x.length : Int) := IntWalk.u64_in _ (by omega)
      have hPb : P.length < 1099511627906 := by omega
      clear hP hG hat hlt hj hjz hpl
      obtain ⟨wo, rfl⟩ : ∃ wo : World, wo = wr := ⟨_, rfl⟩
      go_wp2_with fail
      go_loopw [4, 6] (fun v vi wr => ∃ i : Nat, i ≤ 8 ∧ vi = .int .i64 i ∧ Grows w start.vals v (whole x i) wr) (fun _ vi _ => 8 - (intOf vi).toNat)
      case atStart => exact ⟨0, by omega, rfl, by rw [HP.out]; exact HG.out⟩
      case round =>
        clear HG HP hPb
        obtain ⟨i, hi, rfl, hG⟩ := hrel
        obtain ⟨q1, c1, rfl, hc1, hq1, hs1⟩ := Bs.own hG.2.2.2
        by_cases hlt : i < 8
        · have hws := whole_succ x i hlt
          have hwb : (whole x i).length ≤ 1099511627926 := by
            unfold whole; rw [List.length_append, padZ_length, List.length_take]; have := zeros_le x.length; omega
          generalize whole x i = P at *
          have HWS := Lib.hid hws
          have HG := Lib.hid hG
          have hsz := hG.size
          have i0 : (i : Int) < 8 := by omega
          have i1 : 0 ≤ 56 - 8 * (i : Int) := by omega
          have i2 : IntKind.u64.wrap (56 - 8 * (i : Int)) = 56 - 8 * (i : Int) := IntWalk.u64_in _ (by omega)
          have k6 := lenByte_val x.length i
          generalize lenByte (8 * x.length) i = y at *
          have HSy := Lib.hid (lit_sees wr y (.int .u8 (B y)) rfl)
          clear hws hG hlt hc1 hq1 hs1
          go_wp2_with (at_builtin; refine wpList_append_sees rfl _ _ rfl (w.heap.size + 2) _ _ _ rfl (HG.out.2.2.2.alloc _) (some ⟨wr.heap.size, 0, none⟩) [y] 1 (wr.heap.size + 1) rfl (fun h => by cases h) HSy.out (by simp; omega) (by simp; omega) ?_; intro v3 w3 g1 g2; have H5 := Lib.hid g1; have H6 := Lib.hid g2; clear g1 g2)
          have hG3 : Grows w start.vals v3 (P ++ [y]) w3 := HG.out.next _ H6.out (by have := H5.out; rw [List.length_append, List.map_append]; exact this)
          go_roundw
          case rel => exact ⟨i + 1, by omega, by go_num, by rw [HWS.out]; exact hG3⟩
          case measure => simp [intOf]; omega
        · have hi8 : i = 8 := by omega
          have k3 : ¬ (i : Int) < 8 := by omega
          rw [hi8] at hG hc1 hs1 ⊢
          obtain ⟨Nb, hN1, hN2⟩ := whole_blocks x
          have hsha := whole_sha x Nb hN2
          have hwb : (whole x 8).length ≤ 1099511627926 := by
            rw [whole_length]; have := zeros_le x.length; omega
          generalize whole x 8 = M at *
          have hN0 : 0 < Nb := by have := zeros_le x.length; rw [hN2]; unfold padSize; split <;> omega
          obtain ⟨a, rfl, hab, hcell⟩ := hs1.get (by simp; omega)
          obtain ⟨hB, b1, b2, ho⟩ := hG
          have hab2 : w.heap.size + 2 ≤ a.block := own_base ho a.block rfl
          have hgb : w.heap.size + 1 < wr.heap.size := b2.lt
          have HN1 := Lib.hid hN1
          have HC := Lib.hid hcell
          have H2 : Hid (Has wr (w.heap.size + 1) 64 (feed 0 M start).vals) := Lib.hid b2
          have H1 := Lib.hid b1
          have HB := Lib.hid hB
          have hS := Lib.hid hsha
          have hMN : (M.length : Int) = 64 * (Nb : Int) := by omega
          have hcN : 64 * Nb ≤ c1 := by omega
          clear ho hMN hN1 hN2 hsha hcell hB b1 b2 hlt hi hi8 hc1 hq1 hs1
          rw [HN1.out]
          obtain ⟨wo2, rfl⟩ : ∃ wo2 : World, wo2 = wr := ⟨_, rfl⟩
          have HBo : Hid (Below wo2.heap.size wo2 wo2) := Lib.hid (Below.refl _ _)
          go_wp2_with fail
          go_loopw [7] (fun vi wr => ∃ n m : Nat, n ≤ Nb ∧ m = 64 * n ∧ vi = .int .i64 m ∧ Below w.heap.size w wr ∧ Has wr w.heap.size 46 (brow 32 []) ∧ Has wr (w.heap.size + 1) 64 (feed n M start).vals ∧ (∀ j u, (M.map u8v)[j]? = some u → wr.cell? (a.add j) = some u) ∧ wo2.heap.size ≤ wr.heap.size) (fun vi _ => 64 * Nb - (intOf vi).toNat)
          case atStart => exact ⟨0, 0, by omega, rfl, rfl, HB.out, H1.out, H2.out, HC.out, Nat.le_refl _⟩
          case round =>
            clear H1 H2 HB HC
            obtain ⟨n, m, hn, hm, rfl, hB, b1, b2, hcell, hsz⟩ := hrel
            by_cases hlt : n < Nb
            · have hcut := cut_64 (some a) (64 * Nb) c1 m (by omega)
              have hcq : cutQ (some a) c1 m = some (a.add m) := by unfold cutQ; rw [if_neg (by omega)]; rfl
              rw [hcq] at hcut
              have hbl : ((M.drop m).take 64).length = 64 := by rw [List.length_take, List.length_drop, HN1.out]; omega
              have hfe := feed_end n M start
              rw [← hm] at hfe
              have hA : ∀ w3, Below wr.heap.size wr w3 → ∀ j u, ((((M.drop m).take 64).map u8v)[j]? = some u) → w3.cell? ((a.add m).add j) = some u := fun w3 hb j u hu => by
                rw [add_add]
                refine (hb.cell (by rw [add_block]; omega)).trans (hcell _ u ?_)
                rw [List.getElem?_map, List.getElem?_take] at hu
                split at hu
                · rw [List.getElem?_drop] at hu; rw [List.getElem?_map]; exact hu
                · simp at hu
              have HBK : Hid (∀ w3, Below wr.heap.size wr w3 → Calls Tryd.prog 50 #[.agg (feed n M start).vals.toArray, .slice (some (a.add m)) 64 (c1 - m)] w3 fun e w' => e = .returned (.agg (feed (n + 1) M start).vals.toArray) ∧ Below w3.heap.size w3 w') := Lib.hid (fun w3 hb => by
                rw [hfe]
                exact rblock_any (feed n M start) _ hbl (a.add m) (c1 - m) w3 (hA w3 hb) (by rw [add_block]; have := hb.size; omega))
              have HL1 : Hid ((feed n M start).vals.length = 8) := Lib.hid rfl
              have HL2 : Hid ((feed (n + 1) M start).vals.length = 8) := Lib.hid rfl
              have HV2 : Hid ((feed (n + 1) M start).vals.toArray.all (·.oneCell') = true) := Lib.hid (u32v_one _)
              obtain ⟨F2, hF2⟩ : ∃ F2, F2 = (feed (n + 1) M start).vals := ⟨_, rfl⟩
              rw [← hF2] at HBK HL2 HV2
              have HF2 := Lib.hid hF2
              generalize (feed n M start).vals = F1 at *
              have HB := Lib.hid hB
              have H1 := Lib.hid b1
              have H2 := Lib.hid b2
              have HC := Lib.hid hcell
              have km : (m : Int) < 64 * (Nb : Int) := by omega
              have km2 : (m : Int) < 1099511627926 := by have := HN1.out; omega
              have HM := Lib.hid hm
              clear hB b1 b2 hcell hA hbl hfe hF2 hcq hm
              go_wp2_with fail
              refine wp_region_still_tail 6 (by kernel_rfl) (by kernel_rfl) ?_
              simp only [List.take_succ_cons, List.take_zero, List.drop_succ_cons, List.drop_zero]
              refine wpStill_val (by rfl) (load_at 64 (.tmp 3) (by rfl) (w.heap.size + 1) (by rfl) 64 F1 _ H2.out _ Tryd.underlying64 rfl (by rw [List.size_toArray, HL1.out]; kernel_rfl)) ?_
              try simp only [Act.put, List.setIfInBounds_toArray, List.set_cons_zero, List.set_cons_succ]
              have hw64 : IntKind.i64.wrap ((m : Int) + 64) = (m : Int) + 64 := IntWalk.i64_in _ (by omega)
              iterate 5 still_step
              refine wpStill_nil ?_
              clear hw64
              change wpList _ _ _ _ _ wr.drew
              have hBd : Below wr.heap.size wr wr.drew := (Below.refl _ _).drew
              have HB2 := Lib.hid (HB.out.drew)
              have HC1 := Lib.hid (HBK.out _ hBd)
              replace H1 : Hid (Has wr.drew w.heap.size 46 (brow 32 [])) := Lib.hid H1.out.drew
              replace H2 : Hid (Has wr.drew (w.heap.size + 1) 64 F1) := Lib.hid H2.out.drew
              replace HC : Hid (∀ j u, (M.map u8v)[j]? = some u → wr.drew.cell? (a.add j) = some u) := Lib.hid HC.out
              have hszd : wo2.heap.size ≤ wr.drew.heap.size := hsz
              clear HBK HB hBd hcut
              generalize wr.drew = wq at *
              go_wp2_with fail
              refine HC1.out.mono ?_
              rintro e w4 ⟨rfl, hb4⟩
              replace H1 := Lib.hid (H1.out.keep hb4 H1.out.lt)
              replace H2 := Lib.hid (H2.out.keep hb4 H2.out.lt)
              replace HC : Hid (∀ j u, (M.map u8v)[j]? = some u → w4.cell? (a.add j) = some u) := Lib.hid (fun j u hu => (hb4.cell (by rw [add_block]; omega)).trans (HC.out j u hu))
              replace HB2 := Lib.hid (HB2.out.trans (hb4.mono HB2.out.size))
              have hz4 : wo2.heap.size ≤ w4.heap.size := by have := hb4.size; omega
              clear hb4 HC1
              have hr := H2.out
              go_wp2_with (refine wpList_store_row rfl 64 _ _ rfl (w.heap.size + 1) F2.toArray rfl rfl 64 _ hr (by rw [List.size_toArray, HL2.out]; kernel_rfl) (by rw [List.size_toArray, List.size_toArray, HL1.out, HL2.out]) HV2.out ?_)
              go_roundw
              case rel =>
                refine ⟨n + 1, m + 64, by omega, by rw [HM.out]; omega, by go_num, below_row HB2.out (by omega) _, H1.out.offRow (by omega) _, ?_, fun j u hu => ?_, by simp; omega⟩
                · rw [← HF2.out]; exact H2.out.rowl F2
                · exact (cell_setRow_other _ _ _ _ (by rw [add_block]; omega)).trans (HC.out j u hu)
              case measure => have := HM.out; simp [intOf]; omega
            · have hnN : n = Nb := by omega
              have km : ¬ (m : Int) < 64 * (Nb : Int) := by omega
              rw [hnN, hS.out] at b2
              have HB := Lib.hid hB
              have H1 := Lib.hid b1
              have H2 := Lib.hid b2
              clear hB b1 b2 hcell hlt hm hn hnN
              have hgb2 : w.heap.size + 1 < wr.heap.size := by omega
              obtain ⟨S, hS2⟩ : ∃ S, S = shaState x := ⟨_, rfl⟩
              rw [← hS2] at H2
              have HSh : Hid (sha x = tell S) := Lib.hid (by rw [hS2]; rfl)
              clear hS2
              obtain ⟨wo3, rfl⟩ : ∃ wo3 : World, wo3 = wr := ⟨_, rfl⟩
              go_wp2_with fail
              generalize hw5 : wo3.alloc _ = w5
              have c1' : Has w5 w.heap.size 46 (brow 32 []) := by subst hw5; exact H1.out.alloc _
              have c2' : Has w5 (w.heap.size + 1) 64 S.vals := by subst hw5; exact H2.out.alloc _
              have c3' : Has w5 wo3.heap.size 46 (brow 32 ((tell S).take 0)) := by subst hw5; rw [List.take_zero, brow_nil]; exact Has.made' _ _ _ _ rfl
              have c4' : Below w.heap.size w w5 := by subst hw5; exact HB.out.alloc HB.out.size _
              have C := Lib.hid (And.intro c1' (And.intro c2' (And.intro c3' c4')))
              clear hw5 c1' c2' c3' c4' HB H1 H2
              generalize wo3.heap.size = g8 at *
              go_loopw [9] (fun vi wr => ∃ n : Nat, n ≤ 32 ∧ vi = .int .i64 n ∧ Has wr w.heap.size 46 (brow 32 []) ∧ Has wr (w.heap.size + 1) 64 S.vals ∧ Has wr g8 46 (brow 32 ((tell S).take n)) ∧ Below w.heap.size w wr) (fun vi _ => 32 - (intOf vi).toNat)
              case atStart => exact ⟨0, by omega, rfl, C.out⟩
              case round =>
                clear C
                obtain ⟨n, hn, rfl, b1, b2, b3, hB⟩ := hrel
                have htl := tell_length S
                by_cases hlt : n < 32
                · have hta := tell_at S n hlt
                  have htk : (tell S).take (n + 1) = (tell S).take n ++ [at8 (tell S) n] := by
                    rw [List.take_succ_eq_append_getElem (by omega)]
                    simp [at8, List.getD_eq_getElem?_getD, List.getElem?_eq_getElem (show n < (tell S).length by omega)]
                  have hlk : ((tell S).take n).length = n := by rw [List.length_take]; omega
                  have cx := b2.cellv (at32_of S.list (n / 4) (show n / 4 < 8 by omega))
                  have cz := b3.cellv (brow_get0 32 ((tell S).take n) n (by omega) hlt)
                  have cf := b3.free n
                  have hput := brow_put 32 ((tell S).take n) (at8 (tell S) n) n hlk hlt
                  rw [← htk] at hput
                  have k6 : N (at32 S.list (n / 4)) / 2 ^ (24 - 8 * (n % 4)) % 256 = B (at8 (tell S) n) := by
                    rw [N_shr, hta]
                    have := B_of_N (at32 S.list (n / 4) >>> (24 - 8 * (n % 4)))
                    rw [IntKind.wrap_u8'] at this
                    exact this
                  have i4 : (n : Int) / 4 = ((n / 4 : Nat) : Int) := by omega
                  have i5 : (n : Int) % 4 = ((n % 4 : Nat) : Int) := by omega
                  have i6 : ((n / 4 : Nat) : Int) < 8 := by omega
                  have i7 : n % 4 < 4 := by omega
                  have HP := Lib.hid hput
                  have HB := Lib.hid hB
                  have H1 := Lib.hid b1
                  have H2 := Lib.hid b2
                  have H3 := Lib.hid b3
                  generalize at8 (tell S) n = y at *
                  generalize at32 S.list (n / 4) = xx at *
                  generalize n / 4 = d at *
                  generalize n % 4 = r at *
                  have i8 : 0 ≤ 24 - 8 * (r : Int) := by omega
                  have i9 : IntKind.u64.wrap (24 - 8 * (r : Int)) = 24 - 8 * (r : Int) := IntWalk.u64_in _ (by omega)
                  have i10 : (n : Int) < 32 := by omega
                  have hx0 := N_nonneg xx
                  clear hput hta htk hlk b1 b2 b3 hB
                  go_wp2_with fail
                  go_roundw
                  case rel =>
                    refine ⟨n + 1, by omega, by go_num, H1.out.off (by simp; omega) _, H2.out.off (by simp; omega) _, ?_, HB.out.setCell (by simp; omega) _⟩
                    have := H3.out.put n (u8v y)
                    rw [HP.out] at this
                    exact this
                  case measure => simp [intOf]; omega
                · have hn32 : n = 32 := by omega
                  have k4 : ¬ (n : Int) < 32 := by omega
                  rw [hn32, List.take_of_length_le (by omega), brow_full 32 _ htl] at b3
                  have HL1 : Hid (((tell S).map u8v).length = 32) := Lib.hid (by rw [List.length_map, htl])
                  have HV1 : Hid (((tell S).map u8v).toArray.all (·.oneCell') = true) := Lib.hid (u8v_one _)
                  have HL0 : Hid ((brow 32 []).length = 32) := Lib.hid rfl
                  obtain ⟨ts, hts⟩ : ∃ ts, ts = (tell S).map u8v := ⟨_, rfl⟩
                  rw [← hts] at b3 HL1 HV1
                  have HTS : Hid (ts = (sha x).map u8v) := Lib.hid (by rw [hts, HSh.out])
                  have HB := Lib.hid hB
                  clear hB hts htl hn hlt hn32 HSh
                  have i32 : (Tryd.prog.info? 46).map (·.size) = some 32 := by kernel_rfl
                  go_wp2_with (first
                    | (refine wpList_load_row rfl 46 _ rfl g8 rfl 46 ts.toArray (0, 0) _ b3 Tryd.underlying46 rfl (by rw [List.size_toArray, HL1.out]; exact i32) ?_)
                    | (refine wpList_store_row rfl 46 _ _ rfl w.heap.size ts.toArray rfl rfl 46 _ b1 (by rw [List.size_toArray, HL1.out]; exact i32) (by rw [List.size_toArray, List.size_toArray, HL1.out, HL0.out]) HV1.out ?_))
                  refine bodyPost_ret (v := .agg ts.toArray) ?_ rfl ⟨by rw [HTS.out], below_row HB.out (Nat.le_refl _) _⟩
                  refine results_cell_row rfl _ _ w.heap.size 46 _ (0, 0) _ rfl ?_ Tryd.underlying46 rfl (by rw [List.size_toArray, HL1.out]; exact i32)
                  exact b1.rowl _
end
end Go.Proofs.YthpledfjopbchaaDoor
/- Contract: the document's own Cmp. Condition: thirty-two bytes each. -/
namespace Go.Proofs.YthpledfjopbchaaDoor
open Go.RowKit
set_option maxHeartbeats 1000000 in
theorem rcmp_any (x y : List (BitVec 8)) (hx : x.length = 32) (hy : y.length = 32) (w : World) :
    Calls Tryd.prog 37 #[.agg (x.map u8v).toArray, .agg (y.map u8v).toArray] w fun e w' => e = .returned (.int .i64 (cmpL x y)) ∧ Below w.heap.size w w' := by
  obtain ⟨cx, hcx⟩ : ∃ cx, cx = x.map u8v := ⟨_, rfl⟩
  obtain ⟨cy, hcy⟩ : ∃ cy, cy = y.map u8v := ⟨_, rfl⟩
  rw [← hcx, ← hcy]
  have Hcx := Lib.hid hcx
  have Hcy := Lib.hid hcy
  have Hx := Lib.hid hx
  have Hy := Lib.hid hy
  clear hcx hcy hx hy
  go_enter Tryd.func37, Tryd.ntmps37
  go_wp2_with fail
  generalize hw0 : (w.alloc _).alloc _ = w0
  have h2 : Has w0 w.heap.size 46 (x.map u8v) := by
    subst hw0; rw [← Hcx.out]; exact (Has.made' _ _ _ _ rfl).alloc _
  have h3 : Has w0 (w.heap.size + 1) 46 (y.map u8v) := by
    subst hw0; rw [← Hcy.out]; exact Has.made1 _ _ _ _ _ rfl
  have hB : Below w.heap.size w w0 := by
    subst hw0; exact ((Below.refl _ _).alloc (Nat.le_refl _) _).alloc (by simp) _
  clear hw0
  go_loopw [5] (fun i wr => ∃ k : Nat, k ≤ 32 ∧ i = .int .i64 k ∧ x.take k = y.take k ∧ Has wr w.heap.size 46 (x.map u8v) ∧ Has wr (w.heap.size + 1) 46 (y.map u8v) ∧ Below w.heap.size w wr)
    (fun i _ => 32 - (intOf i).toNat)
  case atStart => exact ⟨0, by omega, rfl, rfl, h2, h3, hB⟩
  case round =>
    clear h2 h3 hB
    rename_i wr
    obtain ⟨k, hk, rfl, htk, h2, h3, hB⟩ := hrel
    by_cases hlt : k < 32
    · have cs := h2.cellv (at8_of x k (by rw [Hx.out]; exact hlt))
      have co := h3.cellv (at8_of y k (by rw [Hy.out]; exact hlt))
      have hsp := split_at x y k (by rw [Hx.out]; exact hlt) (by rw [Hy.out]; exact hlt) htk
      have htn := fun he => take_next x y k (by rw [Hx.out]; exact hlt) (by rw [Hy.out]; exact hlt) htk he
      have k1 : (k : Int) < 32 := by omega
      have Hsp := Lib.hid hsp
      have Htn := Lib.hid htn
      clear hsp htn htk
      generalize at8 x k = p at *
      generalize at8 y k = q at *
      by_cases hpq : B p < B q
      · have hr : cmpL x y = -1 := by rw [Hsp.out, cmpL, if_pos hpq]
        have Hr := Lib.hid hr
        clear hr
        go_wp2_with fail
        go_quiet (fail)
        go_wp2_with fail
        go_ret
        exact ⟨congrArg (fun n => Ending.returned (.int .i64 n)) Hr.out.symm, below_drewN hB _⟩
      · by_cases hqp : B q < B p
        · have hr : cmpL x y = 1 := by rw [Hsp.out, cmpL, if_neg hpq, if_pos hqp]
          have Hr := Lib.hid hr
          clear hr
          go_wp2_with fail
          go_quiet (fail)
          go_wp2_with fail
          go_quiet (fail)
          go_wp2_with fail
          go_ret
          exact ⟨congrArg (fun n => Ending.returned (.int .i64 n)) Hr.out.symm, below_drewN (below_drewN hB _) _⟩
        · have he : p = q := B_inj (by omega)
          have Ht := Lib.hid (Htn.out he)
          go_wp2_with fail
          go_quiet (fail)
          go_wp2_with fail
          go_quiet (fail)
          go_wp2_with fail
          go_roundw
          case rel => exact ⟨k + 1, by omega, by go_num, Ht.out, h2.drewN _, h3.drewN _, below_drewN hB _⟩
          case measure => simp [intOf]; omega
    · have : k = 32 := by omega
      subst this
      have hxy : x = y := by
        rw [List.take_of_length_le (by rw [Hx.out]; exact Nat.le_refl _), List.take_of_length_le (by rw [Hy.out]; exact Nat.le_refl _)] at htk
        exact htk
      have Hr := Lib.hid (show cmpL x y = 0 by rw [hxy, cmpL_self])
      clear hxy htk
      go_wp2_with fail
      go_ret
      exact ⟨congrArg (fun n => Ending.returned (.int .i64 n)) Hr.out.symm, hB⟩

end Go.Proofs.YthpledfjopbchaaDoor
/- Contracts: the law's own sets as the document's (the law's 'own'), the document's own Good, Same, Has. Condition: at most 10^5 sums. -/
namespace Go.Proofs.YthpledfjopbchaaDoor
open Go.RowKit
theorem elRef : ElT 53 46 := ⟨Tryd.underlying53, Tryd.underlying46, by kernel_rfl⟩
theorem elRefs : ElT 44 46 := ⟨Tryd.underlying44, Tryd.underlying46, by kernel_rfl⟩
theorem szRef : (Tryd.prog.info? 46).map (·.size) = some 32 := by kernel_rfl
theorem gdRef : Tryd.prog.eqGuardType Tryd.prog.depth 46 = false := by kernel_rfl
theorem rcmpS_any (x y : Su) (w : World) : Calls Tryd.prog 37 #[.agg (encU x).toArray, .agg (encU y).toArray] w fun e w' => e = .returned (.int .i64 (cmpU x y)) ∧ Below w.heap.size w w' := rcmp_any x.1 y.1 x.2 y.2 w
end Go.Proofs.YthpledfjopbchaaDoor
/- A drawn region in which three operations interleave (the second behind the first, the third wherever), with pure ones ahead and a chain behind; rows of sums put together so. No condition. -/
namespace Go.Proofs.YthpledfjopbchaaDoor
open Go.RowKit
section
variable {P : Program} {md : Region.Mode} {ops : Array Oper} {Q : Exit → Act → World → Prop}
theorem wanted_plain {o : Oper} (h : o.guard = none) (y : Nat → Option Bool) : Region.wanted o y = true := by unfold Region.wanted; rw [h]
theorem wpOp_plain {i : Nat} {o : Oper} {K : Act → World → Prop} {a : Act} {w : World} (ho : ops[i]? = some o) (hg : o.guard = none) (h : o.wp P a w K Q) : wpOp P ops Q i K a w := by
  unfold wpOp
  rw [ho]
  show if _ then _ else _
  rw [if_pos (wanted_plain hg _)]
  exact .inl h
/-- An operation leaves these worlds, with this value. -/
def Leaves (P : Program) (Q : Exit → Act → World → Prop) (S : World → Prop) (o : Oper) (a : Act) (w : World) (R : Value → World → Prop) : Prop :=
  ∀ K : Act → World → Prop, (∀ v w1, S w1 → R v w1 → K (a.put o.dst v) w1) → o.wp P a w K Q
theorem wpAnyH_tri {S : World → Prop} {fuel : Nat} {listed : Array Bool} {a : Act} {w : World} (i j k : Nat) (oi oj ok : Oper)
    (hi : ops[i]? = some oi) (hj : ops[j]? = some oj) (hk : ops[k]? = some ok) (gi : oi.guard = none) (gj : oj.guard = none) (gk : ok.guard = none)
    (nik : i ≠ k) (njk : j ≠ k)
    (b0 : Region.ready md ops listed = [i, k]) (b1 : Region.ready md ops (listed.setIfInBounds i true) = [j, k])
    (b2 : Region.ready md ops ((listed.setIfInBounds i true).setIfInBounds j true) = [k]) (b3 : Region.ready md ops ((listed.setIfInBounds i true).setIfInBounds k true) = [j])
    (b4 : Region.ready md ops (listed.setIfInBounds k true) = [i])
    (Si Sk Sj : Value → World → Prop) (Sik F : Value → Value → World → Prop)
    (cik : ∀ v u, (a.put ok.dst u).put oi.dst v = (a.put oi.dst v).put ok.dst u)
    (ckj : ∀ v v' u, (((a.put oi.dst v).put ok.dst u).put oj.dst v') = (((a.put oi.dst v).put oj.dst v').put ok.dst u))
    (h1 : Leaves P Q S oi a w Si) (h2 : Leaves P Q S ok a w Sk)
    (h3 : ∀ v w1, Si v w1 → Leaves P Q S oj (a.put oi.dst v) w1 Sj)
    (h4 : ∀ v w1, Si v w1 → Leaves P Q S ok (a.put oi.dst v) w1 (Sik v))
    (h5 : ∀ u w1, Sk u w1 → Leaves P Q S oi (a.put ok.dst u) w1 (fun v => Sik v u))
    (h6 : ∀ v v' w1, Sj v' w1 → Leaves P Q S ok ((a.put oi.dst v).put oj.dst v') w1 (F v'))
    (h7 : ∀ v u w1, Sik v u w1 → Leaves P Q S oj ((a.put oi.dst v).put ok.dst u) w1 (fun v' => F v' u))
    (h : ∀ v v' u w', S w' → F v' u w' → wpAnyH P md ops Q S fuel (((listed.setIfInBounds i true).setIfInBounds j true).setIfInBounds k true) (((a.put oi.dst v).put oj.dst v').put ok.dst u) w') :
    wpAnyH P md ops Q S (fuel + 3) listed a w := by
  have sjk : (listed.setIfInBounds i true).setIfInBounds k true = (listed.setIfInBounds k true).setIfInBounds i true := Array.setIfInBounds_comm _ _ nik
  have sijk : (((listed.setIfInBounds i true).setIfInBounds k true).setIfInBounds j true) = (((listed.setIfInBounds i true).setIfInBounds j true).setIfInBounds k true) := Array.setIfInBounds_comm _ _ (Ne.symm njk)
  have hikj : ∀ v u w1, Sik v u w1 → wpAnyH P md ops Q S (fuel + 1) ((listed.setIfInBounds i true).setIfInBounds k true) ((a.put oi.dst v).put ok.dst u) w1 := fun v u w1 s => by
    refine wpAnyH_all b3 (by simp) fun x hx => ?_
    obtain rfl : x = j := by simpa using hx
    refine wpOp_plain hj gj (h7 v u w1 s _ fun v' w2 e2 f => ?_)
    rw [ckj, sijk]
    exact ⟨e2, h v v' u w2 e2 f⟩
  refine wpAnyH_all b0 (by simp) fun x hx => ?_
  rcases (show x = i ∨ x = k by simpa using hx) with rfl | rfl
  · refine wpOp_plain hi gi (h1 _ fun v w1 e1 s1 => ⟨e1, ?_⟩)
    refine wpAnyH_all b1 (by simp) fun y hy => ?_
    rcases (show y = j ∨ y = k by simpa using hy) with rfl | rfl
    · refine wpOp_plain hj gj (h3 v w1 s1 _ fun v' w2 e2 s2 => ⟨e2, ?_⟩)
      refine wpAnyH_all b2 (by simp) fun z hz => ?_
      obtain rfl : z = k := by simpa using hz
      exact wpOp_plain hk gk (h6 v v' w2 s2 _ fun u w3 e3 f => ⟨e3, h v v' u w3 e3 f⟩)
    · exact wpOp_plain hk gk (h4 v w1 s1 _ fun u w2 e2 s2 => ⟨e2, hikj v u w2 s2⟩)
  · refine wpOp_plain hk gk (h2 _ fun u w1 e1 s1 => ⟨e1, ?_⟩)
    refine wpAnyH_all b4 (by simp) fun y hy => ?_
    obtain rfl : y = i := by simpa using hy
    refine wpOp_plain hi gi (h5 u w1 s1 _ fun v w2 e2 s2 => ⟨e2, ?_⟩)
    rw [cik, ← sjk]
    exact hikj v u w2 s2
/-- A chain: each operation alone may be next. -/
def chB (md : Region.Mode) (ops : Array Oper) : List Nat → Array Bool → Bool
  | [], listed => (Region.ready md ops listed).isEmpty
  | i :: r, listed => decide (Region.ready md ops listed = [i]) && chB md ops r (listed.setIfInBounds i true)
def wpCh (P : Program) (Q : Exit → Act → World → Prop) (S : World → Prop) : List Oper → Act → World → Prop
  | [], a, w => Q .normal a w
  | o :: r, a, w => o.guard = none ∧ ∃ R : Value → World → Prop, Leaves P Q S o a w R ∧ ∀ v w', S w' → R v w' → wpCh P Q S r (a.put o.dst v) w'
/-- A run of pure operations at a region's head. -/
def purB (md : Region.Mode) (ops : Array Oper) : List Nat → Array Bool → Bool
  | [], _ => true
  | i :: r, listed => Region.free md ops listed i && ((Region.ready md ops listed).contains i && purB md ops r (listed.setIfInBounds i true))
def setAll : List Nat → Array Bool → Array Bool
  | [], l => l
  | i :: r, l => setAll r (l.setIfInBounds i true)
def wpPur (P : Program) (ops : Array Oper) (w : World) (K : Act → Prop) : List Oper → Act → Prop
  | [], a => K a
  | o :: r, a => ∃ v, YieldsIf P ops (Ext w) o v a ∧ wpPur P ops w K r (a.put o.dst v)
def pickPur (l : List Oper) : List Nat → List Oper
  | [] => []
  | i :: r => match l[i]? with
    | some o => o :: pickPur l r
    | none => pickPur l r
theorem wpAnyH_pur (hs : Region.noSelect ops = true) (hQ : ∀ c a d v w, Q (.panic c) (a.put d v) w → Q (.panic c) a w) (fuel : Nat) :
    ∀ (l : List Nat) (listed : Array Bool) (a : Act) (w : World), purB md ops l listed = true → (l.all fun x => decide (x < ops.size)) = true →
      wpPur P ops w (fun a' => wpAnyH P md ops Q (Ext w) fuel (setAll l listed) a' w) (pickPur ops.toList l) a → wpAnyH P md ops Q (Ext w) (fuel + l.length) listed a w
  | [], _, _, _, _, _, h => h
  | i :: r, listed, a, w, hB, hl, h => by
    simp only [List.all_cons, Bool.and_eq_true, decide_eq_true_eq] at hl
    have ho : ops.toList[i]? = some ops[i] := by simp [hl.1]
    have ho' : ops[i]? = some ops[i] := by simp [hl.1]
    rw [pickPur, ho] at h
    obtain ⟨v, hy, hr⟩ := h
    simp only [purB, Bool.and_eq_true] at hB
    exact wpAnyH_take ho' hs hB.1 hB.2.1 (fun c a w => hQ c a _ v w) hy (Ext.refl w) (wpAnyH_pur hs hQ fuel r _ _ _ hB.2.2 hl.2 hr)
theorem wpAnyH_ch {S : World → Prop} : ∀ (l : List Nat) (fuel : Nat) (listed : Array Bool) (a : Act) (w : World), l.length ≤ fuel → chB md ops l listed = true → (l.all fun x => decide (x < ops.size)) = true →
      wpCh P Q S (pickPur ops.toList l) a w → wpAnyH P md ops Q S fuel listed a w
  | [], fuel, listed, a, w, _, hB, _, h => wpAnyH_done (by simpa [chB] using hB) h fuel
  | i :: r, 0, _, _, _, hl, _, _, _ => absurd hl (by simp)
  | i :: r, fuel + 1, listed, a, w, hl, hB, ha, h => by
    simp only [List.all_cons, Bool.and_eq_true, decide_eq_true_eq] at ha
    have ho : ops.toList[i]? = some ops[i] := by simp [ha.1]
    have ho' : ops[i]? = some ops[i] := by simp [ha.1]
    rw [pickPur, ho] at h
    obtain ⟨hg, R, h1, h2⟩ := h
    simp only [chB, Bool.and_eq_true, decide_eq_true_eq] at hB
    refine wpAnyH_all hB.1 (by simp) fun x hx => ?_
    obtain rfl : x = i := by simpa using hx
    exact wpOp_plain ho' hg (h1 _ fun v w' hs hr => ⟨hs, wpAnyH_ch r fuel _ _ _ (by simpa using hl) hB.2 ha.2 (h2 v w' hs hr)⟩)
theorem ch_step {S : World → Prop} {o : Oper} {r : List Oper} {a : Act} {w : World} (hg : o.guard = none) (R : Value → World → Prop) (h1 : Leaves P Q S o a w R) (h2 : ∀ v w', S w' → R v w' → wpCh P Q S r (a.put o.dst v) w') : wpCh P Q S (o :: r) a w := ⟨hg, R, h1, h2⟩
theorem ch_pure {S : World → Prop} {o : Oper} {r : List Oper} {a : Act} {w : World} {v : Value} (hg : o.guard = none) (hS : S w) (hy : (execOp a.eval o).run P w = .ok (.value v) w) (h : wpCh P Q S r (a.put o.dst v) w) : wpCh P Q S (o :: r) a w :=
  ⟨hg, fun u w' => u = v ∧ w' = w, fun K hK => by unfold Oper.wp; rw [hy]; exact hK _ _ hS ⟨rfl, rfl⟩, by rintro _ _ _ ⟨rfl, rfl⟩; exact h⟩
theorem ch_nil {S : World → Prop} {a : Act} {w : World} (h : Q .normal a w) : wpCh P (NoPanic Q) S [] a w := h
theorem pur_step {o : Oper} {r : List Oper} {a : Act} {w : World} {K : Act → Prop} {v : Value} (hw : Region.wanted o (yielded ops a.tmps) = true)
    (hy : ∀ w', Ext w w' → (execOp a.eval o).run P w' = .ok (.value v) w') (h : wpPur P ops w K r (a.put o.dst v)) : wpPur P ops w K (o :: r) a := ⟨v, .inl ⟨hw, hy⟩, h⟩
theorem pur_nil {a : Act} {w : World} {K : Act → Prop} (h : K a) : wpPur P ops w K [] a := h
end
theorem wpPur_mono {P : Program} {ops : Array Oper} {w : World} {K K' : Act → Prop} (hK : ∀ a, K a → K' a) : ∀ (l : List Oper) (a : Act), wpPur P ops w K l a → wpPur P ops w K' l a
  | [], a, h => hK a h
  | _ :: r, _, h => by
    obtain ⟨v, hy, hr⟩ := h
    exact ⟨v, hy, wpPur_mono hK r _ hr⟩
/-- What the three of them ask and leave. -/
def TriGoal (P : Program) (Q : Exit → Act → World → Prop) (oi oj ok : Oper) (S : World → Prop) (C : Act → World → Prop) (w : World) (a : Act) : Prop :=
  ∃ (Si Sk Sj : Value → World → Prop) (Sik F : Value → Value → World → Prop),
    Leaves P Q S oi a w Si ∧ Leaves P Q S ok a w Sk ∧
    (∀ v w1, Si v w1 → Leaves P Q S oj (a.put oi.dst v) w1 Sj) ∧
    (∀ v w1, Si v w1 → Leaves P Q S ok (a.put oi.dst v) w1 (Sik v)) ∧
    (∀ u w1, Sk u w1 → Leaves P Q S oi (a.put ok.dst u) w1 (fun v => Sik v u)) ∧
    (∀ v v' w1, Sj v' w1 → Leaves P Q S ok ((a.put oi.dst v).put oj.dst v') w1 (F v')) ∧
    (∀ v u w1, Sik v u w1 → Leaves P Q S oj ((a.put oi.dst v).put ok.dst u) w1 (fun v' => F v' u)) ∧
    ∀ v v' u w', S w' → F v' u w' → C (((a.put oi.dst v).put oj.dst v').put ok.dst u) w'
def triB (q : Array Oper) (l : List Nat) (i j k : Nat) (l2 : List Nat) : Bool :=
  let l0 := setAll l (Array.replicate q.size false)
  (decide (q.size = l2.length + 3 + l.length) && (purB .any q l (Array.replicate q.size false) && l.all fun x => decide (x < q.size))) &&
  ((decide (Region.ready .any q l0 = [i, k]) && decide (Region.ready .any q (l0.setIfInBounds i true) = [j, k])) &&
  ((decide (Region.ready .any q ((l0.setIfInBounds i true).setIfInBounds j true) = [k]) && decide (Region.ready .any q ((l0.setIfInBounds i true).setIfInBounds k true) = [j])) &&
  (decide (Region.ready .any q (l0.setIfInBounds k true) = [i]) && (chB .any q l2 (((l0.setIfInBounds i true).setIfInBounds j true).setIfInBounds k true) && l2.all fun x => decide (x < q.size)))))
theorem wp_region_tri {P : Program} {Q : Exit → Act → World → Prop} {id : Nat} {a : Act} {w : World} {lo : List Oper} (l : List Nat) (i j k : Nat) (l2 : List Nat) (oi oj ok : Oper)
    (hi : lo[i]? = some oi) (hj : lo[j]? = some oj) (hk : lo[k]? = some ok) (gi : oi.guard = none) (gj : oj.guard = none) (gk : ok.guard = none) (nik : i ≠ k) (njk : j ≠ k)
    (di : ∀ d, ok.dst = some d → oi.dst ≠ some d) (dj : ∀ d, ok.dst = some d → oj.dst ≠ some d)
    (hm : P.follows .mixedOrders = true) (hs : Region.noSelect lo.toArray = true) (q : Array Oper) (hB : triB q l i j k l2 = true) (hq : lo.toArray = q)
    (h : wpPur P lo.toArray w.drew (TriGoal P (NoPanic Q) oi oj ok (Ext w.drew) (wpCh P (NoPanic Q) (Ext w.drew) (pickPur lo l2)) w.drew) (pickPur lo l) a) : (Code.region id lo.toArray true).wp P Q a w := by
  subst hq
  unfold triB at hB
  simp only [Bool.and_eq_true, decide_eq_true_eq] at hB
  obtain ⟨⟨b0, b1, b2⟩, ⟨b3, b4⟩, ⟨b5, b6⟩, b7, b8, b9⟩ := hB
  refine wp_region_noPanic (wp_region_held_drew (S := Ext w.drew) hm (Ext.refl _) fun _ => ?_)
  have hi' : lo.toArray[i]? = some oi := by simpa using hi
  have hj' : lo.toArray[j]? = some oj := by simpa using hj
  have hk' : lo.toArray[k]? = some ok := by simpa using hk
  refine (congrArg (fun n => wpAnyH P .any lo.toArray (NoPanic Q) (Ext w.drew) n (Array.replicate lo.toArray.size false) a w.drew) b0).mpr ?_
  refine wpAnyH_pur hs (fun _ _ _ _ _ h => h) _ l _ _ _ b1 b2 ?_
  refine wpPur_mono (fun a' h' => ?_) _ _ h
  obtain ⟨Si, Sk, Sj, Sik, F, h1, h2, h3, h4, h5, h6, h7, h8⟩ := h'
  exact wpAnyH_tri i j k oi oj ok hi' hj' hk' gi gj gk nik njk b3 b4 b5 b6 b7 Si Sk Sj Sik F (fun v u => Act.put_comm _ u v di) (fun v v' u => Act.put_comm _ u v' dj) h1 h2 h3 h4 h5 h6 h7 fun v v' u w' e f =>
    wpAnyH_ch l2 _ _ _ _ (Nat.le_refl _) b8 b9 (h8 v v' u w' e f)
theorem Has.grown {w w' : World} {g : Nat} {t : TypeId} {l : List Value} {row : Option Nat} (h : Has w g t l) (hg : w.grownBy w' row) (hne : some g ≠ row) : Has w' g t l := (hg.block g h.lt hne).trans h
theorem ext_alloc (w : World) (o : Obj) : Ext w (w.alloc o) := (Below.refl _ _).alloc (Nat.le_refl _) o
theorem ext_grownU {b : Nat} {w w' : World} {v : Value} {E : TypeId} {L : List Su} (hb : b ≤ w.heap.size) (hg : w.grownBy w' v.ownBlock) (ho : OwnU w b E v L) : Below b w w' :=
  (Below.refl b w).grown hg hb (fun k hk => ho.base k hk)
/-- A row of none, some sums put behind it, one sum's own row: in whatever order. -/
theorem tri_goalU {Q : Exit → Act → World → Prop} {oi oj ok : Oper} {C : Act → World → Prop} {a : Act} {w : World} (T E : TypeId) (hT : ElT T E) (s x y : Operand)
    (hoi : oi.op = .buildSlice T 0 #[]) (hoj : oj.op = .call { callee := .builtin .append, args := #[s, x], argTypes := #[T, T] }) (hok : ok.op = .buildSlice T 1 #[(0, y)])
    (q : Option Addr) (l : List Su) (m cap : Nat) (b : Su) (hm : l.length = m) (hq : q = none → cap = 0) (hn : m ≤ 4000000) (hsee : Sees w w.heap.size q (rowU l))
    (es : ∀ v, (a.put oi.dst v).eval s = v) (es2 : ∀ v u, ((a.put oi.dst v).put ok.dst u).eval s = v)
    (ex : ∀ v, (a.put oi.dst v).eval x = .slice q m cap) (ex2 : ∀ v u, ((a.put oi.dst v).put ok.dst u).eval x = .slice q m cap)
    (ey : a.eval y = .agg (encU b).toArray) (ey2 : ∀ v, (a.put oi.dst v).eval y = .agg (encU b).toArray) (ey3 : ∀ v v', ((a.put oi.dst v).put oj.dst v').eval y = .agg (encU b).toArray)
    (h : ∀ v v' u w', Ext w w' → OwnU w' w.heap.size E v' l → (∃ g, u = .slice (some ⟨g, 0, none⟩) 1 1 ∧ Has w' g E (encU b)) → C (((a.put oi.dst v).put oj.dst v').put ok.dst u) w') :
    TriGoal Tryd.prog Q oi oj ok (Ext w) C w a := by
  have new : ∀ (w1 : World), Has (w1.alloc (.cells (encU b).toArray E)) w1.heap.size E (encU b) := fun w1 => Has.made' w1 _ _ _ rfl
  have ext : ∀ (w1 : World) (o : Obj), Ext w w1 → Ext w (w1.alloc o) := fun w1 o h => Below.alloc h h.size o
  refine ⟨fun v w1 => OwnU w1 w.heap.size E v [] ∧ Ext w w1, fun u w1 => (∃ g, u = .slice (some ⟨g, 0, none⟩) 1 1 ∧ Has w1 g E (encU b)) ∧ Ext w w1,
    fun v' w1 => OwnU w1 w.heap.size E v' l ∧ Ext w w1,
    fun v u w1 => OwnU w1 w.heap.size E v [] ∧ (∃ g, u = .slice (some ⟨g, 0, none⟩) 1 1 ∧ Has w1 g E (encU b) ∧ some g ≠ v.ownBlock) ∧ Ext w w1,
    fun v' u w1 => OwnU w1 w.heap.size E v' l ∧ (∃ g, u = .slice (some ⟨g, 0, none⟩) 1 1 ∧ Has w1 g E (encU b)), ?_, ?_, ?_, ?_, ?_, ?_, ?_, ?_⟩
  · exact fun K hK => wp_none_su T E hT hoi (hK _ _ (ext _ _ (Ext.refl w)) ⟨OwnU.empty w _ E (Nat.le_refl _), ext _ _ (Ext.refl w)⟩)
  · exact fun K hK => wp_one_su T E hT y hok b ey (hK _ _ (ext _ _ (Ext.refl w)) ⟨⟨_, rfl, new w⟩, ext _ _ (Ext.refl w)⟩)
  · rintro v w1 ⟨ho, he⟩ K hK
    refine wp_append_su T E hT s x hoj w.heap.size v [] (es v) ho q l m cap w.heap.size hm (ex v) hq (hsee.keep he) (by simpa using hn) he.size fun v' w2 h1 h2 => ?_
    have hb := Below.trans he (ext_grownU he.size h2 ho)
    exact hK _ _ hb ⟨by simpa using h1, hb⟩
  · rintro v w1 ⟨ho, he⟩ K hK
    exact wp_one_su T E hT y hok b (ey2 v) (hK _ _ (ext _ _ he) ⟨World.ownsRow.alloc ho _, ⟨_, rfl, new w1, fun e => by have := (World.ownsRow.lt ho _ e.symm).2; omega⟩, ext _ _ he⟩)
  · rintro u w1 ⟨⟨g, rfl, hc⟩, he⟩ K hK
    have hg := hc.lt
    refine wp_none_su T E hT hoi (hK _ _ (ext _ _ he) ⟨OwnU.empty w1 _ E he.size, ⟨g, rfl, hc.alloc _, fun e => ?_⟩, ext _ _ he⟩)
    injection e with e
    have e2 : g = w1.heap.size := e
    omega
  · rintro v v' w1 ⟨ho, he⟩ K hK
    exact wp_one_su T E hT y hok b (ey3 v v') (hK _ _ (ext _ _ he) ⟨World.ownsRow.alloc ho _, ⟨_, rfl, new w1⟩⟩)
  · rintro v u w1 ⟨ho, ⟨g, rfl, hc, hne⟩, he⟩ K hK
    refine wp_append_su T E hT s x hoj w.heap.size v [] (es2 v _) ho q l m cap w.heap.size hm (ex2 v _) hq (hsee.keep he) (by simpa using hn) he.size fun v' w2 h1 h2 => ?_
    exact hK _ _ (Below.trans he (ext_grownU he.size h2 ho)) ⟨by simpa using h1, ⟨g, rfl, hc.grown h2 hne⟩⟩
  · rintro v v' u w' e ⟨h1, h2⟩
    exact h v v' u w' e h1 h2
/-- Sums put behind a row of the call's own. -/
theorem leaves_moreU {Q : Exit → Act → World → Prop} {o : Oper} {a : Act} {w0 w : World} (T E : TypeId) (hT : ElT T E) (s x : Operand) (ho : o.op = .call { callee := .builtin .append, args := #[s, x], argTypes := #[T, T] })
    (v : Value) (L : List Su) (hs : a.eval s = v) (hown : OwnU w w0.heap.size E v L) (he : Ext w0 w)
    (q : Option Addr) (l : List Su) (m cap b : Nat) (hm : l.length = m) (hx : a.eval x = .slice q m cap) (hq : q = none → cap = 0) (hl : Sees w b q (rowU l)) (hbytes : L.length + m ≤ 4000000) :
    Leaves Tryd.prog Q (Ext w0) o a w (fun v' w' => OwnU w' w0.heap.size E v' (L ++ l)) := fun _ hK =>
  wp_append_su T E hT s x ho w0.heap.size v L hs hown q l m cap b hm hx hq hl hbytes he.size fun _ _ h1 h2 => hK _ _ (Below.trans he (ext_grownU he.size h2 hown)) h1
theorem slice_headU {o : Oper} {a : Act} {w : World} (T E : TypeId) (hT : ElT T E) (x y : Operand) (q : Option Addr) (n c k : Nat) (ho : o.op = .slice T x none (some y) none) (hx : a.eval x = .slice q n c) (hy : a.eval y = .int .i64 (k : Int)) (hk : k ≤ c) :
    (execOp a.eval o).run Tryd.prog w = .ok (.value (.slice q k c)) w := by
  have h := head_su T E hT q n c k hk w
  unfold execOp
  simp [ho, hx, hy, Instr.sliceAt, run_underlying hT.1, h]
theorem slice_tailU {o : Oper} {a : Act} {w : World} (T E : TypeId) (hT : ElT T E) (x y : Operand) (q : Option Addr) (n c k : Nat) (ho : o.op = .slice T x (some y) none none) (hx : a.eval x = .slice q n c) (hy : a.eval y = .int .i64 (k : Int)) (hk : k ≤ n) :
    (execOp a.eval o).run Tryd.prog w = .ok (.value (.slice (if c = k then q else q.map (·.add (k * 32))) (n - k) (c - k))) w := by
  have h := cut_su T E hT q n c k hk w
  unfold execOp
  simp [ho, hx, hy, Instr.sliceAt, run_underlying hT.1, h]
end Go.Proofs.YthpledfjopbchaaDoor
/- Contract: the document's own Of. Condition: at most 10^5 sums. -/
namespace Go.Proofs.YthpledfjopbchaaDoor
open Go.RowKit
/-- R is the set of L. -/
def Srtd (L R : List Su) : Prop := AscU R ∧ ∀ x, x ∈ R ↔ x ∈ L
theorem srtd_same {L R : List Su} {x : Su} (h : Srtd L R) (hx : x ∈ R) : Srtd (L ++ [x]) R := ⟨h.1, fun y => by
  rw [List.mem_append, List.mem_singleton]
  constructor
  · intro hy; exact .inl ((h.2 y).1 hy)
  · rintro (h1 | rfl)
    · exact (h.2 y).2 h1
    · exact hx⟩
theorem before_allU {R : List Su} {x : Su} {k : Nat} (h : AscU R) (hk : k < R.length) (h1 : cmpU R[k] x = -1) : ∀ y ∈ R.take (k + 1), cmpU y x = -1 := by
  intro y hy
  obtain ⟨j, hj, rfl⟩ := List.mem_take_iff_getElem.1 hy
  by_cases e : j = k
  · subst e; exact h1
  · have h2 := List.pairwise_iff_getElem.1 h j k (by omega) hk (by omega)
    exact cmpU_ltle h2 (by omega)
theorem after_moreU {R : List Su} {x : Su} {k : Nat} (hk : k < R.length) (h1 : cmpU R[k] x = 1) (h : ∀ y ∈ R.drop (k + 1), cmpU y x = 1) : ∀ y ∈ R.drop k, cmpU y x = 1 := by
  rw [List.drop_eq_getElem_cons hk]
  intro y hy
  rcases List.mem_cons.1 hy with rfl | hy
  · exact h1
  · exact h y hy
theorem srtd_put {L R : List Su} {x : Su} {k : Nat} (h : Srtd L R) (ha : ∀ y ∈ R.drop k, cmpU y x = 1) (hb : ∀ y ∈ R.take k, cmpU y x = -1) : Srtd (L ++ [x]) (R.take k ++ [x] ++ R.drop k) := by
  have hr : AscU (R.take k ++ R.drop k) := by rw [List.take_append_drop]; exact h.1
  obtain ⟨h1, h2, h3⟩ := List.pairwise_append.1 hr
  refine ⟨List.pairwise_append.2 ⟨List.pairwise_append.2 ⟨h1, by simp, fun y hy z hz => ?_⟩, h2, fun y hy z hz => ?_⟩, fun y => ?_⟩
  · rw [List.mem_singleton.1 hz]; exact hb y hy
  · rcases List.mem_append.1 hy with hy | hy
    · exact h3 y hy z hz
    · rw [List.mem_singleton.1 hy]
      have h4 := ha z hz
      have h5 := cmpU_neg x z
      omega
  · have hm : y ∈ R ↔ y ∈ R.take k ∨ y ∈ R.drop k := by rw [← List.mem_append, List.take_append_drop]
    rw [List.mem_append, List.mem_append, List.mem_append, List.mem_singleton]
    constructor
    · rintro ((h4 | rfl) | h4)
      · exact .inl ((h.2 y).1 (hm.2 (.inl h4)))
      · exact .inr rfl
      · exact .inl ((h.2 y).1 (hm.2 (.inr h4)))
    · rintro (h4 | rfl)
      · rcases hm.1 ((h.2 y).2 h4) with h6 | h6
        · exact .inl (.inl h6)
        · exact .inr h6
      · exact .inl (.inr rfl)
noncomputable def ops9r : Array Oper := regOf Tryd.f23.body 9
set_option maxRecDepth 100000 in
theorem chk9r : triB ops9r [1, 2, 3, 5, 6, 7, 8, 11, 12, 13] 0 4 9 [10, 14, 15] = true := by kernel_rfl
set_option maxHeartbeats 16000000 in
set_option maxRecDepth 100000 in
theorem rof0_any (L : List Su) (q : Option Addr) (c : Nat) (hm : L.length ≤ 100000) (w : World) (hs : Sees w w.heap.size q (rowU L)) :
    Calls Tryd.prog 23 #[.slice q L.length c] w fun e w' => (∃ v, e = .returned v ∧ Us w' v (srt L)) ∧ Below w.heap.size w w' := by
  have HS := Lib.hid hs
  have HNIL := Lib.hid (Us.nil w)
  clear hs
  go_enter Tryd.func23, Tryd.ntmps23
  go_wp2_with fail
  go_loopw [3, 4, 5] (fun v vi _ wr => ∃ (R : List Su) (i : Nat), i ≤ L.length ∧ vi = .int .i64 i ∧ Srtd (L.take i) R ∧ R.length ≤ i ∧ Us wr v R ∧ Below w.heap.size w wr) (fun _ vi _ _ => L.length - (intOf vi).toNat)
  case atStart => exact ⟨[], 0, by omega, rfl, ⟨by simp, by simp⟩, Nat.le_refl _, HNIL.out, Below.refl _ _⟩
  case round =>
    rename_i wr
    obtain ⟨w1, hw1⟩ : ∃ w1 : World, w1 = wr := ⟨_, rfl⟩
    rw [← hw1] at hrel ⊢
    clear hw1
    clear wr
    obtain ⟨R, i, hi, rfl, hsrt, hrl, ⟨qr, cr, rfl, hrc, hqr, htn⟩, hB⟩ := hrel
    have HSRT := Lib.hid hsrt
    have HTN := Lib.hid htn
    have HB := Lib.hid hB
    clear hsrt htn hB
    by_cases hlt : i < L.length
    · obtain ⟨ad, rfl, _, hc⟩ := Ss.el HS.out hlt
      have HTK : Hid (L.take (i + 1) = L.take i ++ [L[i]]) := Lib.hid (by rw [List.take_add_one, List.getElem?_eq_getElem hlt]; rfl)
      generalize L[i] = x at *
      have HCX : Hid (∀ w', Below w.heap.size w w' → ∀ j u, (encU x)[j]? = some u → w'.cell? ((ad.add (i * 32)).add j) = some u) := Lib.hid hc
      have kk : (i : Int) < (L.length : Int) := by omega
      clear hc
      go_wp2_with fail
      go_loopw [5] (fun vk wk => ∃ k : Nat, k ≤ R.length ∧ vk = .int .i64 k ∧ (∀ y ∈ R.drop k, cmpU y x = 1) ∧ Below w1.heap.size w1 wk) (fun vk _ => (intOf vk).toNat)
      case atStart => exact ⟨R.length, Nat.le_refl _, rfl, by simp, Below.refl _ _⟩
      case round =>
        obtain ⟨k, hk, rfl, haft, hbk⟩ := hrel
        have HAFT := Lib.hid haft
        have HBK := Lib.hid hbk
        replace HB := Lib.hid (HB.out.trans (hbk.mono HB.out.size))
        clear haft hbk
        by_cases hk0 : k = 0
        · subst hk0
          have HPUT : Hid (Srtd (L.take (i + 1)) (R.take 0 ++ [x] ++ R.drop 0)) := Lib.hid (by rw [HTK.out]; exact srtd_put HSRT.out HAFT.out (by simp))
          go_wp2_with fail
          refine wp_region_org [(0, true), (1, true), (2, true), (3, true), (4, true), (5, true), (6, true), (7, true), (8, true), (9, true), (10, true), (11, true), (12, false), (13, true), (14, true)] (by kernel_rfl) (by kernel_rfl) (by kernel_rfl) ?_
          replace HB := Lib.hid HB.out.drew
          replace HBK := Lib.hid HBK.out.drew
          generalize wr.drew = wd at *
          simp only [pickOrs, List.getElem?_cons_zero, List.getElem?_cons_succ]
          refine org_pure (v := ?_) (by kernel_rfl) ?_ ?_
          rotate_left
          · intro w' hv; clear hv; go_simp; try with_reducible rfl
          try simp only [Act.put, List.setIfInBounds_toArray, List.set_cons_zero, List.set_cons_succ]
          refine org_pure (v := ?_) (by kernel_rfl) ?_ ?_
          rotate_left
          · intro w' hv; clear hv; go_simp; try with_reducible rfl
          try simp only [Act.put, List.setIfInBounds_toArray, List.set_cons_zero, List.set_cons_succ]
          refine org_pure (v := ?_) (by kernel_rfl) ?_ ?_
          rotate_left
          · intro w' hv; clear hv; go_simp; try with_reducible rfl
          try simp only [Act.put, List.setIfInBounds_toArray, List.set_cons_zero, List.set_cons_succ]
          refine org_skip (by kernel_rfl) ?_
          try simp only [Act.put, List.setIfInBounds_toArray, List.set_cons_zero, List.set_cons_succ]
          refine org_skip (by kernel_rfl) ?_
          try simp only [Act.put, List.setIfInBounds_toArray, List.set_cons_zero, List.set_cons_succ]
          refine org_skip (by kernel_rfl) ?_
          try simp only [Act.put, List.setIfInBounds_toArray, List.set_cons_zero, List.set_cons_succ]
          refine org_skip (by kernel_rfl) ?_
          try simp only [Act.put, List.setIfInBounds_toArray, List.set_cons_zero, List.set_cons_succ]
          refine org_skip (by kernel_rfl) ?_
          try simp only [Act.put, List.setIfInBounds_toArray, List.set_cons_zero, List.set_cons_succ]
          refine org_skip (by kernel_rfl) ?_
          try simp only [Act.put, List.setIfInBounds_toArray, List.set_cons_zero, List.set_cons_succ]
          refine org_skip (by kernel_rfl) ?_
          try simp only [Act.put, List.setIfInBounds_toArray, List.set_cons_zero, List.set_cons_succ]
          refine org_skip (by kernel_rfl) ?_
          try simp only [Act.put, List.setIfInBounds_toArray, List.set_cons_zero, List.set_cons_succ]
          refine org_skip (by kernel_rfl) ?_
          try simp only [Act.put, List.setIfInBounds_toArray, List.set_cons_zero, List.set_cons_succ]
          refine org_pass (by kernel_rfl) ?_
          try simp only [Act.put, List.setIfInBounds_toArray, List.set_cons_zero, List.set_cons_succ]
          refine org_skip (by kernel_rfl) ?_
          try simp only [Act.put, List.setIfInBounds_toArray, List.set_cons_zero, List.set_cons_succ]
          refine org_pure (v := ?_) (by kernel_rfl) ?_ ?_
          rotate_left
          · intro w' hv; clear hv; go_simp; try with_reducible rfl
          try simp only [Act.put, List.setIfInBounds_toArray, List.set_cons_zero, List.set_cons_succ]
          refine org_nil ?_
          go_wp2_with fail
          refine wp_region_org [(0, true), (1, true), (2, true), (3, true), (4, true), (5, true), (6, true), (7, true), (8, true), (9, true), (10, true), (11, true), (12, true), (13, true)] (by kernel_rfl) (by kernel_rfl) (by kernel_rfl) ?_
          replace HB := Lib.hid HB.out.drew
          replace HBK := Lib.hid HBK.out.drew
          generalize wd.drew = we at *
          simp only [pickOrs, List.getElem?_cons_zero, List.getElem?_cons_succ]
          refine org_pure (v := ?_) (by kernel_rfl) ?_ ?_
          rotate_left
          · intro w' hv; clear hv; go_simp; try with_reducible rfl
          try simp only [Act.put, List.setIfInBounds_toArray, List.set_cons_zero, List.set_cons_succ]
          refine org_pure (v := ?_) (by kernel_rfl) ?_ ?_
          rotate_left
          · intro w' hv; clear hv; go_simp; try with_reducible rfl
          try simp only [Act.put, List.setIfInBounds_toArray, List.set_cons_zero, List.set_cons_succ]
          refine org_pure (v := ?_) (by kernel_rfl) ?_ ?_
          rotate_left
          · intro w' hv; clear hv; go_simp; try with_reducible rfl
          try simp only [Act.put, List.setIfInBounds_toArray, List.set_cons_zero, List.set_cons_succ]
          refine org_skip (by kernel_rfl) ?_
          try simp only [Act.put, List.setIfInBounds_toArray, List.set_cons_zero, List.set_cons_succ]
          refine org_skip (by kernel_rfl) ?_
          try simp only [Act.put, List.setIfInBounds_toArray, List.set_cons_zero, List.set_cons_succ]
          refine org_skip (by kernel_rfl) ?_
          try simp only [Act.put, List.setIfInBounds_toArray, List.set_cons_zero, List.set_cons_succ]
          refine org_skip (by kernel_rfl) ?_
          try simp only [Act.put, List.setIfInBounds_toArray, List.set_cons_zero, List.set_cons_succ]
          refine org_skip (by kernel_rfl) ?_
          try simp only [Act.put, List.setIfInBounds_toArray, List.set_cons_zero, List.set_cons_succ]
          refine org_skip (by kernel_rfl) ?_
          try simp only [Act.put, List.setIfInBounds_toArray, List.set_cons_zero, List.set_cons_succ]
          refine org_skip (by kernel_rfl) ?_
          try simp only [Act.put, List.setIfInBounds_toArray, List.set_cons_zero, List.set_cons_succ]
          refine org_skip (by kernel_rfl) ?_
          try simp only [Act.put, List.setIfInBounds_toArray, List.set_cons_zero, List.set_cons_succ]
          refine org_skip (by kernel_rfl) ?_
          try simp only [Act.put, List.setIfInBounds_toArray, List.set_cons_zero, List.set_cons_succ]
          refine org_skip (by kernel_rfl) ?_
          try simp only [Act.put, List.setIfInBounds_toArray, List.set_cons_zero, List.set_cons_succ]
          refine org_pure (v := ?_) (by kernel_rfl) ?_ ?_
          rotate_left
          · intro w' hv; clear hv; go_simp; try with_reducible rfl
          try simp only [Act.put, List.setIfInBounds_toArray, List.set_cons_zero, List.set_cons_succ]
          refine org_nil ?_
          go_wp2_with fail
          refine wp_region_tri [1, 2, 3, 5, 6, 7, 8, 11, 12, 13] 0 4 9 [10, 14, 15] _ _ _ rfl rfl rfl rfl rfl rfl (by decide) (by decide) (by intro d h; cases h; decide) (by intro d h; cases h; decide) (by kernel_rfl) (by kernel_rfl) _ chk9r rfl ?_
          replace HB := Lib.hid HB.out.drew
          replace HBK := Lib.hid HBK.out.drew
          generalize we.drew = wf at *
          simp only [pickPur, List.getElem?_cons_zero, List.getElem?_cons_succ]
          refine pur_step (v := ?_) (by kernel_rfl) ?_ ?_
          rotate_left
          · intro w' hv; clear hv; go_simp; try with_reducible rfl
          try simp only [Act.put, List.setIfInBounds_toArray, List.set_cons_zero, List.set_cons_succ]
          refine pur_step (v := ?_) (by kernel_rfl) ?_ ?_
          rotate_left
          · intro w' hv; clear hv; go_simp; try with_reducible rfl
          try simp only [Act.put, List.setIfInBounds_toArray, List.set_cons_zero, List.set_cons_succ]
          refine pur_step (v := .slice qr 0 cr) (by kernel_rfl) (fun w' hv => ?_) ?_
          · exact slice_headU 53 46 elRef (.tmp 46) (.tmp 47) qr R.length cr 0 rfl rfl rfl (by omega)
          try simp only [Act.put, List.setIfInBounds_toArray, List.set_cons_zero, List.set_cons_succ]
          refine pur_step (v := ?_) (by kernel_rfl) ?_ ?_
          rotate_left
          · intro w' hv; clear hv; go_simp; try with_reducible rfl
          try simp only [Act.put, List.setIfInBounds_toArray, List.set_cons_zero, List.set_cons_succ]
          refine pur_step (v := ?_) (by kernel_rfl) ?_ ?_
          rotate_left
          · intro w' hv; clear hv; go_simp; try with_reducible rfl
          try simp only [Act.put, List.setIfInBounds_toArray, List.set_cons_zero, List.set_cons_succ]
          refine pur_step (v := ?_) (by kernel_rfl) ?_ ?_
          rotate_left
          · intro w' hv; clear hv; go_simp; try with_reducible rfl
          try simp only [Act.put, List.setIfInBounds_toArray, List.set_cons_zero, List.set_cons_succ]
          refine pur_step (by kernel_rfl) (fun w' hv => load_su 46 (.tmp 52) rfl _ rfl elRef.2.1 szRef x ((fun w' hv => HCX.out w' (HB.out.trans (Below.mono hv HB.out.size))) w' hv)) ?_
          try simp only [Act.put, List.setIfInBounds_toArray, List.set_cons_zero, List.set_cons_succ]
          refine pur_step (v := ?_) (by kernel_rfl) ?_ ?_
          rotate_left
          · intro w' hv; clear hv; go_simp; try with_reducible rfl
          try simp only [Act.put, List.setIfInBounds_toArray, List.set_cons_zero, List.set_cons_succ]
          refine pur_step (v := ?_) (by kernel_rfl) ?_ ?_
          rotate_left
          · intro w' hv; clear hv; go_simp; try with_reducible rfl
          try simp only [Act.put, List.setIfInBounds_toArray, List.set_cons_zero, List.set_cons_succ]
          refine pur_step (v := .slice (if cr = 0 then qr else qr.map (·.add (0 * 32))) (R.length - 0) (cr - 0)) (by kernel_rfl) (fun w' hv => ?_) ?_
          · exact slice_tailU 53 46 elRef (.tmp 56) (.tmp 57) qr R.length cr 0 rfl rfl rfl (by omega)
          try simp only [Act.put, List.setIfInBounds_toArray, List.set_cons_zero, List.set_cons_succ]
          refine pur_nil ?_
          have HRS : Hid (Sees wf wf.heap.size qr (rowU R)) := Lib.hid ((HTN.out.keep HBK.out).more HBK.out.size)
          refine tri_goalU 53 46 elRef (.tmp 45) (.tmp 48) (.tmp 53) rfl rfl rfl qr (R.take 0) 0 cr x (by rw [List.length_take]; omega) hqr (by omega) (by rw [← rowU_take]; exact HRS.out.head _) (fun _ => rfl) (fun _ _ => rfl) (fun _ => rfl) (fun _ _ => rfl) rfl (fun _ => rfl) (fun _ _ => rfl) ?_
          rintro v0 v4 v9 w4 hE hown ⟨g9, rfl, hc9⟩
          try simp only [Act.put, List.setIfInBounds_toArray, List.set_cons_zero, List.set_cons_succ]
          refine ch_step rfl _ (leaves_moreU 53 46 elRef (.tmp 49) (.tmp 54) rfl v4 _ rfl hown hE (some ⟨g9, 0, none⟩) [x] 1 1 _ rfl rfl (fun h => by cases h) (Ss.one hc9 hc9.lt) (by rw [List.length_take]; omega)) ?_
          intro v5 w5 hE5 ho5
          try simp only [Act.put, List.setIfInBounds_toArray, List.set_cons_zero, List.set_cons_succ]
          refine ch_step rfl _ (leaves_moreU 53 46 elRef (.tmp 55) (.tmp 58) rfl v5 _ rfl ho5 hE5 (if cr = 0 then qr else qr.map (·.add (0 * 32))) (R.drop 0) (R.length - 0) (cr - 0) wf.heap.size (by rw [List.length_drop]) rfl (fun h => cutU_none hqr h) (Sees.cutU (HRS.out.keep hE5) hrc) (by rw [List.length_append, List.length_take]; simp; omega)) ?_
          intro v6 w6 hE6 ho6
          try simp only [Act.put, List.setIfInBounds_toArray, List.set_cons_zero, List.set_cons_succ]
          refine ch_pure (v := v6) rfl hE6 (by go_simp; try with_reducible rfl) ?_
          try simp only [Act.put, List.setIfInBounds_toArray, List.set_cons_zero, List.set_cons_succ]
          refine ch_nil ?_
          replace HB := Lib.hid (HB.out.trans (hE6.mono HB.out.size))
          have HO6 := Lib.hid (OwnU.us ho6)
          clear hE hown hc9 hE5 ho5 hE6 ho6 HRS HBK
          generalize (if cr = 0 then qr else qr.map (·.add (0 * 32))) = qt
          go_wp2_with fail
          go_roundw
          case rel =>
            have hl : (R.take 0 ++ [x] ++ R.drop 0).length = 0 + 1 + (R.length - 0) := by simp; omega
            exact ⟨R.take 0 ++ [x] ++ R.drop 0, i + 1, by omega, by go_num, HPUT.out, by rw [hl]; omega, HO6.out, HB.out⟩
          case measure => simp [intOf]; omega
        · obtain ⟨j, hkj⟩ : ∃ j, k = j + 1 := ⟨k - 1, by omega⟩
          have hjl : j < R.length := by omega
          obtain ⟨ar, hqe, _, hcr⟩ := Ss.el HTN.out hjl
          subst hqe
          have HYE : Hid (R[j] ∈ R) := Lib.hid (List.getElem_mem hjl)
          have HMORE : Hid (cmpU R[j] x = 1 → (∀ z ∈ R.drop (j + 1), cmpU z x = 1) → ∀ z ∈ R.drop j, cmpU z x = 1) := Lib.hid (fun h1 h2 => after_moreU hjl h1 h2)
          have HBEF : Hid (cmpU R[j] x = -1 → ∀ z ∈ R.take (j + 1), cmpU z x = -1) := Lib.hid (fun h1 => before_allU HSRT.out.1 hjl h1)
          generalize R[j] = y at *
          have HCR : Hid (∀ w', Below w1.heap.size w1 w' → ∀ u v, (encU y)[u]? = some v → w'.cell? ((ar.add (j * 32)).add u) = some v) := Lib.hid hcr
          have HCM := Lib.hid (fun w1 => rcmpS_any y x w1)
          have kj : (j : Int) < (R.length : Int) := by omega
          have kp : (0 : Int) < (k : Int) := by omega
          have kpn : 0 < k := by omega
          have kw : IntKind.i64.wrap ((k : Int) - 1) = (j : Int) := by rw [IntWalk.i64_in _ (by omega)]; omega
          have HAFT3 : Hid (∀ z ∈ R.drop (j + 1), cmpU z x = 1) := Lib.hid (by rw [← hkj]; exact HAFT.out)
          have HKJ := Lib.hid hkj
          have HV := Lib.hid (cmpU_vals y x)
          have HZ := Lib.hid (fun h => (cmpU_zero (x := y) (y := x)).1 h)
          have HZ2 := Lib.hid (fun h => (cmpU_zero (x := y) (y := x)).2 h)
          clear hcr hkj hk0
          generalize cmpU y x = V at *
          by_cases hV : 0 < V
          · have HAFT2 : Hid (∀ z ∈ R.drop j, cmpU z x = 1) := Lib.hid (HMORE.out (by have := HV.out; omega) HAFT3.out)
            have hjr : j ≤ R.length := by omega
            have hjk : j < k := by have := HKJ.out; omega
            go_wp2_with fail
            refine wp_region_org [(0, true), (1, true), (2, true), (3, true), (4, true), (5, true), (6, true), (7, true), (8, true), (9, true), (10, true), (11, true), (12, false), (13, true), (14, true)] (by kernel_rfl) (by kernel_rfl) (by kernel_rfl) ?_
            replace HB := Lib.hid HB.out.drew
            replace HBK := Lib.hid HBK.out.drew
            generalize wr.drew = wd at *
            simp only [pickOrs, List.getElem?_cons_zero, List.getElem?_cons_succ]
            refine org_pure (v := ?_) (by kernel_rfl) ?_ ?_
            rotate_left
            · intro w' hv; clear hv; go_simp; try with_reducible rfl
            try simp only [Act.put, List.setIfInBounds_toArray, List.set_cons_zero, List.set_cons_succ]
            refine org_pure (v := ?_) (by kernel_rfl) ?_ ?_
            rotate_left
            · intro w' hv; clear hv; go_simp; try with_reducible rfl
            try simp only [Act.put, List.setIfInBounds_toArray, List.set_cons_zero, List.set_cons_succ]
            refine org_pure (v := ?_) (by kernel_rfl) ?_ ?_
            rotate_left
            · intro w' hv; clear hv; go_simp; try with_reducible rfl
            try simp only [Act.put, List.setIfInBounds_toArray, List.set_cons_zero, List.set_cons_succ]
            refine org_pure (v := ?_) (by kernel_rfl) ?_ ?_
            rotate_left
            · intro w' hv; clear hv; go_simp; try with_reducible rfl
            try simp only [Act.put, List.setIfInBounds_toArray, List.set_cons_zero, List.set_cons_succ]
            refine org_pure (v := ?_) (by kernel_rfl) ?_ ?_
            rotate_left
            · intro w' hv; clear hv; go_simp; try with_reducible rfl
            try simp only [Act.put, List.setIfInBounds_toArray, List.set_cons_zero, List.set_cons_succ]
            refine org_pure (v := ?_) (by kernel_rfl) ?_ ?_
            rotate_left
            · intro w' hv; clear hv; go_simp; try with_reducible rfl
            try simp only [Act.put, List.setIfInBounds_toArray, List.set_cons_zero, List.set_cons_succ]
            refine org_pure (v := ?_) (by kernel_rfl) ?_ ?_
            rotate_left
            · intro w' hv; clear hv; go_simp; try with_reducible rfl
            try simp only [Act.put, List.setIfInBounds_toArray, List.set_cons_zero, List.set_cons_succ]
            refine org_pure (by kernel_rfl) (fun w' hv => load_su 46 (.tmp 20) rfl _ rfl elRef.2.1 szRef y ((fun w' hv => HCR.out w' (HBK.out.trans (Below.mono hv HBK.out.size))) w' hv)) ?_
            try simp only [Act.put, List.setIfInBounds_toArray, List.set_cons_zero, List.set_cons_succ]
            refine org_pure (v := ?_) (by kernel_rfl) ?_ ?_
            rotate_left
            · intro w' hv; clear hv; go_simp; try with_reducible rfl
            try simp only [Act.put, List.setIfInBounds_toArray, List.set_cons_zero, List.set_cons_succ]
            refine org_pure (v := ?_) (by kernel_rfl) ?_ ?_
            rotate_left
            · intro w' hv; clear hv; go_simp; try with_reducible rfl
            try simp only [Act.put, List.setIfInBounds_toArray, List.set_cons_zero, List.set_cons_succ]
            refine org_pure (v := ?_) (by kernel_rfl) ?_ ?_
            rotate_left
            · intro w' hv; clear hv; go_simp; try with_reducible rfl
            try simp only [Act.put, List.setIfInBounds_toArray, List.set_cons_zero, List.set_cons_succ]
            refine org_pure (by kernel_rfl) (fun w' hv => load_su 46 (.tmp 24) rfl _ rfl elRef.2.1 szRef x ((fun w' hv => HCX.out w' (HB.out.trans (Below.mono hv HB.out.size))) w' hv)) ?_
            try simp only [Act.put, List.setIfInBounds_toArray, List.set_cons_zero, List.set_cons_succ]
            refine org_step (by kernel_rfl) (fun K hK => ?_)
            go_wp2_with fail
            refine (HCM.out _).mono ?_
            rintro e wx ⟨rfl, hb⟩
            have HE := Lib.hid hb
            replace HB := Lib.hid (HB.out.trans (hb.mono HB.out.size))
            replace HBK := Lib.hid (HBK.out.trans (hb.mono HBK.out.size))
            clear hb
            refine hK _ _ ⟨HE.out, ?_⟩
            clear hK HE
            try simp only [Act.put, List.setIfInBounds_toArray, List.set_cons_zero, List.set_cons_succ]
            refine org_pure (v := ?_) (by kernel_rfl) ?_ ?_
            rotate_left
            · intro w' hv; clear hv; go_simp; try with_reducible rfl
            try simp only [Act.put, List.setIfInBounds_toArray, List.set_cons_zero, List.set_cons_succ]
            refine org_pure (v := ?_) (by kernel_rfl) ?_ ?_
            rotate_left
            · intro w' hv; clear hv; go_simp; try with_reducible rfl
            try simp only [Act.put, List.setIfInBounds_toArray, List.set_cons_zero, List.set_cons_succ]
            refine org_nil ?_
            go_wp2_with fail
            go_roundw
            case rel => exact ⟨j, hjr, by go_num, HAFT2.out, HBK.out⟩
            case measure => simp [intOf]; omega
          · by_cases hxy : y = x
            · have HNEW : Hid (Srtd (L.take (i + 1)) R) := Lib.hid (by rw [HTK.out]; exact srtd_same HSRT.out (hxy ▸ HYE.out))
              have HBB := Lib.hid (decide_eq_true hxy)
              clear hxy
              go_wp2_with fail
              refine wp_region_org [(0, true), (1, true), (2, true), (3, true), (4, true), (5, true), (6, true), (7, true), (8, true), (9, true), (10, true), (11, true), (12, false), (13, true), (14, true)] (by kernel_rfl) (by kernel_rfl) (by kernel_rfl) ?_
              replace HB := Lib.hid HB.out.drew
              replace HBK := Lib.hid HBK.out.drew
              generalize wr.drew = wd at *
              simp only [pickOrs, List.getElem?_cons_zero, List.getElem?_cons_succ]
              refine org_pure (v := ?_) (by kernel_rfl) ?_ ?_
              rotate_left
              · intro w' hv; clear hv; go_simp; try with_reducible rfl
              try simp only [Act.put, List.setIfInBounds_toArray, List.set_cons_zero, List.set_cons_succ]
              refine org_pure (v := ?_) (by kernel_rfl) ?_ ?_
              rotate_left
              · intro w' hv; clear hv; go_simp; try with_reducible rfl
              try simp only [Act.put, List.setIfInBounds_toArray, List.set_cons_zero, List.set_cons_succ]
              refine org_pure (v := ?_) (by kernel_rfl) ?_ ?_
              rotate_left
              · intro w' hv; clear hv; go_simp; try with_reducible rfl
              try simp only [Act.put, List.setIfInBounds_toArray, List.set_cons_zero, List.set_cons_succ]
              refine org_pure (v := ?_) (by kernel_rfl) ?_ ?_
              rotate_left
              · intro w' hv; clear hv; go_simp; try with_reducible rfl
              try simp only [Act.put, List.setIfInBounds_toArray, List.set_cons_zero, List.set_cons_succ]
              refine org_pure (v := ?_) (by kernel_rfl) ?_ ?_
              rotate_left
              · intro w' hv; clear hv; go_simp; try with_reducible rfl
              try simp only [Act.put, List.setIfInBounds_toArray, List.set_cons_zero, List.set_cons_succ]
              refine org_pure (v := ?_) (by kernel_rfl) ?_ ?_
              rotate_left
              · intro w' hv; clear hv; go_simp; try with_reducible rfl
              try simp only [Act.put, List.setIfInBounds_toArray, List.set_cons_zero, List.set_cons_succ]
              refine org_pure (v := ?_) (by kernel_rfl) ?_ ?_
              rotate_left
              · intro w' hv; clear hv; go_simp; try with_reducible rfl
              try simp only [Act.put, List.setIfInBounds_toArray, List.set_cons_zero, List.set_cons_succ]
              refine org_pure (by kernel_rfl) (fun w' hv => load_su 46 (.tmp 20) rfl _ rfl elRef.2.1 szRef y ((fun w' hv => HCR.out w' (HBK.out.trans (Below.mono hv HBK.out.size))) w' hv)) ?_
              try simp only [Act.put, List.setIfInBounds_toArray, List.set_cons_zero, List.set_cons_succ]
              refine org_pure (v := ?_) (by kernel_rfl) ?_ ?_
              rotate_left
              · intro w' hv; clear hv; go_simp; try with_reducible rfl
              try simp only [Act.put, List.setIfInBounds_toArray, List.set_cons_zero, List.set_cons_succ]
              refine org_pure (v := ?_) (by kernel_rfl) ?_ ?_
              rotate_left
              · intro w' hv; clear hv; go_simp; try with_reducible rfl
              try simp only [Act.put, List.setIfInBounds_toArray, List.set_cons_zero, List.set_cons_succ]
              refine org_pure (v := ?_) (by kernel_rfl) ?_ ?_
              rotate_left
              · intro w' hv; clear hv; go_simp; try with_reducible rfl
              try simp only [Act.put, List.setIfInBounds_toArray, List.set_cons_zero, List.set_cons_succ]
              refine org_pure (by kernel_rfl) (fun w' hv => load_su 46 (.tmp 24) rfl _ rfl elRef.2.1 szRef x ((fun w' hv => HCX.out w' (HB.out.trans (Below.mono hv HB.out.size))) w' hv)) ?_
              try simp only [Act.put, List.setIfInBounds_toArray, List.set_cons_zero, List.set_cons_succ]
              refine org_step (by kernel_rfl) (fun K hK => ?_)
              go_wp2_with fail
              refine (HCM.out _).mono ?_
              rintro e wx ⟨rfl, hb⟩
              have HE := Lib.hid hb
              replace HB := Lib.hid (HB.out.trans (hb.mono HB.out.size))
              replace HBK := Lib.hid (HBK.out.trans (hb.mono HBK.out.size))
              clear hb
              refine hK _ _ ⟨HE.out, ?_⟩
              clear hK HE
              try simp only [Act.put, List.setIfInBounds_toArray, List.set_cons_zero, List.set_cons_succ]
              refine org_pure (v := ?_) (by kernel_rfl) ?_ ?_
              rotate_left
              · intro w' hv; clear hv; go_simp; try with_reducible rfl
              try simp only [Act.put, List.setIfInBounds_toArray, List.set_cons_zero, List.set_cons_succ]
              refine org_pure (v := ?_) (by kernel_rfl) ?_ ?_
              rotate_left
              · intro w' hv; clear hv; go_simp; try with_reducible rfl
              try simp only [Act.put, List.setIfInBounds_toArray, List.set_cons_zero, List.set_cons_succ]
              refine org_nil ?_
              go_wp2_with fail
              refine wp_region_org [(0, true), (1, true), (2, true), (3, true), (4, true), (5, true), (6, true), (7, true), (8, true), (9, true), (10, true), (11, true), (12, true), (13, true)] (by kernel_rfl) (by kernel_rfl) (by kernel_rfl) ?_
              replace HB := Lib.hid HB.out.drew
              replace HBK := Lib.hid HBK.out.drew
              generalize wx.drew = we at *
              simp only [pickOrs, List.getElem?_cons_zero, List.getElem?_cons_succ]
              refine org_pure (v := ?_) (by kernel_rfl) ?_ ?_
              rotate_left
              · intro w' hv; clear hv; go_simp; try with_reducible rfl
              try simp only [Act.put, List.setIfInBounds_toArray, List.set_cons_zero, List.set_cons_succ]
              refine org_pure (v := ?_) (by kernel_rfl) ?_ ?_
              rotate_left
              · intro w' hv; clear hv; go_simp; try with_reducible rfl
              try simp only [Act.put, List.setIfInBounds_toArray, List.set_cons_zero, List.set_cons_succ]
              refine org_pure (v := ?_) (by kernel_rfl) ?_ ?_
              rotate_left
              · intro w' hv; clear hv; go_simp; try with_reducible rfl
              try simp only [Act.put, List.setIfInBounds_toArray, List.set_cons_zero, List.set_cons_succ]
              refine org_pure (v := ?_) (by kernel_rfl) ?_ ?_
              rotate_left
              · intro w' hv; clear hv; go_simp; try with_reducible rfl
              try simp only [Act.put, List.setIfInBounds_toArray, List.set_cons_zero, List.set_cons_succ]
              refine org_pure (v := ?_) (by kernel_rfl) ?_ ?_
              rotate_left
              · intro w' hv; clear hv; go_simp; try with_reducible rfl
              try simp only [Act.put, List.setIfInBounds_toArray, List.set_cons_zero, List.set_cons_succ]
              refine org_pure (v := ?_) (by kernel_rfl) ?_ ?_
              rotate_left
              · intro w' hv; clear hv; go_simp; try with_reducible rfl
              try simp only [Act.put, List.setIfInBounds_toArray, List.set_cons_zero, List.set_cons_succ]
              refine org_pure (v := ?_) (by kernel_rfl) ?_ ?_
              rotate_left
              · intro w' hv; clear hv; go_simp; try with_reducible rfl
              try simp only [Act.put, List.setIfInBounds_toArray, List.set_cons_zero, List.set_cons_succ]
              refine org_pure (by kernel_rfl) (fun w' hv => load_su 46 (.tmp 37) rfl _ rfl elRef.2.1 szRef y ((fun w' hv => HCR.out w' (HBK.out.trans (Below.mono hv HBK.out.size))) w' hv)) ?_
              try simp only [Act.put, List.setIfInBounds_toArray, List.set_cons_zero, List.set_cons_succ]
              refine org_pure (v := ?_) (by kernel_rfl) ?_ ?_
              rotate_left
              · intro w' hv; clear hv; go_simp; try with_reducible rfl
              try simp only [Act.put, List.setIfInBounds_toArray, List.set_cons_zero, List.set_cons_succ]
              refine org_pure (v := ?_) (by kernel_rfl) ?_ ?_
              rotate_left
              · intro w' hv; clear hv; go_simp; try with_reducible rfl
              try simp only [Act.put, List.setIfInBounds_toArray, List.set_cons_zero, List.set_cons_succ]
              refine org_pure (v := ?_) (by kernel_rfl) ?_ ?_
              rotate_left
              · intro w' hv; clear hv; go_simp; try with_reducible rfl
              try simp only [Act.put, List.setIfInBounds_toArray, List.set_cons_zero, List.set_cons_succ]
              refine org_pure (by kernel_rfl) (fun w' hv => load_su 46 (.tmp 41) rfl _ rfl elRef.2.1 szRef x ((fun w' hv => HCX.out w' (HB.out.trans (Below.mono hv HB.out.size))) w' hv)) ?_
              try simp only [Act.put, List.setIfInBounds_toArray, List.set_cons_zero, List.set_cons_succ]
              refine org_pure (by kernel_rfl) (fun w' hv => eql_su 46 (.tmp 38) (.tmp 42) _ rfl y x rfl rfl elRef.2.1 gdRef) ?_
              try simp only [Act.put, List.setIfInBounds_toArray, List.set_cons_zero, List.set_cons_succ]
              rw [HBB.out]
              refine org_pure (v := ?_) (by kernel_rfl) ?_ ?_
              rotate_left
              · intro w' hv; clear hv; go_simp; try with_reducible rfl
              try simp only [Act.put, List.setIfInBounds_toArray, List.set_cons_zero, List.set_cons_succ]
              refine org_nil ?_
              go_wp2_with fail
              go_roundw
              case rel => exact ⟨R, i + 1, by omega, by go_num, HNEW.out, by omega, ⟨_, cr, rfl, hrc, hqr, (HTN.out.keep HBK.out).more HBK.out.size⟩, HB.out⟩
              case measure => simp [intOf]; omega
            · have HPUT : Hid (Srtd (L.take (i + 1)) (R.take k ++ [x] ++ R.drop k)) := Lib.hid (by
                rw [HTK.out, HKJ.out]
                refine srtd_put HSRT.out HAFT3.out (HBEF.out ?_)
                have h1 := HV.out
                have h2 : ¬ V = 0 := fun e => hxy (HZ.out e)
                omega)
              have HBB := Lib.hid (decide_eq_false hxy)
              clear hxy
              go_wp2_with fail
              refine wp_region_org [(0, true), (1, true), (2, true), (3, true), (4, true), (5, true), (6, true), (7, true), (8, true), (9, true), (10, true), (11, true), (12, false), (13, true), (14, true)] (by kernel_rfl) (by kernel_rfl) (by kernel_rfl) ?_
              replace HB := Lib.hid HB.out.drew
              replace HBK := Lib.hid HBK.out.drew
              generalize wr.drew = wd at *
              simp only [pickOrs, List.getElem?_cons_zero, List.getElem?_cons_succ]
              refine org_pure (v := ?_) (by kernel_rfl) ?_ ?_
              rotate_left
              · intro w' hv; clear hv; go_simp; try with_reducible rfl
              try simp only [Act.put, List.setIfInBounds_toArray, List.set_cons_zero, List.set_cons_succ]
              refine org_pure (v := ?_) (by kernel_rfl) ?_ ?_
              rotate_left
              · intro w' hv; clear hv; go_simp; try with_reducible rfl
              try simp only [Act.put, List.setIfInBounds_toArray, List.set_cons_zero, List.set_cons_succ]
              refine org_pure (v := ?_) (by kernel_rfl) ?_ ?_
              rotate_left
              · intro w' hv; clear hv; go_simp; try with_reducible rfl
              try simp only [Act.put, List.setIfInBounds_toArray, List.set_cons_zero, List.set_cons_succ]
              refine org_pure (v := ?_) (by kernel_rfl) ?_ ?_
              rotate_left
              · intro w' hv; clear hv; go_simp; try with_reducible rfl
              try simp only [Act.put, List.setIfInBounds_toArray, List.set_cons_zero, List.set_cons_succ]
              refine org_pure (v := ?_) (by kernel_rfl) ?_ ?_
              rotate_left
              · intro w' hv; clear hv; go_simp; try with_reducible rfl
              try simp only [Act.put, List.setIfInBounds_toArray, List.set_cons_zero, List.set_cons_succ]
              refine org_pure (v := ?_) (by kernel_rfl) ?_ ?_
              rotate_left
              · intro w' hv; clear hv; go_simp; try with_reducible rfl
              try simp only [Act.put, List.setIfInBounds_toArray, List.set_cons_zero, List.set_cons_succ]
              refine org_pure (v := ?_) (by kernel_rfl) ?_ ?_
              rotate_left
              · intro w' hv; clear hv; go_simp; try with_reducible rfl
              try simp only [Act.put, List.setIfInBounds_toArray, List.set_cons_zero, List.set_cons_succ]
              refine org_pure (by kernel_rfl) (fun w' hv => load_su 46 (.tmp 20) rfl _ rfl elRef.2.1 szRef y ((fun w' hv => HCR.out w' (HBK.out.trans (Below.mono hv HBK.out.size))) w' hv)) ?_
              try simp only [Act.put, List.setIfInBounds_toArray, List.set_cons_zero, List.set_cons_succ]
              refine org_pure (v := ?_) (by kernel_rfl) ?_ ?_
              rotate_left
              · intro w' hv; clear hv; go_simp; try with_reducible rfl
              try simp only [Act.put, List.setIfInBounds_toArray, List.set_cons_zero, List.set_cons_succ]
              refine org_pure (v := ?_) (by kernel_rfl) ?_ ?_
              rotate_left
              · intro w' hv; clear hv; go_simp; try with_reducible rfl
              try simp only [Act.put, List.setIfInBounds_toArray, List.set_cons_zero, List.set_cons_succ]
              refine org_pure (v := ?_) (by kernel_rfl) ?_ ?_
              rotate_left
              · intro w' hv; clear hv; go_simp; try with_reducible rfl
              try simp only [Act.put, List.setIfInBounds_toArray, List.set_cons_zero, List.set_cons_succ]
              refine org_pure (by kernel_rfl) (fun w' hv => load_su 46 (.tmp 24) rfl _ rfl elRef.2.1 szRef x ((fun w' hv => HCX.out w' (HB.out.trans (Below.mono hv HB.out.size))) w' hv)) ?_
              try simp only [Act.put, List.setIfInBounds_toArray, List.set_cons_zero, List.set_cons_succ]
              refine org_step (by kernel_rfl) (fun K hK => ?_)
              go_wp2_with fail
              refine (HCM.out _).mono ?_
              rintro e wx ⟨rfl, hb⟩
              have HE := Lib.hid hb
              replace HB := Lib.hid (HB.out.trans (hb.mono HB.out.size))
              replace HBK := Lib.hid (HBK.out.trans (hb.mono HBK.out.size))
              clear hb
              refine hK _ _ ⟨HE.out, ?_⟩
              clear hK HE
              try simp only [Act.put, List.setIfInBounds_toArray, List.set_cons_zero, List.set_cons_succ]
              refine org_pure (v := ?_) (by kernel_rfl) ?_ ?_
              rotate_left
              · intro w' hv; clear hv; go_simp; try with_reducible rfl
              try simp only [Act.put, List.setIfInBounds_toArray, List.set_cons_zero, List.set_cons_succ]
              refine org_pure (v := ?_) (by kernel_rfl) ?_ ?_
              rotate_left
              · intro w' hv; clear hv; go_simp; try with_reducible rfl
              try simp only [Act.put, List.setIfInBounds_toArray, List.set_cons_zero, List.set_cons_succ]
              refine org_nil ?_
              go_wp2_with fail
              refine wp_region_org [(0, true), (1, true), (2, true), (3, true), (4, true), (5, true), (6, true), (7, true), (8, true), (9, true), (10, true), (11, true), (12, true), (13, true)] (by kernel_rfl) (by kernel_rfl) (by kernel_rfl) ?_
              replace HB := Lib.hid HB.out.drew
              replace HBK := Lib.hid HBK.out.drew
              generalize wx.drew = we at *
              simp only [pickOrs, List.getElem?_cons_zero, List.getElem?_cons_succ]
              refine org_pure (v := ?_) (by kernel_rfl) ?_ ?_
              rotate_left
              · intro w' hv; clear hv; go_simp; try with_reducible rfl
              try simp only [Act.put, List.setIfInBounds_toArray, List.set_cons_zero, List.set_cons_succ]
              refine org_pure (v := ?_) (by kernel_rfl) ?_ ?_
              rotate_left
              · intro w' hv; clear hv; go_simp; try with_reducible rfl
              try simp only [Act.put, List.setIfInBounds_toArray, List.set_cons_zero, List.set_cons_succ]
              refine org_pure (v := ?_) (by kernel_rfl) ?_ ?_
              rotate_left
              · intro w' hv; clear hv; go_simp; try with_reducible rfl
              try simp only [Act.put, List.setIfInBounds_toArray, List.set_cons_zero, List.set_cons_succ]
              refine org_pure (v := ?_) (by kernel_rfl) ?_ ?_
              rotate_left
              · intro w' hv; clear hv; go_simp; try with_reducible rfl
              try simp only [Act.put, List.setIfInBounds_toArray, List.set_cons_zero, List.set_cons_succ]
              refine org_pure (v := ?_) (by kernel_rfl) ?_ ?_
              rotate_left
              · intro w' hv; clear hv; go_simp; try with_reducible rfl
              try simp only [Act.put, List.setIfInBounds_toArray, List.set_cons_zero, List.set_cons_succ]
              refine org_pure (v := ?_) (by kernel_rfl) ?_ ?_
              rotate_left
              · intro w' hv; clear hv; go_simp; try with_reducible rfl
              try simp only [Act.put, List.setIfInBounds_toArray, List.set_cons_zero, List.set_cons_succ]
              refine org_pure (v := ?_) (by kernel_rfl) ?_ ?_
              rotate_left
              · intro w' hv; clear hv; go_simp; try with_reducible rfl
              try simp only [Act.put, List.setIfInBounds_toArray, List.set_cons_zero, List.set_cons_succ]
              refine org_pure (by kernel_rfl) (fun w' hv => load_su 46 (.tmp 37) rfl _ rfl elRef.2.1 szRef y ((fun w' hv => HCR.out w' (HBK.out.trans (Below.mono hv HBK.out.size))) w' hv)) ?_
              try simp only [Act.put, List.setIfInBounds_toArray, List.set_cons_zero, List.set_cons_succ]
              refine org_pure (v := ?_) (by kernel_rfl) ?_ ?_
              rotate_left
              · intro w' hv; clear hv; go_simp; try with_reducible rfl
              try simp only [Act.put, List.setIfInBounds_toArray, List.set_cons_zero, List.set_cons_succ]
              refine org_pure (v := ?_) (by kernel_rfl) ?_ ?_
              rotate_left
              · intro w' hv; clear hv; go_simp; try with_reducible rfl
              try simp only [Act.put, List.setIfInBounds_toArray, List.set_cons_zero, List.set_cons_succ]
              refine org_pure (v := ?_) (by kernel_rfl) ?_ ?_
              rotate_left
              · intro w' hv; clear hv; go_simp; try with_reducible rfl
              try simp only [Act.put, List.setIfInBounds_toArray, List.set_cons_zero, List.set_cons_succ]
              refine org_pure (by kernel_rfl) (fun w' hv => load_su 46 (.tmp 41) rfl _ rfl elRef.2.1 szRef x ((fun w' hv => HCX.out w' (HB.out.trans (Below.mono hv HB.out.size))) w' hv)) ?_
              try simp only [Act.put, List.setIfInBounds_toArray, List.set_cons_zero, List.set_cons_succ]
              refine org_pure (by kernel_rfl) (fun w' hv => eql_su 46 (.tmp 38) (.tmp 42) _ rfl y x rfl rfl elRef.2.1 gdRef) ?_
              try simp only [Act.put, List.setIfInBounds_toArray, List.set_cons_zero, List.set_cons_succ]
              rw [HBB.out]
              refine org_pure (v := ?_) (by kernel_rfl) ?_ ?_
              rotate_left
              · intro w' hv; clear hv; go_simp; try with_reducible rfl
              try simp only [Act.put, List.setIfInBounds_toArray, List.set_cons_zero, List.set_cons_succ]
              refine org_nil ?_
              go_wp2_with fail
              refine wp_region_tri [1, 2, 3, 5, 6, 7, 8, 11, 12, 13] 0 4 9 [10, 14, 15] _ _ _ rfl rfl rfl rfl rfl rfl (by decide) (by decide) (by intro d h; cases h; decide) (by intro d h; cases h; decide) (by kernel_rfl) (by kernel_rfl) _ chk9r rfl ?_
              replace HB := Lib.hid HB.out.drew
              replace HBK := Lib.hid HBK.out.drew
              generalize we.drew = wf at *
              simp only [pickPur, List.getElem?_cons_zero, List.getElem?_cons_succ]
              refine pur_step (v := ?_) (by kernel_rfl) ?_ ?_
              rotate_left
              · intro w' hv; clear hv; go_simp; try with_reducible rfl
              try simp only [Act.put, List.setIfInBounds_toArray, List.set_cons_zero, List.set_cons_succ]
              refine pur_step (v := ?_) (by kernel_rfl) ?_ ?_
              rotate_left
              · intro w' hv; clear hv; go_simp; try with_reducible rfl
              try simp only [Act.put, List.setIfInBounds_toArray, List.set_cons_zero, List.set_cons_succ]
              refine pur_step (v := .slice (some ar) k cr) (by kernel_rfl) (fun w' hv => ?_) ?_
              · exact slice_headU 53 46 elRef (.tmp 46) (.tmp 47) (some ar) R.length cr k rfl rfl rfl (by omega)
              try simp only [Act.put, List.setIfInBounds_toArray, List.set_cons_zero, List.set_cons_succ]
              refine pur_step (v := ?_) (by kernel_rfl) ?_ ?_
              rotate_left
              · intro w' hv; clear hv; go_simp; try with_reducible rfl
              try simp only [Act.put, List.setIfInBounds_toArray, List.set_cons_zero, List.set_cons_succ]
              refine pur_step (v := ?_) (by kernel_rfl) ?_ ?_
              rotate_left
              · intro w' hv; clear hv; go_simp; try with_reducible rfl
              try simp only [Act.put, List.setIfInBounds_toArray, List.set_cons_zero, List.set_cons_succ]
              refine pur_step (v := ?_) (by kernel_rfl) ?_ ?_
              rotate_left
              · intro w' hv; clear hv; go_simp; try with_reducible rfl
              try simp only [Act.put, List.setIfInBounds_toArray, List.set_cons_zero, List.set_cons_succ]
              refine pur_step (by kernel_rfl) (fun w' hv => load_su 46 (.tmp 52) rfl _ rfl elRef.2.1 szRef x ((fun w' hv => HCX.out w' (HB.out.trans (Below.mono hv HB.out.size))) w' hv)) ?_
              try simp only [Act.put, List.setIfInBounds_toArray, List.set_cons_zero, List.set_cons_succ]
              refine pur_step (v := ?_) (by kernel_rfl) ?_ ?_
              rotate_left
              · intro w' hv; clear hv; go_simp; try with_reducible rfl
              try simp only [Act.put, List.setIfInBounds_toArray, List.set_cons_zero, List.set_cons_succ]
              refine pur_step (v := ?_) (by kernel_rfl) ?_ ?_
              rotate_left
              · intro w' hv; clear hv; go_simp; try with_reducible rfl
              try simp only [Act.put, List.setIfInBounds_toArray, List.set_cons_zero, List.set_cons_succ]
              refine pur_step (v := .slice (if cr = k then (some ar) else (some ar).map (·.add (k * 32))) (R.length - k) (cr - k)) (by kernel_rfl) (fun w' hv => ?_) ?_
              · exact slice_tailU 53 46 elRef (.tmp 56) (.tmp 57) (some ar) R.length cr k rfl rfl rfl (by omega)
              try simp only [Act.put, List.setIfInBounds_toArray, List.set_cons_zero, List.set_cons_succ]
              refine pur_nil ?_
              have HRS : Hid (Sees wf wf.heap.size (some ar) (rowU R)) := Lib.hid ((HTN.out.keep HBK.out).more HBK.out.size)
              refine tri_goalU 53 46 elRef (.tmp 45) (.tmp 48) (.tmp 53) rfl rfl rfl (some ar) (R.take k) k cr x (by rw [List.length_take]; omega) hqr (by omega) (by rw [← rowU_take]; exact HRS.out.head _) (fun _ => rfl) (fun _ _ => rfl) (fun _ => rfl) (fun _ _ => rfl) rfl (fun _ => rfl) (fun _ _ => rfl) ?_
              rintro v0 v4 v9 w4 hE hown ⟨g9, rfl, hc9⟩
              try simp only [Act.put, List.setIfInBounds_toArray, List.set_cons_zero, List.set_cons_succ]
              refine ch_step rfl _ (leaves_moreU 53 46 elRef (.tmp 49) (.tmp 54) rfl v4 _ rfl hown hE (some ⟨g9, 0, none⟩) [x] 1 1 _ rfl rfl (fun h => by cases h) (Ss.one hc9 hc9.lt) (by rw [List.length_take]; omega)) ?_
              intro v5 w5 hE5 ho5
              try simp only [Act.put, List.setIfInBounds_toArray, List.set_cons_zero, List.set_cons_succ]
              refine ch_step rfl _ (leaves_moreU 53 46 elRef (.tmp 55) (.tmp 58) rfl v5 _ rfl ho5 hE5 (if cr = k then (some ar) else (some ar).map (·.add (k * 32))) (R.drop k) (R.length - k) (cr - k) wf.heap.size (by rw [List.length_drop]) rfl (fun h => cutU_none hqr h) (Sees.cutU (HRS.out.keep hE5) hrc) (by rw [List.length_append, List.length_take]; simp; omega)) ?_
              intro v6 w6 hE6 ho6
              try simp only [Act.put, List.setIfInBounds_toArray, List.set_cons_zero, List.set_cons_succ]
              refine ch_pure (v := v6) rfl hE6 (by go_simp; try with_reducible rfl) ?_
              try simp only [Act.put, List.setIfInBounds_toArray, List.set_cons_zero, List.set_cons_succ]
              refine ch_nil ?_
              replace HB := Lib.hid (HB.out.trans (hE6.mono HB.out.size))
              have HO6 := Lib.hid (OwnU.us ho6)
              clear hE hown hc9 hE5 ho5 hE6 ho6 HRS HBK
              generalize (if cr = k then (some ar) else (some ar).map (·.add (k * 32))) = qt
              go_wp2_with fail
              go_roundw
              case rel =>
                have hl : (R.take k ++ [x] ++ R.drop k).length = k + 1 + (R.length - k) := by simp; omega
                exact ⟨R.take k ++ [x] ++ R.drop k, i + 1, by omega, by go_num, HPUT.out, by rw [hl]; omega, HO6.out, HB.out⟩
              case measure => simp [intOf]; omega
    · have hil : i = L.length := by omega
      subst hil
      rw [List.take_length] at HSRT
      have kk : ¬ (L.length : Int) < (L.length : Int) := by omega
      have HE := Lib.hid (srt_of HSRT.out.1 HSRT.out.2)
      go_wp2_with fail
      go_ret
      refine ⟨⟨_, rfl, ?_⟩, HB.out⟩
      rw [← HE.out]
      exact ⟨qr, cr, rfl, hrc, hqr, HTN.out⟩
end Go.Proofs.YthpledfjopbchaaDoor
/- Contracts: the document's own Next. Condition: the text is shorter than 2^63 bytes, and no longer than its room. -/
namespace Go.Proofs.YthpledfjopbchaaDoor
open Go.RowKit
theorem lastN_take (d n : Nat) (b : List (BitVec 8)) (h : n ≤ b.length) : lastN d (b.take n) = (b.take n).drop (n - d) := by
  unfold lastN; rw [List.length_take, Nat.min_eq_left h]
set_option maxHeartbeats 1000000 in
set_option maxRecDepth 100000 in
theorem rnext_bad (m x d k t : Int) (h : okI m x d = false) (b : List (BitVec 8)) (q : Option Addr) (c : Nat) (w : World) :
    Calls Tryd.prog 49 #[ruleV m x d k t, .slice q b.length c] w fun e w' => e = .returned (.int .i64 0) ∧ Below w.heap.size w w' := by
  have HG := Lib.hid (fun w1 => rgood_any m x d k t w1)
  rw [h] at HG
  unfold ruleV ruleL at HG ⊢
  go_enter Tryd.func49, Tryd.ntmps49
  go_wp2_with ((with_reducible refine (HG.out _).mono ?_); rintro e w4 ⟨rfl, hB⟩; have HB := Lib.hid hB; clear hB)
  go_ret
  exact ⟨rfl, ((Below.refl _ _).alloc (Nat.le_refl _) _).trans (HB.out.mono (by simp))⟩
set_option maxHeartbeats 2000000 in
set_option maxRecDepth 100000 in
theorem rnext_good (r : Rl) (hr : r.Ok) (b : List (BitVec 8)) (q : Option Addr) (c : Nat) (w : World) (hc : b.length ≤ c) (hl : b.length < 9223372036854775807) (hs : Sees w w.heap.size q (b.map u8v)) :
    Calls Tryd.prog 49 #[r.val, .slice q b.length c] w fun e w' => e = .returned (.int .i64 ((nx r b : Nat) : Int)) ∧ Below w.heap.size w w' := by
  have hok := okI_of hr
  obtain ⟨m, x, d, k, t⟩ := r
  obtain ⟨o1, o2, o3, o4, o5, o6, o7⟩ := hr
  simp only at o1 o2 o3 o4 o5 o6 o7 hok ⊢
  have HG := Lib.hid (fun w1 => rgood_any m x d k t w1)
  rw [hok] at HG
  obtain ⟨N, hN⟩ : ∃ N, N = nx ⟨m, x, d, k, t⟩ b := ⟨_, rfl⟩
  have hN2 : scan (hit ⟨m, x, d, k, t⟩ b) (min x b.length) (min x b.length + 1 - m) m = N := hN.symm
  rw [← hN]
  unfold Rl.val
  simp only
  obtain ⟨T, hT⟩ : ∃ T, T = min x b.length := ⟨_, rfl⟩
  rw [← hT] at hN2
  have HTT : Hid (T ≤ x ∧ T ≤ b.length ∧ (T = x ∨ T = b.length)) := Lib.hid (by omega)
  have HS := Lib.hid hs
  have HC := Lib.hid hc
  have HN := Lib.hid hN2
  have HRR := Lib.hid (fun (b : List (BitVec 8)) (q : Option Addr) (c : Nat) (v : World) (hs : Sees v v.heap.size q (b.map u8v)) (hl : b.length < 9223372036854775807) => rroll_any b q c v hs hl)
  have HR := Lib.hid (Has.made' w 80 _ (ruleL m x d k t) rfl)
  have HB1 := Lib.hid ((Below.refl w.heap.size w).alloc (Nat.le_refl _) (.cells (ruleL m x d k t).toArray 80))
  have HZ : Hid ((w.alloc (.cells (ruleL m x d k t).toArray 80)).heap.size = w.heap.size + 1) := Lib.hid (by simp)
  unfold ruleV at HG ⊢
  unfold ruleL at HG HR HB1 HZ ⊢
  have HLL := Lib.hid hl
  clear hs hc hok hN hN2 hT
  go_enter Tryd.func49, Tryd.ntmps49
  go_upto_region 3 with ((with_reducible refine (HG.out _).mono ?_); rintro e w2 ⟨rfl, hB⟩; have HB := Lib.hid hB; clear hB)
  have HB2 := Lib.hid (HB1.out.trans (HB.out.mono HB1.out.size))
  have HR2 := Lib.hid (HR.out.keep HB.out (by have := HZ.out; omega))
  have c0 := HR2.out.cellv (i := 0) rfl
  clear HB HB1 HR HZ HG
  go_wp2_with fail
  go_loopw [5] (fun vn wr => ∃ n : Nat, n ≤ 65537 ∧ m ≤ n ∧ vn = .int .i64 n ∧ Has wr w.heap.size 80 [.int .i64 (m : Int), .int .i64 (x : Int), .int .i64 (d : Int), .int .u64 (k : Int), .int .u64 (t : Int)] ∧ Below w.heap.size w wr ∧ scan (hit ⟨m, x, d, k, t⟩ b) T (T + 1 - n) n = N) (fun vn _ => 65538 - (intOf vn).toNat)
  case atStart => exact ⟨m, by omega, Nat.le_refl _, rfl, HR2.out, HB2.out, HN.out⟩
  case round =>
    clear HR2 HB2 c0
    rename_i wr
    obtain ⟨n, hn, hmn, rfl, hR, hB, hsc⟩ := hrel
    have HHR := Lib.hid hR
    have HB := Lib.hid hB
    have c0 := hR.cellv (i := 0) rfl
    have c1 := hR.cellv (i := 1) rfl
    have HSC := Lib.hid hsc
    clear hR hB hsc
    by_cases h1 : n ≤ T
    · have y1 : (n : Int) ≤ (x : Int) := by have := HTT.out; omega
      have y2 : (n : Int) ≤ (b.length : Int) := by have := HTT.out; omega
      have hnb : n ≤ b.length := by have := HTT.out; omega
      have hx : n ≤ 65536 := by have := HTT.out; omega
      have kw : IntKind.i64.wrap ((n : Int) - (d : Int)) = ((n - d : Nat) : Int) := by rw [IntWalk.i64_in _ (by omega)]; omega
      have hcm := cut_mid q b.length c (n - d) n (by omega) (by have := HC.out; omega)
      have hml := mid_length b (n - d) n hnb
      have hnd : n - (n - d) = d := by omega
      rw [hnd] at hcm hml
      have H1 := Lib.hid (fun v hv => HRR.out ((b.take n).drop (n - d)) (cutQ q c (n - d)) (c - (n - d)) v hv (by rw [hml]; omega))
      rw [hml] at H1
      have HSM := Lib.hid ((HS.out.mid (f := n - d) (t := n) HC.out))
      have hh : hit ⟨m, x, d, k, t⟩ b n = ((rsum ((b.take n).drop (n - d)) &&& k) == t) := by unfold hit; rw [lastN_take d n b hnb]
      have hsl : rsum ((b.take n).drop (n - d)) < 18446744073709551616 := Nat.lt_trans (rsum_lt _) (by omega)
      have ka := bits_and_u64_nat _ k hsl o6
      generalize (b.take n).drop (n - d) = bb at *
      generalize cutQ q c (n - d) = qm at *
      generalize c - (n - d) = cm at *
      generalize n - d = f at *
      generalize rsum bb = s at *
      have HIT := Lib.hid h1
      have HLB := Lib.hid hnb
      clear hml hnd hsl h1 hnb
      by_cases hv : (s &&& k) = t
      · have e1 : (((s &&& k : Nat) : Int) == (t : Int)) = true := by rw [hv]; simp
        have HRES : Hid (n = N) := Lib.hid (by rw [← HSC.out, scan_hit _ _ _ HIT.out (by rw [hh, hv]; simp)])
        generalize (s &&& k) = a at *
        clear HSC hh
        clear HRR HS HC HN
        go_wp2_with fail
        clear c0 c1
        try simp only [List.append_eq, List.cons_append, List.nil_append]
        refine wp_region_org [(0, true), (1, true), (2, true), (3, true), (4, true), (5, true), (6, true), (8, true), (9, true), (11, true), (12, true), (7, false), (10, true), (13, true)] (by kernel_rfl) (by kernel_rfl) (by kernel_rfl) ?_
        replace HHR := Lib.hid HHR.out.drew
        replace HB := Lib.hid HB.out.drew
        generalize wr.drew = w3 at *
        simp only [pickOrs, List.getElem?_cons_zero, List.getElem?_cons_succ]
        refine org_pure (v := ?_) (by kernel_rfl) ?_ ?_
        rotate_left
        · intro w' hw; clear hw; go_simp; try with_reducible rfl
        try simp only [Act.put, List.setIfInBounds_toArray, List.set_cons_zero, List.set_cons_succ]
        refine org_pure (v := ?_) (by kernel_rfl) ?_ ?_
        rotate_left
        · intro w' hw; clear hw; go_simp; try with_reducible rfl
        try simp only [Act.put, List.setIfInBounds_toArray, List.set_cons_zero, List.set_cons_succ]
        refine org_pure (v := ?_) (by kernel_rfl) ?_ ?_
        rotate_left
        · intro w' hw; clear hw; go_simp; try with_reducible rfl
        try simp only [Act.put, List.setIfInBounds_toArray, List.set_cons_zero, List.set_cons_succ]
        refine org_pure (v := ?_) (by kernel_rfl) ?_ ?_
        rotate_left
        · intro w' hw; have cx := Has.cellv (i := 2) (HHR.out.keep hw HHR.out.lt) rfl; clear hw; go_simp; try with_reducible rfl
        try simp only [Act.put, List.setIfInBounds_toArray, List.set_cons_zero, List.set_cons_succ]
        refine org_pure (v := ?_) (by kernel_rfl) ?_ ?_
        rotate_left
        · intro w' hw; clear hw; go_simp; try with_reducible rfl
        try simp only [Act.put, List.setIfInBounds_toArray, List.set_cons_zero, List.set_cons_succ]
        refine org_pure (v := ?_) (by kernel_rfl) ?_ ?_
        rotate_left
        · intro w' hw; clear hw; go_simp; try with_reducible rfl
        try simp only [Act.put, List.setIfInBounds_toArray, List.set_cons_zero, List.set_cons_succ]
        refine org_pure (v := ?_) (by kernel_rfl) ?_ ?_
        rotate_left
        · intro w' hw; clear hw; go_simp; try with_reducible rfl
        try simp only [Act.put, List.setIfInBounds_toArray, List.set_cons_zero, List.set_cons_succ]
        refine org_pure (v := ?_) (by kernel_rfl) ?_ ?_
        rotate_left
        · intro w' hw; clear hw; go_simp; try with_reducible rfl
        try simp only [Act.put, List.setIfInBounds_toArray, List.set_cons_zero, List.set_cons_succ]
        refine org_pure (v := ?_) (by kernel_rfl) ?_ ?_
        rotate_left
        · intro w' hw; have cx := Has.cellv (i := 3) (HHR.out.keep hw HHR.out.lt) rfl; clear hw; go_simp; try with_reducible rfl
        try simp only [Act.put, List.setIfInBounds_toArray, List.set_cons_zero, List.set_cons_succ]
        refine org_pure (v := ?_) (by kernel_rfl) ?_ ?_
        rotate_left
        · intro w' hw; clear hw; go_simp; try with_reducible rfl
        try simp only [Act.put, List.setIfInBounds_toArray, List.set_cons_zero, List.set_cons_succ]
        refine org_pure (v := ?_) (by kernel_rfl) ?_ ?_
        rotate_left
        · intro w' hw; have cx := Has.cellv (i := 4) (HHR.out.keep hw HHR.out.lt) rfl; clear hw; go_simp; try with_reducible rfl
        try simp only [Act.put, List.setIfInBounds_toArray, List.set_cons_zero, List.set_cons_succ]
        refine org_step (by kernel_rfl) (fun K hK => ?_)
        go_wp2_with fail
        refine (H1.out w3 ((HSM.out.keep HB.out).more HB.out.size)).mono ?_
        rintro e w4 ⟨rfl, hb⟩
        have HX : Hid (Ext w3 w4) := Lib.hid hb
        have HHR4 := Lib.hid (HHR.out.keep hb HHR.out.lt)
        have HB4 := Lib.hid (HB.out.trans (hb.mono HB.out.size))
        clear hb H1 HB HHR
        go_wp2_with fail
        refine ⟨HX.out, ?_⟩
        try simp only [Act.put, List.setIfInBounds_toArray, List.set_cons_zero, List.set_cons_succ]
        refine org_pure (v := ?_) (by kernel_rfl) ?_ ?_
        rotate_left
        · intro w' hw; clear hw; go_simp; try with_reducible rfl
        try simp only [Act.put, List.setIfInBounds_toArray, List.set_cons_zero, List.set_cons_succ]
        refine org_pure (v := ?_) (by kernel_rfl) ?_ ?_
        rotate_left
        · intro w' hw; clear hw; go_simp; try with_reducible rfl
        try simp only [Act.put, List.setIfInBounds_toArray, List.set_cons_zero, List.set_cons_succ]
        refine org_nil ?_
        go_wp2_with fail
        go_ret
        exact ⟨by rw [← HRES.out]; rfl, HB4.out⟩
      · have e1 : (((s &&& k : Nat) : Int) == (t : Int)) = false := by rw [beq_eq_false_iff_ne]; omega
        have HRES : Hid (scan (hit ⟨m, x, d, k, t⟩ b) T (T + 1 - (n + 1)) (n + 1) = N) := Lib.hid (by rw [← HSC.out, scan_miss _ _ _ HIT.out (by rw [hh, beq_eq_false_iff_ne]; exact hv)])
        generalize (s &&& k) = a at *
        clear HSC hh
        clear HRR HS HC HN
        go_wp2_with fail
        clear c0 c1
        try simp only [List.append_eq, List.cons_append, List.nil_append]
        refine wp_region_org [(0, true), (1, true), (2, true), (3, true), (4, true), (5, true), (6, true), (8, true), (9, true), (11, true), (12, true), (7, false), (10, true), (13, true)] (by kernel_rfl) (by kernel_rfl) (by kernel_rfl) ?_
        replace HHR := Lib.hid HHR.out.drew
        replace HB := Lib.hid HB.out.drew
        generalize wr.drew = w3 at *
        simp only [pickOrs, List.getElem?_cons_zero, List.getElem?_cons_succ]
        refine org_pure (v := ?_) (by kernel_rfl) ?_ ?_
        rotate_left
        · intro w' hw; clear hw; go_simp; try with_reducible rfl
        try simp only [Act.put, List.setIfInBounds_toArray, List.set_cons_zero, List.set_cons_succ]
        refine org_pure (v := ?_) (by kernel_rfl) ?_ ?_
        rotate_left
        · intro w' hw; clear hw; go_simp; try with_reducible rfl
        try simp only [Act.put, List.setIfInBounds_toArray, List.set_cons_zero, List.set_cons_succ]
        refine org_pure (v := ?_) (by kernel_rfl) ?_ ?_
        rotate_left
        · intro w' hw; clear hw; go_simp; try with_reducible rfl
        try simp only [Act.put, List.setIfInBounds_toArray, List.set_cons_zero, List.set_cons_succ]
        refine org_pure (v := ?_) (by kernel_rfl) ?_ ?_
        rotate_left
        · intro w' hw; have cx := Has.cellv (i := 2) (HHR.out.keep hw HHR.out.lt) rfl; clear hw; go_simp; try with_reducible rfl
        try simp only [Act.put, List.setIfInBounds_toArray, List.set_cons_zero, List.set_cons_succ]
        refine org_pure (v := ?_) (by kernel_rfl) ?_ ?_
        rotate_left
        · intro w' hw; clear hw; go_simp; try with_reducible rfl
        try simp only [Act.put, List.setIfInBounds_toArray, List.set_cons_zero, List.set_cons_succ]
        refine org_pure (v := ?_) (by kernel_rfl) ?_ ?_
        rotate_left
        · intro w' hw; clear hw; go_simp; try with_reducible rfl
        try simp only [Act.put, List.setIfInBounds_toArray, List.set_cons_zero, List.set_cons_succ]
        refine org_pure (v := ?_) (by kernel_rfl) ?_ ?_
        rotate_left
        · intro w' hw; clear hw; go_simp; try with_reducible rfl
        try simp only [Act.put, List.setIfInBounds_toArray, List.set_cons_zero, List.set_cons_succ]
        refine org_pure (v := ?_) (by kernel_rfl) ?_ ?_
        rotate_left
        · intro w' hw; clear hw; go_simp; try with_reducible rfl
        try simp only [Act.put, List.setIfInBounds_toArray, List.set_cons_zero, List.set_cons_succ]
        refine org_pure (v := ?_) (by kernel_rfl) ?_ ?_
        rotate_left
        · intro w' hw; have cx := Has.cellv (i := 3) (HHR.out.keep hw HHR.out.lt) rfl; clear hw; go_simp; try with_reducible rfl
        try simp only [Act.put, List.setIfInBounds_toArray, List.set_cons_zero, List.set_cons_succ]
        refine org_pure (v := ?_) (by kernel_rfl) ?_ ?_
        rotate_left
        · intro w' hw; clear hw; go_simp; try with_reducible rfl
        try simp only [Act.put, List.setIfInBounds_toArray, List.set_cons_zero, List.set_cons_succ]
        refine org_pure (v := ?_) (by kernel_rfl) ?_ ?_
        rotate_left
        · intro w' hw; have cx := Has.cellv (i := 4) (HHR.out.keep hw HHR.out.lt) rfl; clear hw; go_simp; try with_reducible rfl
        try simp only [Act.put, List.setIfInBounds_toArray, List.set_cons_zero, List.set_cons_succ]
        refine org_step (by kernel_rfl) (fun K hK => ?_)
        go_wp2_with fail
        refine (H1.out w3 ((HSM.out.keep HB.out).more HB.out.size)).mono ?_
        rintro e w4 ⟨rfl, hb⟩
        have HX : Hid (Ext w3 w4) := Lib.hid hb
        have HHR4 := Lib.hid (HHR.out.keep hb HHR.out.lt)
        have HB4 := Lib.hid (HB.out.trans (hb.mono HB.out.size))
        clear hb H1 HB HHR
        go_wp2_with fail
        refine ⟨HX.out, ?_⟩
        try simp only [Act.put, List.setIfInBounds_toArray, List.set_cons_zero, List.set_cons_succ]
        refine org_pure (v := ?_) (by kernel_rfl) ?_ ?_
        rotate_left
        · intro w' hw; clear hw; go_simp; try with_reducible rfl
        try simp only [Act.put, List.setIfInBounds_toArray, List.set_cons_zero, List.set_cons_succ]
        refine org_pure (v := ?_) (by kernel_rfl) ?_ ?_
        rotate_left
        · intro w' hw; clear hw; go_simp; try with_reducible rfl
        try simp only [Act.put, List.setIfInBounds_toArray, List.set_cons_zero, List.set_cons_succ]
        refine org_nil ?_
        go_wp2_with fail
        go_roundw
        case rel => exact ⟨n + 1, by omega, by omega, by go_num, HHR4.out, HB4.out, HRES.out⟩
        case measure => simp [intOf]; omega
    · have HE : Hid (T = N) := Lib.hid (by rw [← HSC.out, scan_end _ _ _ (by omega)])
      clear HSC HRR HS HC HN
      by_cases h2 : x < b.length
      · have hx : T = x := by have := HTT.out; omega
        have y1 : ¬ (n : Int) ≤ (x : Int) := by omega
        have y3 : (x : Int) < (b.length : Int) := by omega
        have HXX := Lib.hid hx
        clear h1 h2 hx
        go_wp2_with fail
        go_ret
        exact ⟨by rw [← HE.out, HXX.out]; rfl, HB.out⟩
      · have hx : T = b.length := by have := HTT.out; omega
        have y3 : ¬ (x : Int) < (b.length : Int) := by omega
        have HXX := Lib.hid hx
        by_cases h3 : n ≤ x
        · have y1 : (n : Int) ≤ (x : Int) := by omega
          have y2 : ¬ (n : Int) ≤ (b.length : Int) := by omega
          clear h1 h2 h3 hx
          go_wp2_with fail
          go_ret
          exact ⟨by rw [← HE.out, HXX.out]; rfl, HB.out⟩
        · have y1 : ¬ (n : Int) ≤ (x : Int) := by omega
          clear h1 h2 h3 hx
          go_wp2_with fail
          go_ret
          exact ⟨by rw [← HE.out, HXX.out]; rfl, HB.out⟩
end Go.Proofs.YthpledfjopbchaaDoor
/- Contract: the document's own Ends. Conditions: a text is of at most a million bytes, and no longer than its room. -/
namespace Go.Proofs.YthpledfjopbchaaDoor
open Go.RowKit
set_option maxHeartbeats 2000000 in
set_option maxRecDepth 100000 in
theorem rends_good (r : Rl) (hr : r.Ok) (b : List (BitVec 8)) (q : Option Addr) (c : Nat) (w : World) (hc : b.length ≤ c) (hl : b.length ≤ 1000000) (hs : Sees w w.heap.size q (b.map u8v)) :
    Calls Tryd.prog 34 #[r.val, .slice q b.length c] w fun e w' => ∃ v, e = .returned v ∧ Ns w' v (endsL r 0 b) ∧ Below w.heap.size w w' := by
  have HG := Lib.hid (fun w1 => rgood_any r.mn r.mx r.wd r.mask r.want w1)
  rw [okI_of hr] at HG
  have HF := Lib.hid (fun (b : List (BitVec 8)) (q : Option Addr) c v hc hl hs => rnext_good r hr b q c v hc hl hs)
  have HEN : Hid (∀ o (b : List (BitVec 8)), b.length ≠ 0 → endsL r o b = (o + nx r b) :: endsL r (o + nx r b) (b.drop (nx r b))) := Lib.hid (endsL_cons hr)
  have HPOS : Hid (∀ b : List (BitVec 8), b.length ≠ 0 → 1 ≤ nx r b) := Lib.hid (fun b hb => nx_pos hr hb)
  have HS := Lib.hid hs
  have HC := Lib.hid hc
  have HLN := Lib.hid hl
  have HCT := Lib.hid (fun f hf => cut_from q b.length c f hf)
  have HRI := Lib.hid (Has.made' w 80 _ (ruleL r.mn r.mx r.wd r.mask r.want) rfl)
  have HB1 := Lib.hid ((Below.refl w.heap.size w).alloc (Nat.le_refl _) (.cells (ruleL r.mn r.mx r.wd r.mask r.want).toArray 80))
  have HZ : Hid (w.heap.size + 1 ≤ (w.alloc (.cells (ruleL r.mn r.mx r.wd r.mask r.want).toArray 80)).heap.size) := Lib.hid (by simp)
  have hz0 : Hid (endsL r 0 b = [] ++ endsL r 0 (b.drop 0)) := Lib.hid rfl
  obtain ⟨L, hL⟩ : ∃ L, L = endsL r 0 b := ⟨_, rfl⟩
  rw [← hL] at hz0 ⊢
  clear hs hc hr hL
  unfold Rl.val at HF ⊢
  unfold ruleV at HG HF ⊢
  unfold ruleL at HG HF HRI HB1 HZ ⊢
  go_enter Tryd.func34, Tryd.ntmps34
  go_wp2_with fail
  go_loopw [5, 6] (fun v vi wr => ∃ (xs : List Nat) (i : Nat), i ≤ b.length ∧ vi = .int .i64 i ∧ xs.length ≤ i ∧ L = xs ++ endsL r i (b.drop i) ∧ wr.ownsRow (w.heap.size + 1) 3 1 v (xs.map i64n).length (xs.map i64n) ∧ Has wr w.heap.size 80 [.int .i64 (r.mn : Int), .int .i64 (r.mx : Int), .int .i64 (r.wd : Int), .int .u64 (r.mask : Int), .int .u64 (r.want : Int)] ∧ Below w.heap.size w wr ∧ w.heap.size + 1 ≤ wr.heap.size) (fun _ vi _ => b.length - (intOf vi).toNat)
  case atStart => exact ⟨[], 0, by omega, rfl, Nat.le_refl _, hz0.out, World.ownsRow_nil _ _ _ _, HRI.out, HB1.out, HZ.out⟩
  case round =>
    clear HRI HB1 HZ hz0
    rename_i wr
    obtain ⟨xs, i, hi, rfl, hxi, hE, hrow, hR, hB, hbase⟩ := hrel
    have HROW := Lib.hid hrow
    have HR := Lib.hid hR
    have HB := Lib.hid hB
    have HBASE := Lib.hid hbase
    by_cases hlt : i < b.length
    · have hdl : (b.drop i).length ≠ 0 := by rw [List.length_drop]; omega
      have he := HEN.out i (b.drop i) hdl
      have hp := HPOS.out (b.drop i) hdl
      have hnl := (nx_le r (b.drop i)).1
      rw [List.length_drop] at hnl
      rw [he, List.drop_drop] at hE
      have hss := (HS.out.cut (k := i) (cap := c) (by rw [List.length_map]; exact HC.out))
      rw [← List.map_drop] at hss
      replace hss : Sees w w.heap.size (cutQ q c i) ((b.drop i).map u8v) := hss
      have HF1 := Lib.hid (fun v hv => HF.out (b.drop i) (cutQ q c i) (c - i) v (by rw [List.length_drop]; have := HC.out; omega) (by rw [List.length_drop]; omega) hv)
      rw [List.length_drop] at HF1
      have hct := HCT.out i (by omega)
      have HSS := Lib.hid hss
      have hkw : IntKind.i64.wrap ((i : Int) + ((nx r (b.drop i) : Nat) : Int)) = ((i + nx r (b.drop i) : Nat) : Int) := by rw [IntWalk.i64_in _ (by omega)]; omega
      have HE := Lib.hid hE
      have y : (i : Int) < (b.length : Int) := by omega
      have c0 := hR.cellv (i := 0) rfl
      have c1 := hR.cellv (i := 1) rfl
      have c2 := hR.cellv (i := 2) rfl
      have c3 := hR.cellv (i := 3) rfl
      have c4 := hR.cellv (i := 4) rfl
      clear hrow hR hB hbase hdl he hss hE
      generalize nx r (b.drop i) = n at *
      generalize cutQ q c i = qi at *
      generalize c - i = ci at *
      obtain ⟨e, he⟩ : ∃ e, e = i + n := ⟨_, rfl⟩
      rw [← he] at hkw HE
      have HNI : Hid (i < e ∧ e ≤ b.length) := Lib.hid (by omega)
      clear he hp hnl
      go_wp2_with fail
      refine (HG.out wr).mono ?_
      rintro e9 w2 ⟨rfl, hb⟩
      replace HROW := Lib.hid (own_keep HROW.out hb (fun k hk => hk))
      replace HR := Lib.hid (HR.out.keep hb HR.out.lt)
      replace HBASE := Lib.hid (Nat.le_trans HBASE.out hb.size)
      replace HB := Lib.hid (HB.out.trans (hb.mono HB.out.size))
      clear hb c0 c1 c2 c3 c4
      go_wp2_with fail
      refine wp_region_org [(0, true), (1, true), (2, true), (3, true), (4, true), (5, false), (6, true), (7, true)] (by kernel_rfl) (by kernel_rfl) (by kernel_rfl) ?_
      replace HR := Lib.hid HR.out.drew
      replace HB := Lib.hid HB.out.drew
      replace HROW : Hid (w2.drew.ownsRow (w.heap.size + 1) 3 1 _ (xs.map i64n).length (xs.map i64n)) := HROW
      replace HBASE : Hid (w.heap.size + 1 ≤ w2.drew.heap.size) := HBASE
      generalize w2.drew = w5 at *
      simp only [pickOrs, List.getElem?_cons_zero, List.getElem?_cons_succ]
      refine org_pure (v := ?_) (by kernel_rfl) ?_ ?_
      rotate_left
      · intro w' hv; clear hv; go_simp; try with_reducible rfl
      try simp only [Act.put, List.setIfInBounds_toArray, List.set_cons_zero, List.set_cons_succ]
      refine org_pure (by kernel_rfl) (fun w' hv => load_atN 80 (.tmp 2) rfl w.heap.size rfl 80 _ w' (HR.out.keep hv HR.out.lt) _ Tryd.underlying80 rfl (by kernel_rfl)) ?_
      try simp only [Act.put, List.setIfInBounds_toArray, List.set_cons_zero, List.set_cons_succ]
      refine org_pure (v := ?_) (by kernel_rfl) ?_ ?_
      rotate_left
      · intro w' hv; clear hv; go_simp; try with_reducible rfl
      try simp only [Act.put, List.setIfInBounds_toArray, List.set_cons_zero, List.set_cons_succ]
      refine org_pure (v := ?_) (by kernel_rfl) ?_ ?_
      rotate_left
      · intro w' hv; clear hv; go_simp; try with_reducible rfl
      try simp only [Act.put, List.setIfInBounds_toArray, List.set_cons_zero, List.set_cons_succ]
      refine org_pure (v := ?_) (by kernel_rfl) ?_ ?_
      rotate_left
      · intro w' hv; clear hv; go_simp; try with_reducible rfl
      try simp only [Act.put, List.setIfInBounds_toArray, List.set_cons_zero, List.set_cons_succ]
      refine org_step (by kernel_rfl) (fun K hK => ?_)
      go_wp2_with fail
      refine (HF1.out w5 ((HSS.out.keep HB.out).more HB.out.size)).mono ?_
      rintro e9 v2 ⟨rfl, hb⟩
      have HX : Hid (Ext w5 v2) := Lib.hid hb
      replace HROW := Lib.hid (own_keep HROW.out hb (fun k hk => hk))
      replace HR := Lib.hid (HR.out.keep hb HR.out.lt)
      replace HBASE := Lib.hid (Nat.le_trans HBASE.out hb.size)
      replace HB := Lib.hid (HB.out.trans (hb.mono HB.out.size))
      clear hb
      go_wp2_with fail
      refine ⟨HX.out, ?_⟩
      try simp only [Act.put, List.setIfInBounds_toArray, List.set_cons_zero, List.set_cons_succ]
      refine org_pure (v := ?_) (by kernel_rfl) ?_ ?_
      rotate_left
      · intro w' hv; clear hv; go_simp; try with_reducible rfl
      try simp only [Act.put, List.setIfInBounds_toArray, List.set_cons_zero, List.set_cons_succ]
      refine org_pure (v := ?_) (by kernel_rfl) ?_ ?_
      rotate_left
      · intro w' hv; clear hv; go_simp; try with_reducible rfl
      try simp only [Act.put, List.setIfInBounds_toArray, List.set_cons_zero, List.set_cons_succ]
      refine org_nil ?_
      have HLEN : Hid ((xs.map i64n).length ≤ 1000000) := Lib.hid (by rw [List.length_map]; have := HLN.out; omega)
      go_wp2_with (refine wp_add1 Tryd.underlying39 int_info rfl (by decide) rfl (.tmp 22) (.tmp 24) rfl (base := w.heap.size + 1) (HROW.out.alloc (.cells #[.int .i64 (e : Int)] 3)) (by have := HBASE.out; simp; omega) rfl v2.heap.size (.int .i64 (e : Int)) rfl (by simp) rfl HLEN.out ?_; intro v3 w3 h1 h2; have HROW2 := Lib.hid h1; have HB5 := Lib.hid h2; clear h1 h2 HROW)
      go_roundw
      case rel =>
        have hb5 : Below (w.heap.size + 1) v2 w3 := ((Below.refl (w.heap.size + 1) v2).alloc HBASE.out _).trans HB5.out
        have hrow := HROW2.out
        rw [show xs.map i64n ++ [Value.int .i64 (e : Int)] = (xs ++ [e]).map i64n by rw [List.map_append]; rfl] at hrow
        exact ⟨xs ++ [e], e, HNI.out.2, rfl, by rw [List.length_append, List.length_singleton]; have := HNI.out.1; omega, by rw [HE.out, List.append_assoc]; rfl, hrow, HR.out.keep hb5 (Nat.lt_succ_self _), HB.out.trans (hb5.mono (Nat.le_succ _)), Nat.le_trans HBASE.out hb5.size⟩
      case measure => have := HNI.out; simp [intOf]; omega
    · have hib : i = b.length := by omega
      have k0 : ¬ (i : Int) < (b.length : Int) := by omega
      have HE : Hid (L = xs) := Lib.hid (by rw [hE, endsL_nil r _ _ (by rw [List.length_drop]; omega), List.append_nil])
      clear hrow hR hB hbase hE hlt
      go_wp2_with fail
      go_ret
      exact ⟨_, rfl, by rw [HE.out]; exact Ns.own HROW.out, HB.out⟩
end Go.Proofs.YthpledfjopbchaaDoor
/- A region that draws its order, walked in one named order in which two neighbours may stand either way round: both ways are walked, and joined in what both leave. The condition on the memory follows the world. No condition. -/
namespace Go.Proofs.YthpledfjopbchaaDoor
open Go.RowKit
/-- A step of an order: one operation (whether it may be taken first), or two of them either way round. -/
abbrev Stp := Sum (Nat × Bool) (Nat × Nat)
abbrev StpL := Sum (Oper × Bool) (Oper × Oper)
def otB (md : Region.Mode) (ops : Array Oper) : List Stp → Array Bool → Bool
  | [], listed => (Region.ready md ops listed).isEmpty
  | .inl (i, true) :: r, listed => Region.free md ops listed i && ((Region.ready md ops listed).contains i && otB md ops r (listed.setIfInBounds i true))
  | .inl (i, false) :: r, listed => decide (Region.ready md ops listed = [i]) && otB md ops r (listed.setIfInBounds i true)
  | .inr (i, j) :: r, listed => (decide (Region.ready md ops listed = [i, j]) && decide (i ≠ j)) && ((decide (Region.ready md ops (listed.setIfInBounds i true) = [j]) && decide (Region.ready md ops (listed.setIfInBounds j true) = [i])) && otB md ops r ((listed.setIfInBounds i true).setIfInBounds j true))
def fewer : List Stp → Nat
  | [] => 0
  | .inl (_, _) :: r => fewer r + 1
  | .inr (_, _) :: r => fewer r + 2
def inB (n : Nat) : Stp → Bool
  | .inl (i, _) => decide (i < n)
  | .inr (i, j) => decide (i < n) && decide (j < n)
section
variable {P : Program} {md : Region.Mode} {ops : Array Oper} {Q : Exit → Act → World → Prop}
def wpOt (P : Program) (ops : Array Oper) (Q : Exit → Act → World → Prop) : List Stp → Act → World → Prop
  | [], a, w => Q .normal a w
  | .inl (i, true) :: r, a, w => ∃ o v, ops[i]? = some o ∧ YieldsIf P ops (Ext w) o v a ∧ wpOt P ops Q r (a.put o.dst v) w
  | .inl (i, false) :: r, a, w => wpOp P ops Q i (fun a' w' => Ext w w' ∧ wpOt P ops Q r a' w') a w
  | .inr (i, j) :: r, a, w => ∃ R : Act → World → Prop,
      (wpOp P ops Q i (fun a1 w1 => Ext w w1 ∧ wpOp P ops Q j (fun a2 w2 => Ext w1 w2 ∧ R a2 w2) a1 w1) a w ∧
       wpOp P ops Q j (fun a1 w1 => Ext w w1 ∧ wpOp P ops Q i (fun a2 w2 => Ext w1 w2 ∧ R a2 w2) a1 w1) a w) ∧ ∀ a' w', R a' w' → wpOt P ops Q r a' w'
theorem set_comm2 (l : Array Bool) (i j : Nat) (h : i ≠ j) : (l.setIfInBounds j true).setIfInBounds i true = (l.setIfInBounds i true).setIfInBounds j true := by
  exact Array.setIfInBounds_comm _ _ (Ne.symm h)
theorem wpAnyH_of_ot (hs : Region.noSelect ops = true) (hQ : ∀ c a d v w, Q (.panic c) (a.put d v) w → Q (.panic c) a w) :
    ∀ (l : List Stp) (fuel : Nat) (listed : Array Bool) (a : Act) (w : World), fewer l ≤ fuel → otB md ops l listed = true → wpOt P ops Q l a w →
      wpAnyH P md ops Q (Ext w) fuel listed a w
  | [], fuel, listed, a, w, _, hB, h => wpAnyH_done (by simpa [otB] using hB) h fuel
  | .inl (i, b) :: r, 0, _, _, _, hl, _, _ => absurd hl (by simp [fewer])
  | .inr (i, j) :: r, 0, _, _, _, hl, _, _ => absurd hl (by simp [fewer])
  | .inr (i, j) :: r, 1, _, _, _, hl, _, _ => absurd hl (by simp [fewer])
  | .inl (i, true) :: r, fuel + 1, listed, a, w, hl, hB, h => by
    obtain ⟨o, v, ho, hy, hr⟩ := h
    simp only [otB, Bool.and_eq_true] at hB
    exact wpAnyH_take ho hs hB.1 hB.2.1 (fun c a w => hQ c a _ v w) hy (Ext.refl w) (wpAnyH_of_ot hs hQ r fuel _ _ _ (by simpa [fewer] using hl) hB.2.2 hr)
  | .inl (i, false) :: r, fuel + 1, listed, a, w, hl, hB, h => by
    simp only [otB, Bool.and_eq_true, decide_eq_true_eq] at hB
    refine wpAnyH_all hB.1 (by simp) (fun j hj => ?_)
    have hj : j = i := by simpa using hj
    subst hj
    exact wpOp_mono (fun a' w' h' => ⟨h'.1, wpAnyH_mono (fun x hx => Ext.trans h'.1 hx) _ _ _ _ (wpAnyH_of_ot hs hQ r fuel _ _ _ (by simpa [fewer] using hl) hB.2 h'.2)⟩) h
  | .inr (i, j) :: r, fuel + 2, listed, a, w, hl, hB, h => by
    obtain ⟨R, ⟨h1, h2⟩, h3⟩ := h
    simp only [otB, Bool.and_eq_true, decide_eq_true_eq] at hB
    obtain ⟨⟨b1, bn⟩, ⟨b2, b3⟩, b4⟩ := hB
    have hf : fewer r ≤ fuel := by simp only [fewer] at hl; omega
    refine wpAnyH_all b1 (by simp) (fun k hk => ?_)
    rcases (show k = i ∨ k = j by simpa using hk) with rfl | rfl
    · refine wpOp_mono (fun a1 w1 h' => ⟨h'.1, wpAnyH_mono (fun x hx => Ext.trans h'.1 hx) _ _ _ _ (wpAnyH_all b2 (by simp) (fun k' hk' => ?_))⟩) h1
      have hk' : k' = j := by simpa using hk'
      subst hk'
      exact wpOp_mono (fun a2 w2 h'' => ⟨h''.1, wpAnyH_mono (fun x hx => Ext.trans h''.1 hx) _ _ _ _ (wpAnyH_of_ot hs hQ r fuel _ _ _ hf b4 (h3 _ _ h''.2))⟩) h'.2
    · refine wpOp_mono (fun a1 w1 h' => ⟨h'.1, wpAnyH_mono (fun x hx => Ext.trans h'.1 hx) _ _ _ _ (wpAnyH_all b3 (by simp) (fun k' hk' => ?_))⟩) h2
      have hk' : k' = i := by simpa using hk'
      subst hk'
      rw [set_comm2 listed k' k bn]
      exact wpOp_mono (fun a2 w2 h'' => ⟨h''.1, wpAnyH_mono (fun x hx => Ext.trans h''.1 hx) _ _ _ _ (wpAnyH_of_ot hs hQ r fuel _ _ _ hf b4 (h3 _ _ h''.2))⟩) h'.2
/-- One operation, wanted or passed over. -/
def stepL (P : Program) (ops : Array Oper) (Q : Exit → Act → World → Prop) (o : Oper) (K : Act → World → Prop) (a : Act) (w : World) : Prop :=
  if Region.wanted o (yielded ops a.tmps) then o.wp P a w K Q ∨ (o.asks P a w ∧ LetsOut Q) else K (a.put o.dst undef) w
theorem wpOp_step {i : Nat} {o : Oper} {K : Act → World → Prop} {a : Act} {w : World} (ho : ops[i]? = some o) (h : stepL P ops Q o K a w) : wpOp P ops Q i K a w := by
  unfold wpOp; rw [ho]; exact h
def wpOtL (P : Program) (ops : Array Oper) (Q : Exit → Act → World → Prop) : List StpL → Act → World → Prop
  | [], a, w => Q .normal a w
  | .inl (o, true) :: r, a, w => ∃ v, YieldsIf P ops (Ext w) o v a ∧ wpOtL P ops Q r (a.put o.dst v) w
  | .inl (o, false) :: r, a, w => ∃ R : Act → World → Prop, stepL P ops Q o (fun a' w' => Ext w w' ∧ R a' w') a w ∧ ∀ a' w', R a' w' → wpOtL P ops Q r a' w'
  | .inr (o, p) :: r, a, w => ∃ R : Act → World → Prop,
      (∃ R1 R2 : Act → World → Prop, (stepL P ops Q o (fun a1 w1 => Ext w w1 ∧ R1 a1 w1) a w ∧ ∀ a1 w1, R1 a1 w1 → stepL P ops Q p (fun a2 w2 => Ext w1 w2 ∧ R a2 w2) a1 w1) ∧
       (stepL P ops Q p (fun a1 w1 => Ext w w1 ∧ R2 a1 w1) a w ∧ ∀ a1 w1, R2 a1 w1 → stepL P ops Q o (fun a2 w2 => Ext w1 w2 ∧ R a2 w2) a1 w1)) ∧ ∀ a' w', R a' w' → wpOtL P ops Q r a' w'
def pickOt (l : List Oper) : List Stp → List StpL
  | [] => []
  | .inl (i, b) :: r => match l[i]? with
    | some o => .inl (o, b) :: pickOt l r
    | none => pickOt l r
  | .inr (i, j) :: r => match l[i]?, l[j]? with
    | some o, some p => .inr (o, p) :: pickOt l r
    | _, _ => pickOt l r
theorem wpOt_of_L (ops : Array Oper) : ∀ (l : List Stp) (a : Act) (w : World), (l.all (inB ops.size)) = true → wpOtL P ops Q (pickOt ops.toList l) a w → wpOt P ops Q l a w
  | [], _, _, _, h => h
  | .inl (i, b) :: r, a, w, hl, h => by
    simp only [List.all_cons, Bool.and_eq_true, inB, decide_eq_true_eq] at hl
    have ho : ops.toList[i]? = some ops[i] := by simp [hl.1]
    have ho' : ops[i]? = some ops[i] := by simp [hl.1]
    rw [pickOt, ho] at h
    cases b with
    | true =>
      obtain ⟨v, hy, hr⟩ := h
      exact ⟨_, v, ho', hy, wpOt_of_L ops r _ _ hl.2 hr⟩
    | false =>
      obtain ⟨R, h1, h2⟩ := h
      exact wpOp_mono (fun a' w' h' => ⟨h'.1, wpOt_of_L ops r _ _ hl.2 (h2 _ _ h'.2)⟩) (wpOp_step ho' h1)
  | .inr (i, j) :: r, a, w, hl, h => by
    simp only [List.all_cons, Bool.and_eq_true, inB, decide_eq_true_eq] at hl
    obtain ⟨⟨li, lj⟩, hl2⟩ := hl
    have ho : ops.toList[i]? = some ops[i] := by simp [li]
    have ho' : ops[i]? = some ops[i] := by simp [li]
    have hp : ops.toList[j]? = some ops[j] := by simp [lj]
    have hp' : ops[j]? = some ops[j] := by simp [lj]
    rw [pickOt, ho, hp] at h
    obtain ⟨R, ⟨R1, R2, ⟨h1, h2⟩, h3, h4⟩, h5⟩ := h
    exact ⟨R, ⟨wpOp_mono (fun a1 w1 h' => ⟨h'.1, wpOp_step hp' (h2 _ _ h'.2)⟩) (wpOp_step ho' h1), wpOp_mono (fun a1 w1 h' => ⟨h'.1, wpOp_step ho' (h4 _ _ h'.2)⟩) (wpOp_step hp' h3)⟩, fun a' w' hr => wpOt_of_L ops r _ _ hl2 (h5 _ _ hr)⟩
theorem ot_pure {o : Oper} {r : List StpL} {a : Act} {w : World} {v : Value} (hw : Region.wanted o (yielded ops a.tmps) = true)
    (hy : ∀ w', Ext w w' → (execOp a.eval o).run P w' = .ok (.value v) w') (h : wpOtL P ops Q r (a.put o.dst v) w) : wpOtL P ops Q (.inl (o, true) :: r) a w :=
  ⟨v, .inl ⟨hw, hy⟩, h⟩
theorem ot_skip {o : Oper} {r : List StpL} {a : Act} {w : World} (hw : Region.wanted o (yielded ops a.tmps) = false)
    (h : wpOtL P ops Q r (a.put o.dst undef) w) : wpOtL P ops Q (.inl (o, true) :: r) a w :=
  ⟨undef, .inr ⟨hw, rfl⟩, h⟩
theorem step_wp {o : Oper} {K : Act → World → Prop} {a : Act} {w : World} (hw : Region.wanted o (yielded ops a.tmps) = true) (h : o.wp P a w K Q) : stepL P ops Q o K a w := by
  unfold stepL; rw [if_pos hw]; exact .inl h
theorem ot_step {o : Oper} {r : List StpL} {a : Act} {w : World} (hw : Region.wanted o (yielded ops a.tmps) = true)
    (h : ∀ K : Act → World → Prop, (∀ a w', Ext w w' ∧ wpOtL P ops Q r a w' → K a w') → o.wp P a w K Q) : wpOtL P ops Q (.inl (o, false) :: r) a w :=
  ⟨_, step_wp hw (h _ fun _ _ h => h), fun _ _ h => h⟩
theorem ot_two {o p : Oper} {r : List StpL} {a : Act} {w : World} (F : Value → Value → World → Prop)
    (hw1 : Region.wanted o (yielded ops a.tmps) = true) (hw2 : Region.wanted p (yielded ops a.tmps) = true)
    (hw3 : ∀ v, Region.wanted p (yielded ops (a.put o.dst v).tmps) = true) (hw4 : ∀ v, Region.wanted o (yielded ops (a.put p.dst v).tmps) = true)
    (R1 R2 : Value → World → Prop)
    (h1 : ∀ K : Act → World → Prop, (∀ v w1, Ext w w1 ∧ R1 v w1 → K (a.put o.dst v) w1) → o.wp P a w K Q)
    (h2 : ∀ v w1, R1 v w1 → ∀ K : Act → World → Prop, (∀ u w2, Ext w1 w2 ∧ F v u w2 → K ((a.put o.dst v).put p.dst u) w2) → p.wp P (a.put o.dst v) w1 K Q)
    (h3 : ∀ K : Act → World → Prop, (∀ u w1, Ext w w1 ∧ R2 u w1 → K (a.put p.dst u) w1) → p.wp P a w K Q)
    (h4 : ∀ u w1, R2 u w1 → ∀ K : Act → World → Prop, (∀ v w2, Ext w1 w2 ∧ F v u w2 → K ((a.put p.dst u).put o.dst v) w2) → o.wp P (a.put p.dst u) w1 K Q)
    (hc : ∀ v u, (a.put p.dst u).put o.dst v = (a.put o.dst v).put p.dst u)
    (h : ∀ v u w', F v u w' → wpOtL P ops Q r ((a.put o.dst v).put p.dst u) w') : wpOtL P ops Q (.inr (o, p) :: r) a w := by
  refine ⟨fun a' w' => ∃ v u, a' = (a.put o.dst v).put p.dst u ∧ F v u w', ⟨fun a' w' => ∃ v, a' = a.put o.dst v ∧ R1 v w', fun a' w' => ∃ u, a' = a.put p.dst u ∧ R2 u w', ⟨?_, ?_⟩, ?_, ?_⟩, ?_⟩
  · exact step_wp hw1 (h1 _ fun v w1 hr => ⟨hr.1, v, rfl, hr.2⟩)
  · rintro a1 w1 ⟨v, rfl, hr⟩
    exact step_wp (hw3 v) (h2 v w1 hr _ fun u w2 hf => ⟨hf.1, v, u, rfl, hf.2⟩)
  · exact step_wp hw2 (h3 _ fun u w1 hr => ⟨hr.1, u, rfl, hr.2⟩)
  · rintro a1 w1 ⟨u, rfl, hr⟩
    exact step_wp (hw4 u) (h4 u w1 hr _ fun v w2 hf => ⟨hf.1, v, u, hc v u, hf.2⟩)
  · rintro a' w' ⟨v, u, rfl, hf⟩
    exact h v u w' hf
theorem ot_nil {a : Act} {w : World} (h : Q .normal a w) : wpOtL P ops (NoPanic Q) [] a w := h
end
/-- The check of an order, for a theorem of its own. -/
def otcB (l : List Stp) (q : Array Oper) : Bool :=
  decide (fewer l ≤ q.size) && (otB .any q l (Array.replicate q.size false) && l.all (inB q.size))
theorem wp_region_ot {P : Program} {Q : Exit → Act → World → Prop} {id : Nat} {a : Act} {w : World} {lo : List Oper} (l : List Stp) (q : Array Oper) (hq : otcB l q = true) (he : lo.toArray = q) (hm : P.follows .mixedOrders = true) (hs : Region.noSelect lo.toArray = true)
    (h : wpOtL P lo.toArray (NoPanic Q) (pickOt lo l) a w.drew) : (Code.region id lo.toArray true).wp P Q a w := by
  rw [← he] at hq
  unfold otcB at hq
  simp only [Bool.and_eq_true, decide_eq_true_eq] at hq
  exact wp_region_noPanic (wp_region_held_drew (S := Ext w.drew) hm (Ext.refl _) fun _ => wpAnyH_of_ot hs (fun _ _ _ _ _ h => h) l _ _ _ _ hq.1 hq.2.1 (wpOt_of_L _ _ _ _ hq.2.2 h))
end Go.Proofs.YthpledfjopbchaaDoor
/- A region that draws its order, walked in one named order in which two neighbours may stand either way round, under a condition on the memory that is kept throughout (so that what is loaded and then written again stands in the order itself). No condition. -/
namespace Go.Proofs.YthpledfjopbchaaDoor
open Go.RowKit
section
variable {P : Program} {md : Region.Mode} {ops : Array Oper} {S : World → Prop} {Q : Exit → Act → World → Prop}
def wpOs (P : Program) (ops : Array Oper) (S : World → Prop) (Q : Exit → Act → World → Prop) : List Stp → Act → World → Prop
  | [], a, w => Q .normal a w
  | .inl (i, true) :: r, a, w => ∃ o v, ops[i]? = some o ∧ YieldsIf P ops S o v a ∧ wpOs P ops S Q r (a.put o.dst v) w
  | .inl (i, false) :: r, a, w => wpOp P ops Q i (fun a' w' => S w' ∧ wpOs P ops S Q r a' w') a w
  | .inr (i, j) :: r, a, w => ∃ R : Act → World → Prop,
      (wpOp P ops Q i (fun a1 w1 => S w1 ∧ wpOp P ops Q j (fun a2 w2 => S w2 ∧ R a2 w2) a1 w1) a w ∧
       wpOp P ops Q j (fun a1 w1 => S w1 ∧ wpOp P ops Q i (fun a2 w2 => S w2 ∧ R a2 w2) a1 w1) a w) ∧ ∀ a' w', R a' w' → wpOs P ops S Q r a' w'
theorem wpAnyH_of_os (hs : Region.noSelect ops = true) (hQ : ∀ c a d v w, Q (.panic c) (a.put d v) w → Q (.panic c) a w) :
    ∀ (l : List Stp) (fuel : Nat) (listed : Array Bool) (a : Act) (w : World), fewer l ≤ fuel → otB md ops l listed = true → S w → wpOs P ops S Q l a w →
      wpAnyH P md ops Q S fuel listed a w
  | [], fuel, listed, a, w, _, hB, _, h => wpAnyH_done (by simpa [otB] using hB) h fuel
  | .inl (i, b) :: r, 0, _, _, _, hl, _, _, _ => absurd hl (by simp [fewer])
  | .inr (i, j) :: r, 0, _, _, _, hl, _, _, _ => absurd hl (by simp [fewer])
  | .inr (i, j) :: r, 1, _, _, _, hl, _, _, _ => absurd hl (by simp [fewer])
  | .inl (i, true) :: r, fuel + 1, listed, a, w, hl, hB, hS, h => by
    obtain ⟨o, v, ho, hy, hr⟩ := h
    simp only [otB, Bool.and_eq_true] at hB
    exact wpAnyH_take ho hs hB.1 hB.2.1 (fun c a w => hQ c a _ v w) hy hS (wpAnyH_of_os hs hQ r fuel _ _ _ (by simpa [fewer] using hl) hB.2.2 hS hr)
  | .inl (i, false) :: r, fuel + 1, listed, a, w, hl, hB, hS, h => by
    simp only [otB, Bool.and_eq_true, decide_eq_true_eq] at hB
    refine wpAnyH_all hB.1 (by simp) (fun j hj => ?_)
    have hj : j = i := by simpa using hj
    subst hj
    exact wpOp_mono (fun a' w' h' => ⟨h'.1, wpAnyH_of_os hs hQ r fuel _ _ _ (by simpa [fewer] using hl) hB.2 h'.1 h'.2⟩) h
  | .inr (i, j) :: r, fuel + 2, listed, a, w, hl, hB, hS, h => by
    obtain ⟨R, ⟨h1, h2⟩, h3⟩ := h
    simp only [otB, Bool.and_eq_true, decide_eq_true_eq] at hB
    obtain ⟨⟨b1, bn⟩, ⟨b2, b3⟩, b4⟩ := hB
    have hf : fewer r ≤ fuel := by simp only [fewer] at hl; omega
    refine wpAnyH_all b1 (by simp) (fun k hk => ?_)
    rcases (show k = i ∨ k = j by simpa using hk) with rfl | rfl
    · refine wpOp_mono (fun a1 w1 h' => ⟨h'.1, wpAnyH_all b2 (by simp) (fun k' hk' => ?_)⟩) h1
      have hk' : k' = j := by simpa using hk'
      subst hk'
      exact wpOp_mono (fun a2 w2 h'' => ⟨h''.1, wpAnyH_of_os hs hQ r fuel _ _ _ hf b4 h''.1 (h3 _ _ h''.2)⟩) h'.2
    · refine wpOp_mono (fun a1 w1 h' => ⟨h'.1, wpAnyH_all b3 (by simp) (fun k' hk' => ?_)⟩) h2
      have hk' : k' = i := by simpa using hk'
      subst hk'
      rw [set_comm2 listed k' k bn]
      exact wpOp_mono (fun a2 w2 h'' => ⟨h''.1, wpAnyH_of_os hs hQ r fuel _ _ _ hf b4 h''.1 (h3 _ _ h''.2)⟩) h'.2
def wpOsL (P : Program) (ops : Array Oper) (S : World → Prop) (Q : Exit → Act → World → Prop) : List StpL → Act → World → Prop
  | [], a, w => Q .normal a w
  | .inl (o, true) :: r, a, w => ∃ v, YieldsIf P ops S o v a ∧ wpOsL P ops S Q r (a.put o.dst v) w
  | .inl (o, false) :: r, a, w => ∃ R : Act → World → Prop, stepL P ops Q o (fun a' w' => S w' ∧ R a' w') a w ∧ ∀ a' w', R a' w' → wpOsL P ops S Q r a' w'
  | .inr (o, p) :: r, a, w => ∃ R : Act → World → Prop,
      (∃ R1 R2 : Act → World → Prop, (stepL P ops Q o (fun a1 w1 => S w1 ∧ R1 a1 w1) a w ∧ ∀ a1 w1, R1 a1 w1 → stepL P ops Q p (fun a2 w2 => S w2 ∧ R a2 w2) a1 w1) ∧
       (stepL P ops Q p (fun a1 w1 => S w1 ∧ R2 a1 w1) a w ∧ ∀ a1 w1, R2 a1 w1 → stepL P ops Q o (fun a2 w2 => S w2 ∧ R a2 w2) a1 w1)) ∧ ∀ a' w', R a' w' → wpOsL P ops S Q r a' w'
theorem wpOs_of_L (ops : Array Oper) : ∀ (l : List Stp) (a : Act) (w : World), (l.all (inB ops.size)) = true → wpOsL P ops S Q (pickOt ops.toList l) a w → wpOs P ops S Q l a w
  | [], _, _, _, h => h
  | .inl (i, b) :: r, a, w, hl, h => by
    simp only [List.all_cons, Bool.and_eq_true, inB, decide_eq_true_eq] at hl
    have ho : ops.toList[i]? = some ops[i] := by simp [hl.1]
    have ho' : ops[i]? = some ops[i] := by simp [hl.1]
    rw [pickOt, ho] at h
    cases b with
    | true =>
      obtain ⟨v, hy, hr⟩ := h
      exact ⟨_, v, ho', hy, wpOs_of_L ops r _ _ hl.2 hr⟩
    | false =>
      obtain ⟨R, h1, h2⟩ := h
      exact wpOp_mono (fun a' w' h' => ⟨h'.1, wpOs_of_L ops r _ _ hl.2 (h2 _ _ h'.2)⟩) (wpOp_step ho' h1)
  | .inr (i, j) :: r, a, w, hl, h => by
    simp only [List.all_cons, Bool.and_eq_true, inB, decide_eq_true_eq] at hl
    obtain ⟨⟨li, lj⟩, hl2⟩ := hl
    have ho : ops.toList[i]? = some ops[i] := by simp [li]
    have ho' : ops[i]? = some ops[i] := by simp [li]
    have hp : ops.toList[j]? = some ops[j] := by simp [lj]
    have hp' : ops[j]? = some ops[j] := by simp [lj]
    rw [pickOt, ho, hp] at h
    obtain ⟨R, ⟨R1, R2, ⟨h1, h2⟩, h3, h4⟩, h5⟩ := h
    exact ⟨R, ⟨wpOp_mono (fun a1 w1 h' => ⟨h'.1, wpOp_step hp' (h2 _ _ h'.2)⟩) (wpOp_step ho' h1), wpOp_mono (fun a1 w1 h' => ⟨h'.1, wpOp_step ho' (h4 _ _ h'.2)⟩) (wpOp_step hp' h3)⟩, fun a' w' hr => wpOs_of_L ops r _ _ hl2 (h5 _ _ hr)⟩
theorem os_pure {o : Oper} {r : List StpL} {a : Act} {w : World} {v : Value} (hw : Region.wanted o (yielded ops a.tmps) = true)
    (hy : ∀ w', S w' → (execOp a.eval o).run P w' = .ok (.value v) w') (h : wpOsL P ops S Q r (a.put o.dst v) w) : wpOsL P ops S Q (.inl (o, true) :: r) a w :=
  ⟨v, .inl ⟨hw, hy⟩, h⟩
theorem os_skip {o : Oper} {r : List StpL} {a : Act} {w : World} (hw : Region.wanted o (yielded ops a.tmps) = false)
    (h : wpOsL P ops S Q r (a.put o.dst undef) w) : wpOsL P ops S Q (.inl (o, true) :: r) a w :=
  ⟨undef, .inr ⟨hw, rfl⟩, h⟩
theorem os_step {o : Oper} {r : List StpL} {a : Act} {w : World} (hw : Region.wanted o (yielded ops a.tmps) = true)
    (h : ∀ K : Act → World → Prop, (∀ a w', S w' ∧ wpOsL P ops S Q r a w' → K a w') → o.wp P a w K Q) : wpOsL P ops S Q (.inl (o, false) :: r) a w :=
  ⟨_, step_wp hw (h _ fun _ _ h => h), fun _ _ h => h⟩
theorem os_two {o p : Oper} {r : List StpL} {a : Act} {w : World} (F : Value → Value → World → Prop)
    (hw1 : Region.wanted o (yielded ops a.tmps) = true) (hw2 : Region.wanted p (yielded ops a.tmps) = true)
    (hw3 : ∀ v, Region.wanted p (yielded ops (a.put o.dst v).tmps) = true) (hw4 : ∀ v, Region.wanted o (yielded ops (a.put p.dst v).tmps) = true)
    (R1 R2 : Value → World → Prop)
    (h1 : ∀ K : Act → World → Prop, (∀ v w1, S w1 ∧ R1 v w1 → K (a.put o.dst v) w1) → o.wp P a w K Q)
    (h2 : ∀ v w1, R1 v w1 → ∀ K : Act → World → Prop, (∀ u w2, S w2 ∧ F v u w2 → K ((a.put o.dst v).put p.dst u) w2) → p.wp P (a.put o.dst v) w1 K Q)
    (h3 : ∀ K : Act → World → Prop, (∀ u w1, S w1 ∧ R2 u w1 → K (a.put p.dst u) w1) → p.wp P a w K Q)
    (h4 : ∀ u w1, R2 u w1 → ∀ K : Act → World → Prop, (∀ v w2, S w2 ∧ F v u w2 → K ((a.put p.dst u).put o.dst v) w2) → o.wp P (a.put p.dst u) w1 K Q)
    (hc : ∀ v u, (a.put p.dst u).put o.dst v = (a.put o.dst v).put p.dst u)
    (h : ∀ v u w', F v u w' → wpOsL P ops S Q r ((a.put o.dst v).put p.dst u) w') : wpOsL P ops S Q (.inr (o, p) :: r) a w := by
  refine ⟨fun a' w' => ∃ v u, a' = (a.put o.dst v).put p.dst u ∧ F v u w', ⟨fun a' w' => ∃ v, a' = a.put o.dst v ∧ R1 v w', fun a' w' => ∃ u, a' = a.put p.dst u ∧ R2 u w', ⟨?_, ?_⟩, ?_, ?_⟩, ?_⟩
  · exact step_wp hw1 (h1 _ fun v w1 hr => ⟨hr.1, v, rfl, hr.2⟩)
  · rintro a1 w1 ⟨v, rfl, hr⟩
    exact step_wp (hw3 v) (h2 v w1 hr _ fun u w2 hf => ⟨hf.1, v, u, rfl, hf.2⟩)
  · exact step_wp hw2 (h3 _ fun u w1 hr => ⟨hr.1, u, rfl, hr.2⟩)
  · rintro a1 w1 ⟨u, rfl, hr⟩
    exact step_wp (hw4 u) (h4 u w1 hr _ fun v w2 hf => ⟨hf.1, v, u, hc v u, hf.2⟩)
  · rintro a' w' ⟨v, u, rfl, hf⟩
    exact h v u w' hf
theorem os_nil {a : Act} {w : World} (h : Q .normal a w) : wpOsL P ops S (NoPanic Q) [] a w := h
theorem wp_val {o : Oper} {a : Act} {w : World} {v : Value} {K : Act → World → Prop} (h : (execOp a.eval o).run P w = .ok (.value v) w) (hk : K (a.put o.dst v) w) : o.wp P a w K Q := by
  unfold Oper.wp; rw [h]; exact hk
end
theorem wp_region_os {P : Program} {Q : Exit → Act → World → Prop} {id : Nat} {a : Act} {w : World} {lo : List Oper} (l : List Stp) (q : Array Oper) (hq : otcB l q = true) (he : lo.toArray = q) (hm : P.follows .mixedOrders = true) (hs : Region.noSelect lo.toArray = true) (S : World → Prop) (hS : S w.drew)
    (h : wpOsL P lo.toArray S (NoPanic Q) (pickOt lo l) a w.drew) : (Code.region id lo.toArray true).wp P Q a w := by
  rw [← he] at hq
  unfold otcB at hq
  simp only [Bool.and_eq_true, decide_eq_true_eq] at hq
  exact wp_region_noPanic (wp_region_held_drew (S := S) hm hS fun _ => wpAnyH_of_os hs (fun _ _ _ _ _ h => h) l _ _ _ _ hq.1 hq.2.1 hS (wpOs_of_L _ _ _ _ hq.2.2 h))
end Go.Proofs.YthpledfjopbchaaDoor
