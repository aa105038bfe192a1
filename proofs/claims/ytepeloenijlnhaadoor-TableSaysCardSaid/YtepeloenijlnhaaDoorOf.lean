/- Contract: sum.Of. Conditions: the parts lie in older memory; fewer than 2^60 bytes in all. -/
import Derived.Test.YtepeloenijlnhaaDoorEnd
namespace Go.Proofs.YtepeloenijlnhaaDoor
open Go.RowKit
/-- A slice of byte slices that reads as a list of lists. -/
def Parts (w : World) (b : Nat) (p : Option Addr) (ps : List (List (BitVec 8))) : Prop :=
  ∀ i, i < ps.length → ∃ a q c, p = some a ∧ a.block < b ∧ w.cell? (a.add i) = some (.slice q (ps.getD i []).length c) ∧ (ps.getD i []).length ≤ c ∧ Sees w b q ((ps.getD i []).map u8v)
theorem flatten_take (ps : List (List (BitVec 8))) (k : Nat) (h : k < ps.length) : (ps.take (k + 1)).flatten = (ps.take k).flatten ++ ps.getD k [] := by
  rw [List.take_succ_eq_append_getElem h, List.flatten_append]
  simp [List.getD_eq_getElem?_getD, List.getElem?_eq_getElem h]
theorem flatten_le (ps : List (List (BitVec 8))) (k : Nat) : (ps.take k).flatten.length ≤ ps.flatten.length := by
  conv => rhs; rw [← List.take_append_drop k ps, List.flatten_append, List.length_append]
  omega

set_option maxHeartbeats 1000000 in
set_option maxRecDepth 100000 in
theorem of_any (ps : List (List (BitVec 8))) (p : Option Addr) (cap : Nat) (w : World) (hP : Parts w w.heap.size p ps) (hn : ps.length < 9223372036854775807)
    (hb : ps.flatten.length < 1152921504606846976) (hL : Laid w) :
    Calls Tryd.prog 45 #[.slice p ps.length cap] w fun e w' => e = .returned (.agg ((sha ps.flatten).map u8v).toArray) ∧ Below w.heap.size w w' := by
  have HP := Lib.hid hP
  have HL := Lib.hid hL
  have Hb := Lib.hid hb
  have hz := hzero_run
  have hsz := hL.size
  clear hP hL hb
  go_enter Tryd.func45, Tryd.ntmps45
  go_wp2_with fail
  generalize hw0 : w.alloc _ = w0
  have hR : Has w0 w.heap.size 41 (brow 32 []) := by
    subst hw0; rw [brow_nil]; exact Has.made' _ _ _ _ rfl
  have hB : Below w.heap.size w w0 := by subst hw0; exact (Below.refl _ _).alloc (Nat.le_refl _) _
  clear hw0
  refine (begin_any w0 ((HL.out.keep hB hsz).2)).mono ?_
  rintro e w1 ⟨rfl, hb1⟩
  replace hR := hR.keep hb1 hR.lt
  replace hB := hB.trans (hb1.mono hB.size)
  have HR := Lib.hid hR
  have hr1 := hR.lt
  clear hb1 hR
  go_upto_region 2 with (refine wpList_store_row rfl 105 _ _ rfl w1.heap.size _ rfl rfl 105 _ (heap_alloc_new _ _) (by kernel_rfl) (by kernel_rfl) (by kernel_rfl) ?_)
  generalize hw2 : (w1.alloc _).setRow _ _ = w2
  have hH : Holds w2 w1.heap.size [] := by
    subst hw2
    exact ⟨List.replicate 64 0, by simp, Has.rowl (Has.made' _ _ _ hzero rfl) _, by simp [restOf]⟩
  replace HR : Hid (Has w2 w.heap.size 41 (brow 32 [])) := by
    subst hw2; exact Lib.hid ((HR.out.alloc _).offRow (by omega) _)
  replace hB : Below w.heap.size w w2 := by
    subst hw2; exact below_row (hB.alloc (Nat.le_of_lt hr1) _) (Nat.le_of_lt hr1) _
  clear hw2 hz
  generalize w1.heap.size = g at *
  have hg1 : 1 < g := by omega
  go_wp2_with fail
  go_loopw [9] (fun i wr => ∃ k : Nat, k ≤ ps.length ∧ i = .int .i64 k ∧ Holds wr g (ps.take k).flatten ∧ Has wr w.heap.size 41 (brow 32 []) ∧ Below w.heap.size w wr)
    (fun i _ => ps.length - (intOf i).toNat)
  case atStart => exact ⟨0, by omega, rfl, by simpa using hH, HR.out, hB⟩
  case round =>
    clear hH HR hB
    rename_i wr
    obtain ⟨k, hk, rfl, hH, hR, hB⟩ := hrel
    by_cases hlt : k < ps.length
    · obtain ⟨a, q, c, rfl, hab, hcell, hc, hs⟩ := HP.out k hlt
      have hcr : wr.cell? (a.add k) = some (.slice q (ps.getD k []).length c) := (hB.cell (by rw [add_block]; exact hab)).trans hcell
      have hft := flatten_take ps k hlt
      have hfl := flatten_le ps (k + 1)
      have Hft := Lib.hid hft
      have hlen : (ps.take k).flatten.length + (ps.getD k []).length < 1152921504606846976 := by
        rw [hft, List.length_append] at hfl
        have := Hb.out
        omega
      have Hlen := Lib.hid hlen
      have Hs := Lib.hid ((hs.keep hB).more (Nat.le_of_lt hr1))
      have HH := Lib.hid hH
      generalize hp : ps.getD k [] = pk at *
      have Hp := Lib.hid hp
      clear hcell hs hft hfl hlen hH hp
      have Hc := Lib.hid hc
      clear hc
      go_wp2_with fail
      refine (add_any g _ pk q c wr HH.out Hs.out Hc.out Hlen.out (HL.out.keep hB hsz) hg1).mono ?_
      rintro e w3 ⟨rfl, hH3, hB3⟩
      go_wp2_with fail
      go_roundw
      case rel => exact ⟨k + 1, by omega, by go_num, by rw [Hft.out]; exact hH3, hR.keep hB3 hr1, hB.trans (hB3.mono (Nat.le_of_lt hr1))⟩
      case measure => simp [intOf]; omega
    · have : k = ps.length := by omega
      subst this
      clear hlt
      rw [List.take_length] at hH
      have HR := Lib.hid hR
      clear hR
      go_wp2_with fail
      refine (end_any g _ wr hH Hb.out (HL.out.keep hB hsz) hg1).mono ?_
      rintro e w3 ⟨rfl, hB3⟩
      have hR3 := HR.out.keep hB3 hr1
      go_wp2_with (refine wpList_store_row rfl 41 _ _ rfl w.heap.size _ rfl rfl 41 _ hR3 (by kernel_rfl) (by simp [brow, sha_length]) (u8v_one _) ?_)
      refine bodyPost_ret (v := .agg ((sha ps.flatten).map u8v).toArray) ?_ rfl ⟨rfl, below_row (hB.trans (hB3.mono (Nat.le_of_lt hr1))) (Nat.le_refl _) _⟩
      refine results_cell_row rfl _ _ w.heap.size 41 _ (0, 0) _ rfl ?_ Tryd.underlying41 rfl (by kernel_rfl)
      exact hR3.rowl _
end Go.Proofs.YtepeloenijlnhaaDoor
