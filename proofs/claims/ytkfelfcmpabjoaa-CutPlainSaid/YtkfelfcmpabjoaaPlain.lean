/- The law CutPlain returns true: by the plain rule all pieces but the last have their sizes, and put together they are the bytes. Condition: the bytes as they came in. -/
import Derived.Test.YtkfelfcmpabjoaaAwake
import Derived.Test.YtkfelfcmpabjoaaCuto
namespace Go.Proofs.Ytkfelfcmpabjoaa
open Go.RowKit
theorem pieces_at (b : List (BitVec 8)) (L : List Nat) (i : Nat) (h : i < L.length) : (pieces b L)[i]? = some (piece b L i) := by
  unfold pieces; rw [List.getElem?_map, List.getElem?_range h]; rfl
theorem pieces_sizes {r : Rl} (h : r.Ok) (b : List (BitVec 8)) (i : Nat) (x : List (BitVec 8)) (hx : (pieces b (endsL r 0 b))[i]? = some x) : 1 ≤ x.length ∧ x.length ≤ r.mx ∧ (i + 1 < (pieces b (endsL r 0 b)).length → r.mn ≤ x.length) := by
  have hi : i < (endsL r 0 b).length := by
    have := (List.getElem?_eq_some_iff.1 hx).1
    rwa [pieces_length] at this
  rw [pieces_at b _ i hi] at hx
  cases hx
  obtain ⟨k1, k2, k3, k4⟩ := endsL_lt h b i hi
  rw [piece_length _ _ _ (by rw [getD_at _ i hi]; exact k2), getD_at _ i hi, pieces_length]
  exact ⟨by omega, by omega, fun hl => by have := k4 hl; omega⟩
theorem flat_step {α : Type} (P : List (List α)) (i : Nat) (x : List α) (hx : P[i]? = some x) : (P.take (i + 1)).flatten = (P.take i).flatten ++ x := by
  obtain ⟨hi, rfl⟩ := List.getElem?_eq_some_iff.1 hx
  rw [List.take_succ_eq_append_getElem hi, List.flatten_append, List.flatten_singleton]
theorem flat_le {α : Type} (P : List (List α)) (i : Nat) : (P.take i).flatten.length ≤ P.flatten.length := by
  have h := congrArg (fun l => (List.flatten l).length) (List.take_append_drop i P)
  simp only [List.flatten_append, List.length_append] at h
  omega
set_option maxHeartbeats 1000000 in
set_option maxRecDepth 100000 in
theorem plain_long (b : List (BitVec 8)) (h : 3000 < b.length) (q : Option Addr) (c : Nat) (w : World) :
    Calls Try.prog 5 #[.slice q b.length c] w fun e w' => e = .returned (.bool true) ∧ Below w.heap.size w w' := by
  have k0 : (3000 : Int) < (b.length : Int) := by omega
  have HA := Lib.hid (awake_any w)
  clear h
  go_enter Try.func5, Try.ntmps5
  go_wp2_with fail
  refine HA.out.mono ?_
  rintro e w1 ⟨rfl, hb⟩
  have HB := Lib.hid hb
  clear hb
  go_wp2_with fail
  go_ret
  exact ⟨rfl, HB.out⟩
set_option maxHeartbeats 2000000 in
set_option maxRecDepth 100000 in
theorem plain_main (b : List (BitVec 8)) (hl : b.length ≤ 3000) (q : Option Addr) (c : Nat) (w : World) (hc : b.length ≤ c) (hq : q = none → c = 0) (hs : Sees w w.heap.size q (b.map u8v)) :
    Calls Try.prog 5 #[.slice q b.length c] w fun e w' => e = .returned (.bool true) ∧ Below w.heap.size w w' := by
  have k0 : ¬ (3000 : Int) < (b.length : Int) := by omega
  have HA := Lib.hid (awake_any w)
  have HP := Lib.hid (fun v => plain_any v)
  have HN := Lib.hid (fun v (hb : Below w.heap.size w v) => parts_good plainR plainR_ok b q c v hc hq (by omega) ((hs.keep hb).more hb.size))
  replace HN : Hid (∀ v, Below w.heap.size w v → Calls Try.prog 12 #[ruleV 16 128 8 31 7, .slice q b.length c] v fun e w' => ∃ u, e = .returned u ∧ Ps w' u (pieces b (endsL plainR 0 b)) ∧ Below v.heap.size v w') := HN
  have HSZ := Lib.hid (pieces_sizes plainR_ok b)
  replace HSZ : Hid (∀ i x, (pieces b (endsL plainR 0 b))[i]? = some x → 1 ≤ x.length ∧ x.length ≤ 128 ∧ (i + 1 < (pieces b (endsL plainR 0 b)).length → 16 ≤ x.length)) := HSZ
  have HJ := Lib.hid (pieces_all plainR_ok b)
  have HNN : Hid ((pieces b (endsL plainR 0 b)).length ≤ 3000) := Lib.hid (by rw [pieces_length]; exact Nat.le_trans (endsL_count plainR_ok b) hl)
  generalize pieces b (endsL plainR 0 b) = P at *
  have HS := Lib.hid hs
  have HL := Lib.hid hl
  clear hs hc hq hl
  go_enter Try.func5, Try.ntmps5
  go_wp2_with fail
  refine HA.out.mono ?_
  rintro e w1 ⟨rfl, hb⟩
  have HB1 := Lib.hid hb
  clear hb HA
  go_wp2_with fail
  refine (HP.out w1).mono ?_
  rintro e w2 ⟨rfl, hb⟩
  have HB2 := Lib.hid (HB1.out.trans (hb.mono HB1.out.size))
  clear hb HB1 HP
  go_wp2_with fail
  refine (HN.out w2 HB2.out).mono ?_
  rintro e w3 ⟨u, rfl, ⟨qp, cp, vs, rfl, hsp, hvl, hv⟩, hb⟩
  have HB3 := Lib.hid (HB2.out.trans (hb.mono HB2.out.size))
  have HSP := Lib.hid hsp
  have HV := Lib.hid hv
  have HVL := Lib.hid hvl
  clear hb HB2 HN hsp hv hvl
  have hnn := HNN.out
  go_wp2_with fail
  go_loopw [4, 5] (fun v vi wr => ∃ i : Nat, i ≤ P.length ∧ vi = .int .i64 i ∧ wr.ownsRow w3.heap.size 5 1 v (P.take i).flatten.length ((P.take i).flatten.map u8v) ∧ Below w3.heap.size w3 wr) (fun _ vi _ => P.length - (intOf vi).toNat)
  case atStart => exact ⟨0, by omega, rfl, World.ownsRow_nil _ _ _ _, Below.refl _ _⟩
  case round =>
    rename_i wr
    obtain ⟨i, hi, rfl, hrow, hB⟩ := hrel
    have HROW := Lib.hid hrow
    have HB := Lib.hid hB
    by_cases hlt : i < P.length
    · obtain ⟨ad, rfl, _, hcell⟩ := (HSP.out.keep hB).get (by rw [HVL.out]; omega)
      have hvi : i < vs.length := by rw [HVL.out]; exact hlt
      have ci := hcell i vs[i] (List.getElem?_eq_getElem hvi)
      have hx := List.getElem?_eq_getElem hlt
      obtain ⟨q2, c2, he, _, hq2, hs2⟩ := HV.out i vs[i] P[i] (List.getElem?_eq_getElem hvi) hx
      rw [he] at ci
      obtain ⟨g1, g2, g3⟩ := HSZ.out i _ hx
      have HST := Lib.hid (flat_step P i _ hx)
      have hfl := flat_le P (i + 1)
      rw [HST.out, HJ.out, List.length_append] at hfl
      have HFL : Hid ((P.take i).flatten.length + P[i].length ≤ 140737488355328) := Lib.hid (by have := HL.out; omega)
      have HS2 := Lib.hid (hs2.keep hB)
      have HQ2 := Lib.hid hq2
      have HBASE := Lib.hid hB.size
      have k1 : ¬ (P[i].length : Int) < 1 := by omega
      have k2 : ¬ (128 : Int) < (P[i].length : Int) := by omega
      generalize P[i] = x at *
      clear hcell hrow hB hx he hs2 hq2 hfl hvi
      obtain ⟨J, hJ⟩ : ∃ J, J = (P.take i).flatten := ⟨_, rfl⟩
      rw [← hJ] at HROW HST HFL
      clear hJ
      by_cases hn : i + 1 < P.length
      · have k3 : ¬ (x.length : Int) < 16 := by have := g3 hn; omega
        have k4 : (i : Int) + 1 < (P.length : Int) := by omega
        clear g1 g2 g3
        go_wp2_with (refine wpList_append_sees rfl (.tmp 49) (.tmp 53) rfl w3.heap.size _ J.length (J.map u8v) rfl HROW.out q2 x c2 w3.heap.size rfl HQ2.out HS2.out HFL.out HBASE.out ?_; intro v7 w7 h1 h2; have HROW2 := Lib.hid h1; have HB7 := Lib.hid h2; clear h1 h2 HROW)
        go_roundw
        case rel =>
          refine ⟨i + 1, by omega, by go_num, ?_, HB.out.trans HB7.out⟩
          rw [HST.out, List.length_append, List.map_append]
          exact HROW2.out
        case measure => simp [intOf]; omega
      · have k4 : ¬ (i : Int) + 1 < (P.length : Int) := by omega
        clear g1 g2 g3
        go_wp2_with (refine wpList_append_sees rfl (.tmp 49) (.tmp 53) rfl w3.heap.size _ J.length (J.map u8v) rfl HROW.out q2 x c2 w3.heap.size rfl HQ2.out HS2.out HFL.out HBASE.out ?_; intro v7 w7 h1 h2; have HROW2 := Lib.hid h1; have HB7 := Lib.hid h2; clear h1 h2 HROW)
        go_roundw
        case rel =>
          refine ⟨i + 1, by omega, by go_num, ?_, HB.out.trans HB7.out⟩
          rw [HST.out, List.length_append, List.map_append]
          exact HROW2.out
        case measure => simp [intOf]; omega
    · have hil : i = P.length := by omega
      have k4 : ¬ (i : Int) < (P.length : Int) := by omega
      rw [hil, List.take_length, HJ.out] at hrow
      obtain ⟨q9, c9, rfl, _, _, hs9⟩ := Bs.own hrow
      have h1 := str_run b q9 c9 _ wr hs9
      have h2 := str_run b q c _ wr (HS.out.keep (HB3.out.trans (hB.mono HB3.out.size)))
      have HB9 := Lib.hid (HB3.out.trans (hB.mono HB3.out.size))
      clear hrow hB hs9 HROW HB hlt hil
      go_wp2_with fail
      go_ret
      exact ⟨rfl, HB9.out⟩
theorem plain_law (b : List (BitVec 8)) (q : Option Addr) (c : Nat) (w : World) (hc : b.length ≤ c) (hq : q = none → c = 0) (hs : Sees w w.heap.size q (b.map u8v)) :
    Calls Try.prog 5 #[.slice q b.length c] w fun e w' => e = .returned (.bool true) ∧ Below w.heap.size w w' := by
  by_cases hl : 3000 < b.length
  · exact plain_long b hl q c w
  · exact plain_main b (by omega) q c w hc hq hs
end Go.Proofs.Ytkfelfcmpabjoaa
