/- Contract: cut.Parts: the pieces. Conditions: a text is of at most a million bytes, no longer than its room, and has no room where it is nil. -/
import Derived.Test.YthpledfjopbchaaDoorEnds
namespace Go.Proofs.YthpledfjopbchaaDoor
open Go.RowKit
theorem sl_info : (Tryd.prog.info? 26).map (fun i => (i.zero, i.size, i.bytes)) = some (some (.slice none 0 0), 1, 24) := by kernel_rfl
theorem made_runS (n : Nat) (hn : n ≤ 1000000) (w : World) :
    (Instr.makeSlice 58 (.int .i64 0) (.int .i64 (n : Int))).run Tryd.prog w = .ok (.slice (some ⟨w.heap.size, 0, none⟩) 0 n) (w.alloc (.cells (madeCells #[Value.slice none 0 0] n) 26)) := by
  obtain ⟨i0, hi, hz0, hz1, hz2⟩ := info_parts sl_info
  have := run_make (P := Tryd.prog) w 58 26 i0 (.slice none 0 0) Tryd.underlying58 hi hz0 .i64 .i64 0 n (by omega) (by omega) (by rw [hz2]; omega) (by omega)
  rw [hz1, Nat.mul_one, show (Value.slice none 0 0).cells = #[Value.slice none 0 0] from rfl] at this
  simpa using this
theorem cut_mid3 (a : Option Addr) (n cap f t : Nat) (h1 : f ≤ t) (h2 : t ≤ cap) (w : World) :
    (Instr.slice 26 (.slice a n cap) (some (.int .i64 (f : Int))) (some (.int .i64 (t : Int))) (some (.int .i64 (t : Int)))).run Tryd.prog w = .ok (.slice (cutQ a t f) (t - f) (t - f)) w := by
  obtain ⟨i0, hi, _, hz1, _⟩ := info_parts u8_info
  have he : Tryd.prog.elem 26 = 5 := by kernel_rfl
  rw [run_slice_lhm (ht := by rw [he]; exact Tryd.underlying26) (h0 := by omega) (h1 := by omega) (h2 := by omega) (h3 := by omega), he]
  simp [sizeOf, typeInfo, hi, hz1, sliced, cutQ]
/-- The i-th piece as it lies. -/
def pv (q : Option Addr) (L : List Nat) (i : Nat) : Value := .slice (cutQ q (L.getD i 0) (before L i)) (L.getD i 0 - before L i) (L.getD i 0 - before L i)
theorem piece_length (b : List (BitVec 8)) (L : List Nat) (i : Nat) (h : L.getD i 0 ≤ b.length) : (piece b L i).length = L.getD i 0 - before L i := by
  unfold piece; rw [List.length_drop, List.length_take]; omega
theorem pv_bs {w : World} {g : Nat} {q : Option Addr} {b : List (BitVec 8)} (h : Sees w g q (b.map u8v)) (hg : g ≤ w.heap.size) (L : List Nat) (i : Nat) (h1 : before L i < L.getD i 0) (h2 : L.getD i 0 ≤ b.length) : Bs w (pv q L i) (piece b L i) := by
  have hl := piece_length b L i h2
  have hh : Sees w g q ((b.take (L.getD i 0)).map u8v) := by rw [List.map_take]; exact h.head _
  have hm := hh.mid (c := L.getD i 0) (f := before L i) (t := L.getD i 0) (by rw [List.length_take]; omega)
  rw [List.take_take, Nat.min_self] at hm
  refine ⟨cutQ q (L.getD i 0) (before L i), L.getD i 0 - before L i, by unfold pv; rw [hl], by omega, fun h0 => ?_, hm.more hg⟩
  obtain ⟨a, rfl, _⟩ := h.get (by rw [List.length_map]; omega)
  unfold cutQ at h0
  rw [if_neg (by omega)] at h0
  cases h0
/-- The value v reads as these texts. -/
def Ps (w : World) (v : Value) (l : List (List (BitVec 8))) : Prop := ∃ (q : Option Addr) (c : Nat) (vs : List Value), v = .slice q l.length c ∧ Sees w w.heap.size q vs ∧ vs.length = l.length ∧ ∀ (i : Nat) (u : Value) (x : List (BitVec 8)), vs[i]? = some u → l[i]? = some x → Bs w u x
theorem Ps.nil (w : World) : Ps w (.slice none 0 0) [] := ⟨none, 0, [], rfl, Sees.nil _ _ _, rfl, fun i u x h => by simp at h⟩
theorem Ps.keep {w w' : World} {v : Value} {l : List (List (BitVec 8))} (h : Ps w v l) (hb : Below w.heap.size w w') : Ps w' v l := by
  obtain ⟨q, c, vs, h1, h2, h3, h4⟩ := h
  exact ⟨q, c, vs, h1, (h2.keep hb).more hb.size, h3, fun i u x hu hx => (h4 i u x hu hx).keep hb⟩
/-- All the pieces. -/
def pieces (b : List (BitVec 8)) (L : List Nat) : List (List (BitVec 8)) := (List.range L.length).map (piece b L)
theorem pieces_length (b : List (BitVec 8)) (L : List Nat) : (pieces b L).length = L.length := by unfold pieces; rw [List.length_map, List.length_range]
theorem Ps.own {w : World} {base g : Nat} {v : Value} {q : Option Addr} {b : List (BitVec 8)} {L : List Nat} (h : w.ownsRow base 26 1 v ((List.range L.length).map (pv q L)).length ((List.range L.length).map (pv q L)))
    (hs : Sees w g q (b.map u8v)) (hg : g ≤ w.heap.size) (hL : ∀ i, i < L.length → before L i < L.getD i 0 ∧ L.getD i 0 ≤ b.length) : Ps w v (pieces b L) := by
  rcases h.2 with ⟨rfl, h0⟩ | ⟨k, cap, cur, rfl, hb, hg', h1, _⟩
  · rw [List.length_map, List.length_range] at h0
    have : L = [] := List.eq_nil_of_length_eq_zero h0
    subst this
    exact Ps.nil w
  · refine ⟨_, cap, (List.range L.length).map (pv q L), by rw [pieces_length, List.length_map, List.length_range], fun _ => ⟨_, rfl, (Array.getElem?_eq_some_iff.1 hg').1, h.cells (g := k) rfl⟩, by rw [pieces_length, List.length_map, List.length_range], fun i u x hu hx => ?_⟩
    unfold pieces at hx
    rw [List.getElem?_map] at hu hx
    have hi : i < L.length := by
      rcases Nat.lt_or_ge i L.length with hlt | hge
      · exact hlt
      · rw [List.getElem?_eq_none (by rw [List.length_range]; exact hge)] at hu; cases hu
    rw [List.getElem?_range hi] at hu hx
    cases hu
    cases hx
    exact pv_bs hs hg L i (hL i hi).1 (hL i hi).2
theorem pv_one (q : Option Addr) (L : List Nat) (i : Nat) : (pv q L i).oneCell' = true := rfl
set_option maxHeartbeats 1000000 in
set_option maxRecDepth 100000 in
theorem parts_bad (m x d k t : Int) (h : okI m x d = false) (b : List (BitVec 8)) (q : Option Addr) (c : Nat) (w : World) :
    Calls Tryd.prog 31 #[ruleV m x d k t, .slice q b.length c] w fun e w' => e = .returned (.slice none 0 0) ∧ Below w.heap.size w w' := by
  have HG := Lib.hid (fun w1 => ends_bad m x d k t h b q c w1)
  unfold ruleV ruleL at HG ⊢
  go_enter Tryd.func31, Tryd.ntmps31
  go_wp2_with ((with_reducible refine (HG.out _).mono ?_); rintro e w4 ⟨rfl, hB⟩; have HB := Lib.hid hB; clear hB)
  go_ret
  exact ⟨rfl, ((Below.refl _ _).alloc (Nat.le_refl _) _).trans (HB.out.mono (by simp))⟩
set_option maxHeartbeats 2000000 in
set_option maxRecDepth 100000 in
theorem parts_good (r : Rl) (hr : r.Ok) (b : List (BitVec 8)) (q : Option Addr) (c : Nat) (w : World) (hc : b.length ≤ c) (hq : q = none → c = 0) (hl : b.length ≤ 1000000) (hs : Sees w w.heap.size q (b.map u8v)) :
    Calls Tryd.prog 31 #[r.val, .slice q b.length c] w fun e w' => ∃ v, e = .returned v ∧ Ps w' v (pieces b (endsL r 0 b)) ∧ Below w.heap.size w w' := by
  have HN := Lib.hid (fun v (hb : Below w.heap.size w v) => ends_good r hr b q c v hc hl ((hs.keep hb).more hb.size))
  have HLT : Hid (∀ i, i < (endsL r 0 b).length → before (endsL r 0 b) i < (endsL r 0 b).getD i 0 ∧ (endsL r 0 b).getD i 0 ≤ b.length) := Lib.hid (fun i hi => by
    obtain ⟨k1, k2, _⟩ := endsL_lt hr b i hi
    rw [getD_at _ i hi]
    exact ⟨k1, k2⟩)
  have HLL : Hid ((endsL r 0 b).length ≤ b.length) := Lib.hid (by
    have h1 := endsL_least hr b
    by_cases h0 : (endsL r 0 b).length = 0
    · omega
    · have h2 := h1 ((endsL r 0 b).length - 1) (by omega)
      obtain ⟨k1, k2, _⟩ := endsL_lt hr b ((endsL r 0 b).length - 1) (by omega)
      have h3 : (endsL r 0 b).length - 1 ≤ ((endsL r 0 b).length - 1) * r.mn := Nat.le_mul_of_pos_right _ (by have := hr.w1; have := hr.w3; omega)
      omega)
  have HEM : Hid ((endsL r 0 b).length = 0 → endsL r 0 b = []) := Lib.hid (fun h => List.eq_nil_of_length_eq_zero h)
  have HNE : Hid ((endsL r 0 b).length ≠ 0 → b.length ≠ 0) := Lib.hid (fun h h0 => h ((endsL_empty hr b).2 h0))
  have HS := Lib.hid hs
  have HC := Lib.hid hc
  have HQ := Lib.hid hq
  have HL := Lib.hid hl
  have HB1 := Lib.hid ((Below.refl w.heap.size w).alloc (Nat.le_refl _) (.cells (ruleL r.mn r.mx r.wd r.mask r.want).toArray 77))
  generalize endsL r 0 b = L at *
  clear hs hc hq hr
  unfold Rl.val at HN ⊢
  unfold ruleV at HN ⊢
  unfold ruleL at HN HB1 ⊢
  go_enter Tryd.func31, Tryd.ntmps31
  go_upto_region 2 with ((with_reducible refine (HN.out _ HB1.out).mono ?_); rintro e w4 ⟨v, rfl, ⟨qe, ce, rfl, hse⟩, hB⟩; have HB := Lib.hid hB; have HSE := Lib.hid hse; clear hB hse)
  have HB2 := Lib.hid (HB1.out.trans (HB.out.mono HB1.out.size))
  clear HB HB1 HN
  by_cases h0 : L.length = 0
  · have HE := Lib.hid (HEM.out h0)
    go_wp2_with fail
    go_ret
    refine ⟨_, rfl, ?_, HB2.out⟩
    rw [HE.out]
    exact Ps.nil _
  · have k0 : ¬ ((L.length : Int) = 0) := by omega
    have HS4 := Lib.hid (HS.out.keep HB2.out)
    have HB0 := Lib.hid HNE
    have HLE : Hid (0 + b.length ≤ 140737488355328) := Lib.hid (by omega)
    go_upto_region 5 with (refine wpList_append_sees rfl (.const (.slice none 0 0)) (.tmp 17) rfl w4.heap.size (.slice none 0 0) 0 [] rfl (World.ownsRow_nil _ _ _ _) q b c w.heap.size rfl HQ.out HS4.out HLE.out (Nat.le_refl _) ?_; intro v5 w5 h1 h2; have HOWN := Lib.hid h1; have HB5 := Lib.hid h2; clear h1 h2)
    have hown := HOWN.out
    rw [Nat.zero_add, List.nil_append] at hown
    obtain ⟨q5, c5, rfl, hc5, hq5, hs5⟩ := Bs.own hown
    have HS5 := Lib.hid hs5
    have HC5 := Lib.hid hc5
    have HSE5 := Lib.hid ((HSE.out.keep HB5.out).more HB5.out.size)
    have HB6 := Lib.hid (HB2.out.trans (HB5.out.mono HB2.out.size))
    have HZ6 := Lib.hid (Nat.le_trans HB2.out.size HB5.out.size)
    clear HB0 HOWN hown hc5 hq5 hs5 HSE HB5 HB2 HS4 HS HC HQ HLE HEM
    have hmk := made_runS L.length (by have := HLL.out; omega) w5
    have HA := Lib.hid ((Below.refl w5.heap.size w5).alloc (Nat.le_refl _) (.cells (madeCells #[Value.slice none 0 0] L.length) 26))
    have HROW : Hid ((w5.alloc (.cells (madeCells #[Value.slice none 0 0] L.length) 26)).ownsRow w5.heap.size 26 1 (.slice (some ⟨w5.heap.size, 0, none⟩) 0 L.length) 0 []) := Lib.hid (World.ownsRow_made w5 _ L.length (Nat.le_refl _) (by have := HLL.out; unfold maxLen; omega) (by rw [Nat.mul_one]; exact size_madeCells _ _))
    go_wp2_with fail
    clear hmk
    generalize w5.alloc (.cells (madeCells #[Value.slice none 0 0] L.length) 26) = w6 at *
    go_loopw [7, 8, 24] (fun v va vi wr => ∃ j : Nat, j ≤ L.length ∧ vi = .int .i64 j ∧ va = .int .i64 (before L j : Nat) ∧ wr.ownsRow w5.heap.size 26 1 v ((List.range j).map (pv q5 L)).length ((List.range j).map (pv q5 L)) ∧ Below w5.heap.size w5 wr) (fun _ _ vi _ => L.length - (intOf vi).toNat)
    case atStart => exact ⟨0, by omega, rfl, rfl, HROW.out, HA.out⟩
    case round =>
      clear HROW HA
      rename_i wr
      obtain ⟨j, hj, rfl, rfl, hrow, hB⟩ := hrel
      have HROW := Lib.hid hrow
      have HB := Lib.hid hB
      by_cases hlt : j < L.length
      · obtain ⟨ad, rfl, _, hcell⟩ := (HSE5.out.keep hB).get (by rw [List.length_map]; omega)
        have cx := hcell j (i64n L[j]) (by rw [List.getElem?_map, List.getElem?_eq_getElem hlt]; rfl)
        unfold i64n at cx
        obtain ⟨k1, k2⟩ := HLT.out j hlt
        have hbs := before_succ L j hlt
        rw [← getD_at L j hlt] at cx hbs
        have hcm := cut_mid3 q5 b.length c5 (before L j) (L.getD j 0) (by omega) (by have := HC5.out; omega)
        have HPV : Hid (pv q5 L j = .slice (cutQ q5 (L.getD j 0) (before L j)) (L.getD j 0 - before L j) (L.getD j 0 - before L j)) := Lib.hid rfl
        have HPO := Lib.hid (pv_one q5 L j)
        rw [HPV.out] at HPO
        have HBS := Lib.hid hbs
        have HXL : Hid (((List.range j).map (pv q5 L)).length ≤ 1000000) := Lib.hid (by rw [List.length_map, List.length_range]; have := HLL.out; omega)
        clear hcell hrow hB hbs k1 k2
        generalize cutQ q5 (L.getD j 0) (before L j) = qp at *
        generalize L.getD j 0 - before L j = np at *
        generalize L.getD j 0 = e at *
        generalize before L j = p0 at *
        have HBASE := Lib.hid HB.out.size
        have hll : j < 1000000 := by have := HLL.out; omega
        go_wp2_with (refine wp_add1 Tryd.underlying58 sl_info rfl (by decide) rfl (.tmp 28) (.tmp 34) rfl (base := w5.heap.size) (HROW.out.alloc (.cells #[.slice qp np np] 26)) (by have := HBASE.out; simp; omega) rfl wr.heap.size (.slice qp np np) rfl (by simp) HPO.out HXL.out ?_; intro v7 w7 h1 h2; have HROW2 := Lib.hid h1; have HB7 := Lib.hid h2; clear h1 h2 HROW)
        go_roundw
        case rel =>
          have hrow := HROW2.out
          rw [← HPV.out, show (List.range j).map (pv q5 L) ++ [pv q5 L j] = (List.range (j + 1)).map (pv q5 L) by rw [List.range_succ, List.map_append]; rfl] at hrow
          refine ⟨j + 1, by omega, by go_num, ?_, hrow, (HB.out.alloc HBASE.out _).trans HB7.out⟩
          rw [HBS.out]
        case measure => simp [intOf]; omega
      · have hjl : j = L.length := by omega
        subst hjl
        have k3 : ¬ ((L.length : Int) < (L.length : Int)) := by omega
        clear hrow hB hlt
        go_wp2_with fail
        go_ret
        exact ⟨_, rfl, Ps.own HROW.out (HS5.out.keep HB.out) HB.out.size HLT.out, HB6.out.trans (HB.out.mono HZ6.out)⟩
end Go.Proofs.YthpledfjopbchaaDoor
