/- Contracts: package set's Add, Tell. Conditions: at most 10^6 sums; the two listed variables as laid. -/
import Derived.Test.YtihkbblapfjobaaDoorGh
import Derived.Test.YtihkbblapfjobaaDoorOf
namespace Go.Proofs.YtihkbblapfjobaaDoor
open Go.RowKit
def zr32 : List Value := List.replicate 32 (.int .u8 0)
set_option maxHeartbeats 4000000 in
set_option maxRecDepth 100000 in
theorem u_add {w : World} {q : Option Addr} {n c : Nat} {L : List Su} (x : Su) (h : U w q n c L) (hn : n ≤ 1000000) : Ans Tryd.prog 33 #[.slice q n c, .agg (encU x).toArray] w (eitU L [x]) := by
  have HU := Lib.hid h
  have HW0 := Lib.hid ((Below.refl w.heap.size w).alloc (Nat.le_refl _) (.cells (encU x).toArray 24))
  have HX0 : Hid (Has (w.alloc (.cells (encU x).toArray 24)) w.heap.size 24 (encU x)) := Lib.hid (Has.made' w _ _ _ rfl)
  clear h
  unfold Ans
  go_enter Tryd.func33, Tryd.ntmps33
  go_upto_region 1 with fail
  generalize w.alloc (.cells (encU x).toArray 24) = w0 at *
  have HXX : Hid (∀ j u, (encU x)[j]? = some u → w0.cell? ((⟨w.heap.size, 0, none⟩ : Addr).add j) = some u) := Lib.hid (fun j u hu => by rw [add_lit', Nat.zero_add]; exact HX0.out.cellv hu)
  have HW1 := Lib.hid ((Below.refl w0.heap.size w0).alloc (Nat.le_refl _) (.cells (encU x).toArray 24))
  have HE := Lib.hid (u_either ((HU.out.keep HW0.out).keep HW1.out) (⟨rfl, Nat.le_refl 1, fun h => (by cases h), Ss.one (Has.made' w0 24 _ (encU x) rfl) (by simp)⟩ : U (w0.alloc (.cells (encU x).toArray 24)) (some ⟨w0.heap.size, 0, none⟩) 1 1 [x]) hn (by decide))
  go_wp2_with (first
    | (refine wpList_load_su rfl 24 (.tmp 3) rfl _ rfl elSum.2.1 szSum x HXX.out ?_)
    | (refine wpList_one_su rfl 49 24 elSet (.tmp 6) rfl x rfl ?_)
    | ((with_reducible refine Calls.mono HE.out ?_); rintro e w1 ⟨⟨q1, n1, c1, rfl, h1⟩, h2⟩; have HU1 := Lib.hid h1; have HB1 := Lib.hid (HW0.out.trans ((HW1.out.trans (h2.mono HW1.out.size)).mono HW0.out.size)); clear h1 h2))
  go_ret
  exact ⟨⟨q1, n1, c1, rfl, HU1.out⟩, HB1.out⟩
/-- The bytes of all. -/
def bytesU (L : List Su) : List (BitVec 8) := (L.map (·.1)).flatten
theorem bytesU_len : ∀ L : List Su, (bytesU L).length = L.length * 32
  | [] => rfl
  | x :: L => by
    show (x.1 ++ bytesU L).length = _
    rw [List.length_append, x.2, bytesU_len L, List.length_cons]; omega
/-- What Tell answers. -/
def tellU (L : List Su) : Su := ⟨sha (bytesU (srt L)), sha_length _⟩
theorem u_order {w : World} {q : Option Addr} {n c : Nat} {L : List Su} (h : U w q n c L) (hn : n ≤ 1000000) : Ans Tryd.prog 62 #[.slice q n c] w (srt L) := by
  obtain ⟨rfl, h2, h3, h4⟩ := h
  refine Calls.mono (inOrder_any L q c hn h2 h3 w h4) ?_
  rintro e w' ⟨⟨v, rfl, h1⟩, h2⟩
  obtain ⟨q, n, c, rfl, h3⟩ := U.of h1
  exact ⟨⟨q, n, c, rfl, h3⟩, h2⟩
theorem slT_info : (Tryd.prog.info? 26).map (fun i => (i.zero, i.size, i.bytes)) = some (some (.slice none 0 0), 1, 24) := by kernel_rfl
/-- The parts so far. -/
def prow (a : Addr) (i n : Nat) : List Value := (List.range n).map fun j => if j < i then .slice (some (a.add (j * 32))) 32 32 else .slice none 0 0
theorem prow_len (a : Addr) (i n : Nat) : (prow a i n).length = n := by unfold prow; simp
theorem prow_zero (a : Addr) (n : Nat) : prow a 0 n = List.replicate n (.slice none 0 0) := by
  unfold prow
  refine List.ext_getElem (by simp) fun i h1 h2 => by simp
theorem prow_set (a : Addr) (i n : Nat) : (prow a i n).set i (.slice (some (a.add (i * 32))) 32 32) = prow a (i + 1) n := by
  unfold prow
  refine List.ext_getElem (by simp) fun j h1 h2 => ?_
  simp only [List.getElem_set, List.getElem_map, List.getElem_range]
  by_cases h : i = j
  · subst h; simp
  · rw [if_neg h]
    by_cases hj : j < i
    · rw [if_pos hj, if_pos (by omega)]
    · rw [if_neg hj, if_neg (by omega)]
theorem prow_get (a : Addr) (n i : Nat) (h : i < n) : (prow a n n)[i]? = some (.slice (some (a.add (i * 32))) 32 32) := by
  unfold prow; simp [h]
theorem parts_of {w : World} {g b : Nat} {q : Option Addr} {L : List Su} {a : Addr} (hP : Has w g 26 (prow a L.length L.length)) (hs : Sees w b q (rowU L)) (hq : q = some a ∨ L = []) (hg : g < w.heap.size) (hb : b ≤ w.heap.size) : Parts w w.heap.size (some ⟨g, 0, none⟩) (L.map (·.1)) := fun i hi => by
  have hi' : i < L.length := by simpa using hi
  have e : (L.map (·.1)).getD i [] = L[i].1 := by rw [List.getD_eq_getElem?_getD, List.getElem?_map, List.getElem?_eq_getElem hi']; rfl
  rcases hq with rfl | rfl
  · obtain ⟨a', e', hab, hc⟩ := Ss.el hs hi'
    cases e'
    refine ⟨⟨g, 0, none⟩, some (a.add (i * 32)), 32, rfl, hg, ?_, by rw [e, L[i].2]; exact Nat.le_refl _, ?_⟩
    · rw [add_lit', Nat.zero_add, e, L[i].2]
      exact hP.cellv (prow_get a L.length i hi')
    · rw [e]
      intro _
      exact ⟨_, rfl, by rw [add_block]; omega, fun j u hu => hc w (Below.refl _ _) j u hu⟩
  · simp at hi'
set_option maxHeartbeats 8000000 in
set_option maxRecDepth 100000 in
theorem u_tell {w : World} {q : Option Addr} {n c : Nat} {L : List Su} (hL : Laid w) (h : U w q n c L) (hn : n ≤ 100000) : Calls Tryd.prog 41 #[.slice q n c] w fun e w' => e = .returned (.agg (encU (tellU L)).toArray) ∧ Below w.heap.size w w' := by
  have HL := Lib.hid hL
  have hsz := hL.size
  have HSZ := Lib.hid hsz
  have HU0 := Lib.hid h
  have hln := len_srt_le L
  rw [h.1] at hln
  have HT : Hid ((tellU L).1 = sha (bytesU (srt L))) := Lib.hid rfl
  generalize tellU L = tl at *
  have HORD : Hid (∀ w0, Below w.heap.size w w0 → Ans Tryd.prog 62 #[.slice q n c] w0 (srt L)) := Lib.hid (fun w0 hb => u_order (HU0.out.keep hb) (by omega))
  generalize srt L = M at *
  clear hL h hsz HU0
  go_enter Tryd.func41, Tryd.ntmps41
  go_upto_region 1 with fail
  generalize hw0 : w.alloc _ = w0
  have HW0 : Hid (Below w.heap.size w w0) := Lib.hid (by subst hw0; exact (Below.refl _ _).alloc (Nat.le_refl _) _)
  have HX0 : Hid (Has w0 w.heap.size 24 zr32) := Lib.hid (by subst hw0; exact Has.made' _ _ _ _ rfl)
  clear hw0
  have HO := Lib.hid (HORD.out w0 HW0.out)
  clear HORD
  go_upto_region 2 with ((with_reducible refine Calls.mono HO.out ?_); rintro e w1 ⟨⟨q1, n1, c1, rfl, h1⟩, h2⟩; have HU := Lib.hid h1; have HX1 := Lib.hid (HX0.out.keep h2 HX0.out.lt); have HB := Lib.hid (HW0.out.trans (h2.mono HW0.out.size)); have HLT := Lib.hid (Nat.lt_of_lt_of_le HX0.out.lt h2.size); clear h1 h2)
  have hn1 : n1 ≤ 100000 := by have := HU.out.1; omega
  clear HX0 HO
  obtain ⟨i0, hi, hz0, hz1, hz2⟩ := info_parts slT_info
  have hmk := run_make (P := Tryd.prog) w1 68 26 i0 (.slice none 0 0) Tryd.underlying68 hi hz0 .i64 .i64 n1 n1 (by omega) (by omega) (by rw [hz2]; omega) (by omega)
  simp only [Int.toNat_natCast] at hmk
  rw [hz1, Nat.mul_one, show (Value.slice none 0 0).cells = #[Value.slice none 0 0] from rfl] at hmk
  obtain ⟨a, ha⟩ : ∃ a : Addr, q1 = some a ∨ M = [] := by
    rcases q1 with _ | a
    · refine ⟨⟨0, 0, none⟩, .inr ?_⟩
      have h := HU.out.2.2.2
      rcases M with _ | ⟨y, M⟩
      · rfl
      · obtain ⟨a, h1, _⟩ := h.get (by rw [rowU_len, List.length_cons]; omega)
        cases h1
    · exact ⟨a, .inl rfl⟩
  have HA := Lib.hid ha
  have HPR : Hid (Has (w1.alloc (.cells (madeCells #[Value.slice none 0 0] n1) 26)) w1.heap.size 26 (prow a 0 n1)) := Lib.hid (by
    have h := Has.made w1 26 (madeCells #[Value.slice none 0 0] n1)
    rw [toList_madeCells_one, ← prow_zero a] at h
    exact h)
  have HB1 := Lib.hid ((Below.refl w1.heap.size w1).alloc (Nat.le_refl _) (.cells (madeCells #[Value.slice none 0 0] n1) 26))
  clear hi hz0 hz1 hz2 ha
  go_wp2_with fail
  clear hmk
  generalize w1.alloc (.cells (madeCells #[Value.slice none 0 0] n1) 26) = w2 at *
  go_loopw [12] (fun v wr => ∃ i : Nat, i ≤ n1 ∧ v = .int .i64 i ∧ Has wr w1.heap.size 26 (prow a i n1) ∧ Below w1.heap.size w1 wr) (fun v _ => n1 - (intOf v).toNat)
  case atStart => exact ⟨0, by omega, rfl, HPR.out, HB1.out⟩
  case round =>
    clear HPR HB1
    rename_i wr
    obtain ⟨i, hi, rfl, hP, hB⟩ := hrel
    have HP := Lib.hid hP
    have HB2 := Lib.hid hB
    clear hP hB
    by_cases hlt : i < n1
    · have hq : q1 = some a := by
        rcases HA.out with h | h
        · exact h
        · have := HU.out.1; rw [h] at this; simp at this; omega
      subst hq
      have k1 : (i : Int) < (n1 : Int) := by omega
      have cx := HP.out.cellv (i := i) (show (prow a i n1)[i]? = some (.slice none 0 0) by unfold prow; simp [hlt])
      have hfz := Has.free HP.out i
      have HNEW := HP.out.put i (.slice (some (a.add (i * 32))) 32 32)
      rw [prow_set] at HNEW
      have HNEW := Lib.hid HNEW
      have HBN := Lib.hid (HB2.out.setCell (Nat.le_refl _) (p := ⟨w1.heap.size, i, none⟩) (.slice (some (a.add (i * 32))) 32 32))
      go_wp2_with fail
      go_roundw
      case rel => exact ⟨i + 1, by omega, by go_num, HNEW.out, HBN.out⟩
      case measure => simp [intOf]; omega
    · have hil : i = n1 := by omega
      subst hil
      have k1 : ¬ (i : Int) < (i : Int) := by omega
      have hUl := HU.out.1
      have HPT := Lib.hid (parts_of (L := M) (w := wr) (g := w1.heap.size) (b := w1.heap.size) (q := q1) (a := a) (by rw [hUl]; exact HP.out) (HU.out.2.2.2.keep HB2.out) HA.out HP.out.lt HB2.out.size)
      have HB3 := Lib.hid (HB.out.trans (HB2.out.mono HB.out.size))
      have hof := of_any (M.map (·.1)) (some ⟨w1.heap.size, 0, none⟩) i wr HPT.out (by simp; omega) (by have := bytesU_len M; unfold bytesU at this; rw [this]; omega) (HL.out.keep HB3.out HSZ.out)
      rw [List.length_map, hUl, show (M.map (·.1)).flatten = bytesU M from rfl, ← HT.out] at hof
      have HOF := Lib.hid hof
      have HX2 := Lib.hid (HX1.out.keep HB2.out HLT.out)
      clear hof hUl
      go_wp2_with (first
        | ((with_reducible refine HOF.out.mono ?_); rintro e w3 ⟨rfl, h2⟩; have HX3 := Lib.hid (HX2.out.keep h2 HX2.out.lt); have HB4 := Lib.hid (HB3.out.trans (h2.mono HB3.out.size)); clear h2)
        | (refine wpList_store_row rfl 24 _ _ rfl w.heap.size (encU tl).toArray rfl rfl 24 _ HX3.out (by rw [encU_size]; exact szSum) (by rw [encU_size]; rfl) (encU_all tl) ?_))
      refine bodyPost_ret (v := .agg (encU tl).toArray) ?_ rfl ⟨rfl, below_row HB4.out (Nat.le_refl _) _⟩
      refine results_cell_row rfl _ _ w.heap.size 24 _ (0, 0) _ rfl ?_ Tryd.underlying24 rfl (by rw [encU_size]; exact szSum)
      exact HX3.out.rowl _
end Go.Proofs.YtihkbblapfjobaaDoor
