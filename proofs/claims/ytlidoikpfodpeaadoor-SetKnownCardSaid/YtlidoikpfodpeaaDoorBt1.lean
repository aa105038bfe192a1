/- Contracts: package set's Add, Tell. Conditions: at most 10^6 sums; the two listed variables as laid. -/
import Derived.Test.YtlidoikpfodpeaaDoorBase1
import Derived.Test.YtlidoikpfodpeaaDoorBsum1
namespace Go.Proofs.YtlidoikpfodpeaaDoor
open Go.RowKit
def zr32 : List Value := List.replicate 32 (.int .u8 0)
set_option maxHeartbeats 4000000 in
set_option maxRecDepth 100000 in
theorem u_add {w : World} {q : Option Addr} {n c : Nat} {L : List Su} (x : Su) (h : U w q n c L) (hn : n ≤ 1000000) : Ans Tryd.prog 8 #[.slice q n c, .agg (encU x).toArray] w (eitU L [x]) := by
  have HU := Lib.hid h
  have HW0 := Lib.hid ((Below.refl w.heap.size w).alloc (Nat.le_refl _) (.cells (encU x).toArray 24))
  have HX0 : Hid (Has (w.alloc (.cells (encU x).toArray 24)) w.heap.size 24 (encU x)) := Lib.hid (Has.made' w _ _ _ rfl)
  clear h
  unfold Ans
  go_enter Tryd.func8, Tryd.ntmps8
  go_upto_region 1 with fail
  generalize w.alloc (.cells (encU x).toArray 24) = w0 at *
  have HXX : Hid (∀ j u, (encU x)[j]? = some u → w0.cell? ((⟨w.heap.size, 0, none⟩ : Addr).add j) = some u) := Lib.hid (fun j u hu => by rw [add_lit', Nat.zero_add]; exact HX0.out.cellv hu)
  have HW1 := Lib.hid ((Below.refl w0.heap.size w0).alloc (Nat.le_refl _) (.cells (encU x).toArray 24))
  have HE := Lib.hid (u_either ((HU.out.keep HW0.out).keep HW1.out) (⟨rfl, Nat.le_refl 1, fun h => (by cases h), Ss.one (Has.made' w0 24 _ (encU x) rfl) (by simp)⟩ : U (w0.alloc (.cells (encU x).toArray 24)) (some ⟨w0.heap.size, 0, none⟩) 1 1 [x]) hn (by decide))
  go_wp2_with (first
    | (refine wpList_load_su rfl 24 (.tmp 3) rfl _ rfl elSum.2.1 szSum x HXX.out ?_)
    | (refine wpList_one_su rfl 26 24 elSet (.tmp 6) rfl x rfl ?_)
    | ((with_reducible refine Calls.mono HE.out ?_); rintro e w1 ⟨⟨q1, n1, c1, rfl, h1⟩, h2⟩; have HU1 := Lib.hid h1; have HB1 := Lib.hid (HW0.out.trans ((HW1.out.trans (h2.mono HW1.out.size)).mono HW0.out.size)); clear h1 h2))
  go_ret
  exact ⟨⟨q1, n1, c1, rfl, HU1.out⟩, HB1.out⟩
/-- The bytes of all. -/
def bytesU (L : List Su) : List (BitVec 8) := (L.map (·.1)).flatten
theorem bytesU_len : ∀ L : List Su, (bytesU L).length = L.length * 32
  | [] => rfl
  | x :: L => by
    show (x.1 ++ bytesU L).length = _
    rw [List.length_append, x.2, bytesU_len L, List.length_cons]; omega
/-- What Tell answers. -/
def tellU (L : List Su) : Su := ⟨sha (bytesU (srt L)), sha_length _⟩
theorem u_order {w : World} {q : Option Addr} {n c : Nat} {L : List Su} (h : U w q n c L) (hn : n ≤ 1000000) : Ans Tryd.prog 36 #[.slice q n c] w (srt L) := by
  obtain ⟨rfl, h2, h3, h4⟩ := h
  refine Calls.mono (inOrder_any L q c hn h2 h3 w h4) ?_
  rintro e w' ⟨⟨v, rfl, h1⟩, h2⟩
  obtain ⟨q, n, c, rfl, h3⟩ := U.of h1
  exact ⟨⟨q, n, c, rfl, h3⟩, h2⟩
theorem slT_info : (Tryd.prog.info? 35).map (fun i => (i.zero, i.size, i.bytes)) = some (some (.slice none 0 0), 1, 24) := by kernel_rfl
/-- The parts so far. -/
def prow (a : Addr) (i n : Nat) : List Value := (List.range n).map fun j => if j < i then .slice (some (a.add (j * 32))) 32 32 else .slice none 0 0
theorem prow_len (a : Addr) (i n : Nat) : (prow a i n).length = n := by unfold prow; simp
theorem prow_zero (a : Addr) (n : Nat) : prow a 0 n = List.replicate n (.slice none 0 0) := by
  unfold prow
  refine List.ext_getElem (by simp) fun i h1 h2 => by simp
theorem prow_set (a : Addr) (i n : Nat) : (prow a i n).set i (.slice (some (a.add (i * 32))) 32 32) = prow a (i + 1) n := by
  unfold prow
  refine List.ext_getElem (by simp) fun j h1 h2 => ?_
  simp only [List.getElem_set, List.getElem_map, List.getElem_range]
  by_cases h : i = j
  · subst h; simp
  · rw [if_neg h]
    by_cases hj : j < i
    · rw [if_pos hj, if_pos (by omega)]
    · rw [if_neg hj, if_neg (by omega)]
theorem prow_get (a : Addr) (n i : Nat) (h : i < n) : (prow a n n)[i]? = some (.slice (some (a.add (i * 32))) 32 32) := by
  unfold prow; simp [h]
theorem parts_of {w : World} {g b : Nat} {q : Option Addr} {L : List Su} {a : Addr} (hP : Has w g 35 (prow a L.length L.length)) (hs : Sees w b q (rowU L)) (hq : q = some a ∨ L = []) (hg : g < w.heap.size) (hb : b ≤ w.heap.size) : Parts w w.heap.size (some ⟨g, 0, none⟩) (L.map (·.1)) := fun i hi => by
  have hi' : i < L.length := by simpa using hi
  have e : (L.map (·.1)).getD i [] = L[i].1 := by rw [List.getD_eq_getElem?_getD, List.getElem?_map, List.getElem?_eq_getElem hi']; rfl
  rcases hq with rfl | rfl
  · obtain ⟨a', e', hab, hc⟩ := Ss.el hs hi'
    cases e'
    refine ⟨⟨g, 0, none⟩, some (a.add (i * 32)), 32, rfl, hg, ?_, by rw [e, L[i].2]; exact Nat.le_refl _, ?_⟩
    · rw [add_lit', Nat.zero_add, e, L[i].2]
      exact hP.cellv (prow_get a L.length i hi')
    · rw [e]
      intro _
      exact ⟨_, rfl, by rw [add_block]; omega, fun j u hu => hc w (Below.refl _ _) j u hu⟩
  · simp at hi'
set_option maxHeartbeats 8000000 in
set_option maxRecDepth 100000 in
theorem u_tell {w : World} {q : Option Addr} {n c : Nat} {L : List Su} (hL : Laid w) (h : U w q n c L) (hn : n ≤ 100000) : Calls Tryd.prog 13 #[.slice q n c] w fun e w' => e = .returned (.agg (encU (tellU L)).toArray) ∧ Below w.heap.size w w' := by
  have HL := Lib.hid hL
  have hsz := hL.size
  have HSZ := Lib.hid hsz
  have HU0 := Lib.hid h
  have hln := len_srt_le L
  rw [h.1] at hln
  have HT : Hid ((tellU L).1 = sha (bytesU (srt L))) := Lib.hid rfl
  generalize tellU L = tl at *
  have HORD : Hid (∀ w0, Below w.heap.size w w0 → Ans Tryd.prog 36 #[.slice q n c] w0 (srt L)) := Lib.hid (fun w0 hb => u_order (HU0.out.keep hb) (by omega))
  generalize srt L = M at *
  clear hL h hsz HU0
  go_enter Tryd.func13, Tryd.ntmps13
  go_upto_region 1 with fail
  generalize hw0 : w.alloc _ = w0
  have HW0 : Hid (Below w.heap.size w w0) := Lib.hid (by subst hw0; exact (Below.refl _ _).alloc (Nat.le_refl _) _)
  have HX0 : Hid (Has w0 w.heap.size 24 zr32) := Lib.hid (by subst hw0; exact Has.made' _ _ _ _ rfl)
  clear hw0
  have HO := Lib.hid (HORD.out w0 HW0.out)
  clear HORD
  go_upto_region 2 with ((with_reducible refine Calls.mono HO.out ?_); rintro e w1 ⟨⟨q1, n1, c1, rfl, h1⟩, h2⟩; have HU := Lib.hid h1; have HX1 := Lib.hid (HX0.out.keep h2 HX0.out.lt); have HB := Lib.hid (HW0.out.trans (h2.mono HW0.out.size)); have HLT := Lib.hid (Nat.lt_of_lt_of_le HX0.out.lt h2.size); clear h1 h2)
  have hn1 : n1 ≤ 100000 := by have := HU.out.1; omega
  clear HX0 HO
  obtain ⟨i0, hi, hz0, hz1, hz2⟩ := info_parts slT_info
  have hmk := run_make (P := Tryd.prog) w1 59 35 i0 (.slice none 0 0) Tryd.underlying59 hi hz0 .i64 .i64 n1 n1 (by omega) (by omega) (by rw [hz2]; omega) (by omega)
  simp only [Int.toNat_natCast] at hmk
  rw [hz1, Nat.mul_one, show (Value.slice none 0 0).cells = #[Value.slice none 0 0] from rfl] at hmk
  obtain ⟨a, ha⟩ : ∃ a : Addr, q1 = some a ∨ M = [] := by
    rcases q1 with _ | a
    · refine ⟨⟨0, 0, none⟩, .inr ?_⟩
      have h := HU.out.2.2.2
      rcases M with _ | ⟨y, M⟩
      · rfl
      · obtain ⟨a, h1, _⟩ := h.get (by rw [rowU_len, List.length_cons]; omega)
        cases h1
    · exact ⟨a, .inl rfl⟩
  have HA := Lib.hid ha
  have HPR : Hid (Has (w1.alloc (.cells (madeCells #[Value.slice none 0 0] n1) 35)) w1.heap.size 35 (prow a 0 n1)) := Lib.hid (by
    have h := Has.made w1 35 (madeCells #[Value.slice none 0 0] n1)
    rw [toList_madeCells_one, ← prow_zero a] at h
    exact h)
  have HB1 := Lib.hid ((Below.refl w1.heap.size w1).alloc (Nat.le_refl _) (.cells (madeCells #[Value.slice none 0 0] n1) 35))
  clear hi hz0 hz1 hz2 ha
  go_wp2_with fail
  clear hmk
  generalize w1.alloc (.cells (madeCells #[Value.slice none 0 0] n1) 35) = w2 at *
  go_loopw [12] (fun v wr => ∃ i : Nat, i ≤ n1 ∧ v = .int .i64 i ∧ Has wr w1.heap.size 35 (prow a i n1) ∧ Below w1.heap.size w1 wr) (fun v _ => n1 - (intOf v).toNat)
  case atStart => exact ⟨0, by omega, rfl, HPR.out, HB1.out⟩
  case round =>
    clear HPR HB1
    rename_i wr
    obtain ⟨i, hi, rfl, hP, hB⟩ := hrel
    have HP := Lib.hid hP
    have HB2 := Lib.hid hB
    clear hP hB
    by_cases hlt : i < n1
    · have hq : q1 = some a := by
        rcases HA.out with h | h
        · exact h
        · have := HU.out.1; rw [h] at this; simp at this; omega
      subst hq
      have k1 : (i : Int) < (n1 : Int) := by omega
      have cx := HP.out.cellv (i := i) (show (prow a i n1)[i]? = some (.slice none 0 0) by unfold prow; simp [hlt])
      have hfz := Has.free HP.out i
      have HNEW := HP.out.put i (.slice (some (a.add (i * 32))) 32 32)
      rw [prow_set] at HNEW
      have HNEW := Lib.hid HNEW
      have HBN := Lib.hid (HB2.out.setCell (Nat.le_refl _) (p := ⟨w1.heap.size, i, none⟩) (.slice (some (a.add (i * 32))) 32 32))
      go_wp2_with fail
      go_roundw
      case rel => exact ⟨i + 1, by omega, by go_num, HNEW.out, HBN.out⟩
      case measure => simp [intOf]; omega
    · have hil : i = n1 := by omega
      subst hil
      have k1 : ¬ (i : Int) < (i : Int) := by omega
      have hUl := HU.out.1
      have HPT := Lib.hid (parts_of (L := M) (w := wr) (g := w1.heap.size) (b := w1.heap.size) (q := q1) (a := a) (by rw [hUl]; exact HP.out) (HU.out.2.2.2.keep HB2.out) HA.out HP.out.lt HB2.out.size)
      have HB3 := Lib.hid (HB.out.trans (HB2.out.mono HB.out.size))
      have hof := of_any (M.map (·.1)) (some ⟨w1.heap.size, 0, none⟩) i wr HPT.out (by simp; omega) (by have := bytesU_len M; unfold bytesU at this; rw [this]; omega) (HL.out.keep HB3.out HSZ.out)
      rw [List.length_map, hUl, show (M.map (·.1)).flatten = bytesU M from rfl, ← HT.out] at hof
      have HOF := Lib.hid hof
      have HX2 := Lib.hid (HX1.out.keep HB2.out HLT.out)
      clear hof hUl
      go_wp2_with (first
        | ((with_reducible refine HOF.out.mono ?_); rintro e w3 ⟨rfl, h2⟩; have HX3 := Lib.hid (HX2.out.keep h2 HX2.out.lt); have HB4 := Lib.hid (HB3.out.trans (h2.mono HB3.out.size)); clear h2)
        | (refine wpList_store_row rfl 24 _ _ rfl w.heap.size (encU tl).toArray rfl rfl 24 _ HX3.out (by rw [encU_size]; exact szSum) (by rw [encU_size]; rfl) (encU_all tl) ?_))
      refine bodyPost_ret (v := .agg (encU tl).toArray) ?_ rfl ⟨rfl, below_row HB4.out (Nat.le_refl _) _⟩
      refine results_cell_row rfl _ _ w.heap.size 24 _ (0, 0) _ rfl ?_ Tryd.underlying24 rfl (by rw [encU_size]; exact szSum)
      exact HX3.out.rowl _
end Go.Proofs.YtlidoikpfodpeaaDoor
/- A region in its order, one operation at a time. No condition. -/
namespace Go.Proofs.YtlidoikpfodpeaaDoor
open Go.RowKit
section
variable {P : Program} {ops : Array Oper} {rest : List Oper} {o : Oper} {a : Act} {w : World} {Q : Exit → Act → World → Prop}
theorem lp_pure {v : Value} (hw : Region.wanted o (yielded ops a.tmps) = true) (hy : (execOp a.eval o).run P w = .ok (.value v) w) (h : wpList P ops Q rest (a.put o.dst v) w) : wpList P ops Q (o :: rest) a w :=
  wpList_step fun K hK => by
    rw [if_pos hw]
    unfold Oper.wp
    rw [hy]
    exact hK _ _ h
theorem lp_skip (hw : Region.wanted o (yielded ops a.tmps) = false) (h : wpList P ops Q rest (a.put o.dst undef) w) : wpList P ops Q (o :: rest) a w :=
  wpList_step fun K hK => by rw [if_neg (by rw [hw]; simp)]; exact hK _ _ h
theorem lp_step (hw : Region.wanted o (yielded ops a.tmps) = true) (h : ∀ K : Act → World → Prop, (∀ a w, wpList P ops Q rest a w → K a w) → o.wp P a w K Q) : wpList P ops Q (o :: rest) a w :=
  wpList_step fun K hK => by rw [if_pos hw]; exact h K hK
end
theorem build_su {o : Oper} {ev : Operand → Value} {w : World} (E : TypeId) (parts : Array (Nat × Operand)) (ho : o.op = .build E parts) (s : Su) (l : List (Nat × Value)) (hl : (parts.map fun (i, x) => (i, ev x)).toList = l) (hb : Tryd.prog.built E l = some (encU s).toArray) :
    (execOp ev o).run Tryd.prog w = .ok (.value (.agg (encU s).toArray)) w := by
  unfold execOp
  simp only [ho, Sem.run_bind, run_build w E _ (encU s).toArray (by rw [hl]; exact hb), Result.andThen_ok]
  rfl
theorem built_two (x y : Int) (a b : BitVec 8) (h : x = B a) (h' : y = B b) : Tryd.prog.built 24 [(0, .int .u8 x), (1, .int .u8 y)] = some (encU (su2 a b)).toArray := by
  subst h; subst h'; kernel_rfl
end Go.Proofs.YtlidoikpfodpeaaDoor
/- Contract: the law's own awake: true. No condition. -/
namespace Go.Proofs.YtlidoikpfodpeaaDoor
open Go.RowKit
def s1 : Su := su1 1
def s2 : Su := su1 2
theorem b1 : Tryd.prog.built 24 [(0, .int .u8 1)] = some (encU s1).toArray := built_one 1 1 rfl
theorem b2 : Tryd.prog.built 24 [(0, .int .u8 2)] = some (encU s2).toArray := built_one 2 2 rfl
/-- The sum of a one, written out. -/
def l1 : Array Value := #[.int .u8 1, .int .u8 0, .int .u8 0, .int .u8 0, .int .u8 0, .int .u8 0, .int .u8 0, .int .u8 0, .int .u8 0, .int .u8 0, .int .u8 0, .int .u8 0, .int .u8 0, .int .u8 0, .int .u8 0, .int .u8 0, .int .u8 0, .int .u8 0, .int .u8 0, .int .u8 0, .int .u8 0, .int .u8 0, .int .u8 0, .int .u8 0, .int .u8 0, .int .u8 0, .int .u8 0, .int .u8 0, .int .u8 0, .int .u8 0, .int .u8 0, .int .u8 0]
theorem aw_srt : srt [s2, s1, s2] = [s1, s2] := by kernel_rfl
theorem aw_good : goodU [s1, s2] = true := by kernel_rfl
theorem aw_min : minU [s1, s2] [s2] = [s1] := by kernel_rfl
theorem aw_good1 : goodU [s1] = true := by kernel_rfl
theorem aw_srt2 : srt [s2] = [s2] := by kernel_rfl
theorem aw_srt1 : srt [s1] = [s1] := by kernel_rfl
theorem aw_same : (goodU [s1] && decide ([s1] = [s1])) = true := by rw [aw_good1, decide_eq_true rfl]; rfl
set_option maxHeartbeats 16000000 in
set_option maxRecDepth 100000 in
theorem awake10_any (w : World) : Calls Tryd.prog 6 #[] w fun e w' => e = .returned (.bool true) ∧ Below w.heap.size w w' := by
  go_enter Tryd.func6, Tryd.ntmps6
  go_upto_region 1 with fail
  obtain ⟨w0, hw0⟩ : ∃ x, x = w := ⟨_, rfl⟩
  have HB : Hid (Below w.heap.size w w0) := Lib.hid (by rw [hw0]; exact Below.refl _ _)
  rw [← hw0]
  clear hw0
  refine wp_region_lit ?_
  try simp only [Act.put, List.setIfInBounds_toArray, List.set_cons_zero, List.set_cons_succ]
  refine lp_pure (by kernel_rfl) (build_su 24 _ rfl s2 [(0, .int .u8 2)] (by kernel_rfl) b2) ?_
  try simp only [Act.put, List.setIfInBounds_toArray, List.set_cons_zero, List.set_cons_succ]
  refine lp_pure (by kernel_rfl) (build_su 24 _ rfl s1 [(0, .int .u8 1)] (by kernel_rfl) b1) ?_
  try simp only [Act.put, List.setIfInBounds_toArray, List.set_cons_zero, List.set_cons_succ]
  refine lp_pure (by kernel_rfl) (build_su 24 _ rfl s2 [(0, .int .u8 2)] (by kernel_rfl) b2) ?_
  try simp only [Act.put, List.setIfInBounds_toArray, List.set_cons_zero, List.set_cons_succ]
  refine lp_step (by kernel_rfl) (fun K hK => wp_lit_su 25 24 elSum 3 _ rfl [s2, s1, s2] rfl (by decide) (by decide) (by kernel_rfl) (hK _ _ ?_))
  try simp only [Act.put, List.setIfInBounds_toArray, List.set_cons_zero, List.set_cons_succ]
  have hb : Below w0.heap.size w0 (w0.alloc (.cells (rowU [s2, s1, s2]).toArray 24)) := (Below.refl _ _).alloc (Nat.le_refl _) _
  have hu : U (w0.alloc (.cells (rowU [s2, s1, s2]).toArray 24)) (some ⟨w0.heap.size, 0, none⟩) 3 3 [s2, s1, s2] := ⟨rfl, Nat.le_refl _, fun h => (by cases h), Sees.of_has (Has.made' w0 _ _ _ rfl) (by simp)⟩
  have UL := Lib.hid hu
  clear hu
  replace HB := Lib.hid (HB.out.trans (hb.mono HB.out.size))
  clear hb
  generalize hg : w0.heap.size = gy1 at UL ⊢
  generalize w0.alloc (.cells (rowU [s2, s1, s2]).toArray 24) = y1 at *
  clear hg
  refine lp_step (by kernel_rfl) (fun K hK => ?_)
  go_wp2_with fail
  refine Calls.mono (u_of UL.out (by decide)) ?_
  rintro e y2 ⟨⟨qUA, nUA, cUA, rfl, h1⟩, hb⟩
  replace UL := Lib.hid (UL.out.keep hb)
  replace HB := Lib.hid (HB.out.trans (hb.mono HB.out.size))
  clear hb
  have UA := Lib.hid (h1.eq aw_srt)
  clear h1
  refine hK _ _ ?_
  clear hK
  try simp only [Act.put, List.setIfInBounds_toArray, List.set_cons_zero, List.set_cons_succ]
  clear UL
  obtain rfl : nUA = 2 := UA.out.len.symm
  refine lp_pure (v := ?_) (by kernel_rfl) ?_ ?_
  rotate_left
  · go_simp; try with_reducible rfl
  try simp only [Act.put, List.setIfInBounds_toArray, List.set_cons_zero, List.set_cons_succ]
  refine wpList_nil ?_
  go_upto_region 2 with fail
  refine wp_region_lit ?_
  try simp only [Act.put, List.setIfInBounds_toArray, List.set_cons_zero, List.set_cons_succ]
  refine lp_pure (v := ?_) (by kernel_rfl) ?_ ?_
  rotate_left
  · go_simp; try with_reducible rfl
  try simp only [Act.put, List.setIfInBounds_toArray, List.set_cons_zero, List.set_cons_succ]
  refine lp_pure (v := ?_) (by kernel_rfl) ?_ ?_
  rotate_left
  · go_simp; try with_reducible rfl
  try simp only [Act.put, List.setIfInBounds_toArray, List.set_cons_zero, List.set_cons_succ]
  refine lp_pure (v := ?_) (by kernel_rfl) ?_ ?_
  rotate_left
  · go_simp; try with_reducible rfl
  try simp only [Act.put, List.setIfInBounds_toArray, List.set_cons_zero, List.set_cons_succ]
  refine lp_pure (v := ?_) (by kernel_rfl) ?_ ?_
  rotate_left
  · go_simp; try with_reducible rfl
  try simp only [Act.put, List.setIfInBounds_toArray, List.set_cons_zero, List.set_cons_succ]
  refine lp_pure (v := ?_) (by kernel_rfl) ?_ ?_
  rotate_left
  · go_simp; try with_reducible rfl
  try simp only [Act.put, List.setIfInBounds_toArray, List.set_cons_zero, List.set_cons_succ]
  obtain ⟨pA, rfl, _, hc⟩ := Ss.el UA.out.2.2.2 (i := 0) (by simp)
  have HC := Lib.hid (hc y2 (Below.refl _ _))
  clear hc
  refine lp_pure (v := ?_) (by kernel_rfl) ?_ ?_
  rotate_left
  · go_simp; try with_reducible rfl
  try simp only [Act.put, List.setIfInBounds_toArray, List.set_cons_zero, List.set_cons_succ]
  refine lp_pure (by kernel_rfl) (load_su 24 (.tmp 12) rfl _ rfl elSum.2.1 szSum s1 HC.out) ?_
  try simp only [Act.put, List.setIfInBounds_toArray, List.set_cons_zero, List.set_cons_succ]
  refine lp_pure (by kernel_rfl) (build_su 24 _ rfl s1 [(0, .int .u8 1)] (by kernel_rfl) b1) ?_
  try simp only [Act.put, List.setIfInBounds_toArray, List.set_cons_zero, List.set_cons_succ]
  refine lp_pure (v := .bool true) (by kernel_rfl) ((eql_su 24 (.tmp 13) (.tmp 14) _ rfl s1 s1 rfl rfl elSum.2.1 gdSum).trans (by rw [decide_eq_true rfl])) ?_
  try simp only [Act.put, List.setIfInBounds_toArray, List.set_cons_zero, List.set_cons_succ]
  clear HC
  refine lp_pure (v := ?_) (by kernel_rfl) ?_ ?_
  rotate_left
  · go_simp; try with_reducible rfl
  try simp only [Act.put, List.setIfInBounds_toArray, List.set_cons_zero, List.set_cons_succ]
  refine lp_pure (v := ?_) (by kernel_rfl) ?_ ?_
  rotate_left
  · go_simp; try with_reducible rfl
  try simp only [Act.put, List.setIfInBounds_toArray, List.set_cons_zero, List.set_cons_succ]
  refine lp_pure (v := ?_) (by kernel_rfl) ?_ ?_
  rotate_left
  · go_simp; try with_reducible rfl
  try simp only [Act.put, List.setIfInBounds_toArray, List.set_cons_zero, List.set_cons_succ]
  refine lp_step (by kernel_rfl) (fun K hK => ?_)
  go_wp2_with fail
  refine Calls.mono (u_good UA.out (by decide) true aw_good) ?_
  rintro e y3 ⟨rfl, hb⟩
  replace UA := Lib.hid (UA.out.keep hb)
  replace HB := Lib.hid (HB.out.trans (hb.mono HB.out.size))
  clear hb
  refine hK _ _ ?_
  clear hK
  try simp only [Act.put, List.setIfInBounds_toArray, List.set_cons_zero, List.set_cons_succ]
  refine lp_pure (v := ?_) (by kernel_rfl) ?_ ?_
  rotate_left
  · go_simp; try with_reducible rfl
  try simp only [Act.put, List.setIfInBounds_toArray, List.set_cons_zero, List.set_cons_succ]
  refine lp_pure (v := ?_) (by kernel_rfl) ?_ ?_
  rotate_left
  · go_simp; try with_reducible rfl
  try simp only [Act.put, List.setIfInBounds_toArray, List.set_cons_zero, List.set_cons_succ]
  refine lp_pure (v := ?_) (by kernel_rfl) ?_ ?_
  rotate_left
  · go_simp; try with_reducible rfl
  try simp only [Act.put, List.setIfInBounds_toArray, List.set_cons_zero, List.set_cons_succ]
  refine lp_pure (by kernel_rfl) (build_su 24 _ rfl s2 [(0, .int .u8 2)] (by kernel_rfl) b2) ?_
  try simp only [Act.put, List.setIfInBounds_toArray, List.set_cons_zero, List.set_cons_succ]
  refine lp_step (by kernel_rfl) (fun K hK => wp_one_su 25 24 elSum _ rfl s2 rfl (hK _ _ ?_))
  try simp only [Act.put, List.setIfInBounds_toArray, List.set_cons_zero, List.set_cons_succ]
  have hb : Below y3.heap.size y3 (y3.alloc (.cells (encU s2).toArray 24)) := (Below.refl _ _).alloc (Nat.le_refl _) _
  have hu : U (y3.alloc (.cells (encU s2).toArray 24)) (some ⟨y3.heap.size, 0, none⟩) 1 1 [s2] := ⟨rfl, Nat.le_refl _, fun h => (by cases h), Ss.one (Has.made' y3 _ _ _ rfl) (by simp)⟩
  have U2 := Lib.hid hu
  clear hu
  replace UA := Lib.hid (UA.out.keep hb)
  replace HB := Lib.hid (HB.out.trans (hb.mono HB.out.size))
  clear hb
  generalize hg : y3.heap.size = gy4 at U2 ⊢
  generalize y3.alloc (.cells (encU s2).toArray 24) = y4 at *
  clear hg
  refine lp_step (by kernel_rfl) (fun K hK => ?_)
  go_wp2_with fail
  refine Calls.mono (u_of U2.out (by decide)) ?_
  rintro e y5 ⟨⟨qU3, nU3, cU3, rfl, h1⟩, hb⟩
  replace UA := Lib.hid (UA.out.keep hb)
  replace U2 := Lib.hid (U2.out.keep hb)
  replace HB := Lib.hid (HB.out.trans (hb.mono HB.out.size))
  clear hb
  have U3 := Lib.hid (h1.eq aw_srt2)
  clear h1
  refine hK _ _ ?_
  clear hK
  try simp only [Act.put, List.setIfInBounds_toArray, List.set_cons_zero, List.set_cons_succ]
  clear U2
  obtain rfl : nU3 = 1 := U3.out.len.symm
  refine lp_step (by kernel_rfl) (fun K hK => ?_)
  go_wp2_with fail
  refine Calls.mono (u_minus UA.out U3.out (by decide) (by decide)) ?_
  rintro e y6 ⟨⟨qU4, nU4, cU4, rfl, h1⟩, hb⟩
  replace UA := Lib.hid (UA.out.keep hb)
  replace U3 := Lib.hid (U3.out.keep hb)
  replace HB := Lib.hid (HB.out.trans (hb.mono HB.out.size))
  clear hb
  have U4 := Lib.hid (h1.eq aw_min)
  clear h1
  refine hK _ _ ?_
  clear hK
  try simp only [Act.put, List.setIfInBounds_toArray, List.set_cons_zero, List.set_cons_succ]
  clear U3
  obtain rfl : nU4 = 1 := U4.out.len.symm
  refine lp_pure (by kernel_rfl) (build_su 24 _ rfl s1 [(0, .int .u8 1)] (by kernel_rfl) b1) ?_
  try simp only [Act.put, List.setIfInBounds_toArray, List.set_cons_zero, List.set_cons_succ]
  refine lp_step (by kernel_rfl) (fun K hK => wp_one_su 25 24 elSum _ rfl s1 rfl (hK _ _ ?_))
  try simp only [Act.put, List.setIfInBounds_toArray, List.set_cons_zero, List.set_cons_succ]
  have hb : Below y6.heap.size y6 (y6.alloc (.cells (encU s1).toArray 24)) := (Below.refl _ _).alloc (Nat.le_refl _) _
  have hu : U (y6.alloc (.cells (encU s1).toArray 24)) (some ⟨y6.heap.size, 0, none⟩) 1 1 [s1] := ⟨rfl, Nat.le_refl _, fun h => (by cases h), Ss.one (Has.made' y6 _ _ _ rfl) (by simp)⟩
  have U5 := Lib.hid hu
  clear hu
  replace UA := Lib.hid (UA.out.keep hb)
  replace U4 := Lib.hid (U4.out.keep hb)
  replace HB := Lib.hid (HB.out.trans (hb.mono HB.out.size))
  clear hb
  generalize hg : y6.heap.size = gy7 at U5 ⊢
  generalize y6.alloc (.cells (encU s1).toArray 24) = y7 at *
  clear hg
  refine lp_step (by kernel_rfl) (fun K hK => ?_)
  go_wp2_with fail
  refine Calls.mono (u_of U5.out (by decide)) ?_
  rintro e y8 ⟨⟨qU6, nU6, cU6, rfl, h1⟩, hb⟩
  replace UA := Lib.hid (UA.out.keep hb)
  replace U4 := Lib.hid (U4.out.keep hb)
  replace U5 := Lib.hid (U5.out.keep hb)
  replace HB := Lib.hid (HB.out.trans (hb.mono HB.out.size))
  clear hb
  have U6 := Lib.hid (h1.eq aw_srt1)
  clear h1
  refine hK _ _ ?_
  clear hK
  try simp only [Act.put, List.setIfInBounds_toArray, List.set_cons_zero, List.set_cons_succ]
  clear U5
  obtain rfl : nU6 = 1 := U6.out.len.symm
  refine lp_step (by kernel_rfl) (fun K hK => ?_)
  go_wp2_with fail
  refine Calls.mono (u_same U4.out U6.out (by decide) true aw_same) ?_
  rintro e y9 ⟨rfl, hb⟩
  replace UA := Lib.hid (UA.out.keep hb)
  replace U4 := Lib.hid (U4.out.keep hb)
  replace U6 := Lib.hid (U6.out.keep hb)
  replace HB := Lib.hid (HB.out.trans (hb.mono HB.out.size))
  clear hb
  refine hK _ _ ?_
  clear hK
  try simp only [Act.put, List.setIfInBounds_toArray, List.set_cons_zero, List.set_cons_succ]
  refine lp_pure (v := ?_) (by kernel_rfl) ?_ ?_
  rotate_left
  · go_simp; try with_reducible rfl
  try simp only [Act.put, List.setIfInBounds_toArray, List.set_cons_zero, List.set_cons_succ]
  refine lp_pure (v := ?_) (by kernel_rfl) ?_ ?_
  rotate_left
  · go_simp; try with_reducible rfl
  try simp only [Act.put, List.setIfInBounds_toArray, List.set_cons_zero]
  refine wpList_nil ?_
  go_wp2_with fail
  go_ret
  exact ⟨rfl, HB.out⟩
end Go.Proofs.YtlidoikpfodpeaaDoor
/- Closed facts of sets: five hundred and twelve sums, in order; one more. No condition. -/
namespace Go.Proofs.YtlidoikpfodpeaaDoor
open Go.RowKit
/-- The law's sums, the first n. -/
def k512 (n : Nat) : List Su := (List.range n).map fun i => su2 (BitVec.ofNat 8 (i / 256)) (BitVec.ofNat 8 i)
theorem k512_succ (n : Nat) : k512 (n + 1) = k512 n ++ [su2 (BitVec.ofNat 8 (n / 256)) (BitVec.ofNat 8 n)] := by unfold k512; rw [List.range_succ, List.map_append]; rfl
theorem k512_len (n : Nat) : (k512 n).length = n := by unfold k512; simp
theorem k512_get (n i : Nat) (h : i < (k512 n).length) : (k512 n)[i] = su2 (BitVec.ofNat 8 (i / 256)) (BitVec.ofNat 8 i) := by simp [k512]
theorem cmp_su2 (a b c d : BitVec 8) : cmpU (su2 a b) (su2 c d) = if B a < B c then -1 else if B c < B a then 1 else if B b < B d then -1 else if B d < B b then 1 else 0 := by
  unfold cmpU su2
  simp only [cmpL, cmpL_self]
theorem B_of (n : Nat) : B (BitVec.ofNat 8 n) = ((n % 256 : Nat) : Int) := by unfold B; rw [BitVec.toNat_ofNat]
theorem asc_k512 {n : Nat} (h : n ≤ 512) : AscU (k512 n) := by
  refine List.pairwise_iff_getElem.2 fun i j hi hj hij => ?_
  rw [k512_get, k512_get]
  rw [k512_len] at hi hj
  rw [cmp_su2, B_of, B_of, B_of, B_of]
  by_cases h1 : i / 256 < j / 256
  · rw [if_pos (by omega)]
  · rw [if_neg (by omega), if_neg (by omega), if_pos (by omega)]
def kAll : List Su := k512 512
theorem K_len : kAll.length = 512 := k512_len 512
theorem K_srt : srt kAll = kAll := srt_asc (asc_k512 (Nat.le_refl _))
theorem K_good : goodU kAll = true := goodU_of (asc_k512 (Nat.le_refl _)) (by rw [K_len]; exact Nat.le_refl _)
theorem K_mem (i : Nat) (h : i < 512) : su2 (BitVec.ofNat 8 (i / 256)) (BitVec.ofNat 8 i) ∈ kAll := List.mem_map.2 ⟨i, List.mem_range.2 h, rfl⟩
theorem K_13 : su2 1 3 ∈ kAll := K_mem 259 (by decide)
theorem K_1255 : su2 1 255 ∈ kAll := K_mem 511 (by decide)
theorem K_not9 : su1 9 ∉ kAll := fun h => by
  obtain ⟨i, hi, e⟩ := List.mem_map.1 h
  have hi := List.mem_range.1 hi
  have e1 := congrArg (fun s : Su => s.1.head?) e
  have e2 : BitVec.ofNat 8 (i / 256) = (9 : BitVec 8) := Option.some.inj e1
  have e3 := congrArg BitVec.toNat e2
  rw [BitVec.toNat_ofNat] at e3
  have : (9 : BitVec 8).toNat = 9 := rfl
  omega
def Kmore : List Su := eitU kAll [su1 9]
theorem Kmore_len : Kmore.length = 513 := by
  unfold Kmore eitU
  rw [len_srt, List.length_append, K_len]
  · rfl
  · refine List.nodup_append.2 ⟨asc_nodup (asc_k512 (Nat.le_refl _)), by simp, fun x hx y hy e => ?_⟩
    rw [List.mem_singleton.1 hy] at e
    exact K_not9 (e ▸ hx)
theorem Kmore_bad : goodU Kmore = false := by unfold goodU; rw [decide_eq_false (by rw [Kmore_len]; decide), Bool.false_and]
theorem K_add : eitU kAll [su2 1 3] = kAll := ascU_unique (asc_eitU _ _) (asc_k512 (Nat.le_refl _)) fun z => by
  rw [mem_eitU, List.mem_singleton]
  exact ⟨fun h => h.elim id (fun e => e ▸ K_13), .inl⟩
theorem K_both : botU kAll Kmore = kAll := ascU_unique (asc_botU _ _) (asc_k512 (Nat.le_refl _)) fun z => by
  rw [mem_botU]; unfold Kmore; rw [mem_eitU]
  exact ⟨fun h => h.1, fun h => ⟨h, .inl h⟩⟩
theorem K_either : eitU kAll Kmore = Kmore := ascU_unique (asc_eitU _ _) (asc_eitU _ _) fun z => by
  rw [mem_eitU]; unfold Kmore; rw [mem_eitU]
  constructor
  · rintro (h | h)
    · exact .inl h
    · exact h
  · exact .inr
theorem bad_good : goodU [s2, s1] = false := by kernel_rfl
theorem bad_min : minU [s2, s1] [] = [s1, s2] := by kernel_rfl
theorem ok_srt : srt [s1, s2] = [s1, s2] := by kernel_rfl
theorem nil_good : goodU [] = true := by kernel_rfl
theorem has_t : (goodU kAll && decide (su2 1 255 ∈ kAll)) = true := by rw [K_good, decide_eq_true K_1255]; rfl
theorem has_f : (goodU kAll && decide (su1 9 ∈ kAll)) = false := by rw [decide_eq_false K_not9, Bool.and_false]
theorem has_b : (goodU [s2, s1] && decide (s1 ∈ [s2, s1])) = false := by rw [bad_good]; rfl
theorem same_b : (goodU [s2, s1] && decide ([s2, s1] = [s2, s1])) = false := by rw [bad_good]; rfl
theorem same_12 : (goodU [s1, s2] && decide ([s1, s2] = [s1, s2])) = true := by rw [aw_good]; simp
theorem same_K : (goodU kAll && decide (kAll = kAll)) = true := by rw [K_good]; simp
def z31 : List (BitVec 8) := 1 :: List.replicate 31 0
theorem tell_1 : tellU [s1] = ⟨sha z31, sha_length _⟩ := by
  apply Subtype.ext
  show sha (bytesU (srt [s1])) = sha z31
  rfl
theorem tell_0 : tellU [] = ⟨sha [], sha_length _⟩ := rfl
theorem b9 : Tryd.prog.built 24 [(0, .int .u8 9)] = some (encU (su1 9)).toArray := built_one 9 9 rfl
theorem b13 : Tryd.prog.built 24 [(0, .int .u8 1), (1, .int .u8 3)] = some (encU (su2 1 3)).toArray := built_two 1 3 1 3 rfl rfl
theorem b1255 : Tryd.prog.built 24 [(0, .int .u8 1), (1, .int .u8 255)] = some (encU (su2 1 255)).toArray := built_two 1 255 1 255 rfl rfl
end Go.Proofs.YtlidoikpfodpeaaDoor
