/- Contracts: the document's own digit, Text (package tallymanref1); the text of thirty-two bytes reads back. Condition: thirty-two bytes. -/
import Derived.Test.YtgaphplndpdhaaaDoorParse
import Derived.Test.YtgaphplndpdhaaaDoorRef
namespace Go.Proofs.YtgaphplndpdhaaaDoor
open Go.RowKit
theorem hexd_digit : ∀ x : BitVec 8, x < 16 → (digV (hexd x) = x ∧ digOk (hexd x) = true) := by decide +kernel
theorem nibbles : ∀ x : BitVec 8, ((x >>> 4) <<< 4) ||| (x &&& 15) = x ∧ x >>> 4 < 16 ∧ x &&& 15 < 16 := by decide +kernel
theorem textOf_at (l : List (BitVec 8)) : ∀ k : Nat, k < l.length → at8 (textOf l) (2 * k) = hexd (at8 l k >>> 4) ∧ at8 (textOf l) (2 * k + 1) = hexd (at8 l k &&& 15) := by
  induction l with
  | nil => intro k h; simp at h
  | cons x l ih =>
    intro k h
    cases k with
    | zero => exact ⟨rfl, rfl⟩
    | succ k =>
      have h2 := ih k (by simpa using h)
      have e1 : at8 (textOf (x :: l)) (2 * (k + 1)) = at8 (textOf l) (2 * k) := by
        show at8 (hexd (x >>> 4) :: hexd (x &&& 15) :: textOf l) (2 * k + 2) = _
        simp [at8]
      have e2 : at8 (textOf (x :: l)) (2 * (k + 1) + 1) = at8 (textOf l) (2 * k + 1) := by
        show at8 (hexd (x >>> 4) :: hexd (x &&& 15) :: textOf l) (2 * k + 2 + 1) = _
        simp [at8]
      rw [e1, e2, h2.1, h2.2]
      simp [at8]
theorem textOf_digits (l : List (BitVec 8)) (j : Nat) (h : j < 2 * l.length) : digOk (at8 (textOf l) j) = true := by
  have ht := textOf_at l (j / 2) (by omega)
  have hn := nibbles (at8 l (j / 2))
  rcases Nat.mod_two_eq_zero_or_one j with e | e
  · rw [show j = 2 * (j / 2) by omega, ht.1]; exact (hexd_digit _ hn.2.1).2
  · rw [show j = 2 * (j / 2) + 1 by omega, ht.2]; exact (hexd_digit _ hn.2.2).2
theorem digs_textOf (l : List (BitVec 8)) : ∀ k, k ≤ l.length → digsTo (textOf l) k = l.take k := by
  intro k
  induction k with
  | zero => intro _; rfl
  | succ k ih =>
    intro h
    have ht := textOf_at l k (by omega)
    have hn := nibbles (at8 l k)
    rw [digsTo_succ, ih (by omega), List.take_succ_eq_append_getElem (by omega)]
    congr 1
    unfold digAt
    rw [ht.1, ht.2, (hexd_digit _ hn.2.1).1, (hexd_digit _ hn.2.2).1, hn.1]
    simp [at8, List.getD_eq_getElem?_getD, List.getElem?_eq_getElem (show k < l.length by omega)]
theorem parse_text (l : List (BitVec 8)) (hl : l.length = 32) (w : World) :
    Calls Tryd.prog 7 #[.string (strB (textOf l))] w fun e w' => e = .returned (.tuple #[.agg (l.map u8v).toArray, .bool true]) ∧ Below w.heap.size w w' := by
  have h := parse_good (textOf l) (by rw [textOf_length, hl]) (fun j hj => textOf_digits l j (by omega)) w
  rw [digs_textOf l 32 (by omega), List.take_of_length_le (by omega)] at h
  exact h
theorem B_add48 (x : BitVec 8) (h : x < 10) : B x + 48 = B (hexd x) ∧ 0 ≤ B x ∧ B x < 10 := by
  have h' : x.toNat < 10 := by simpa [BitVec.lt_def] using h
  unfold hexd B; rw [if_pos h, BitVec.toNat_add]; simp; omega
theorem B_add87 (x : BitVec 8) (h : ¬ x < 10) (h2 : x < 16) : B x + 87 = B (hexd x) ∧ 10 ≤ B x ∧ B x < 16 := by
  have h' : ¬ x.toNat < 10 := by simpa [BitVec.lt_def] using h
  have h2' : x.toNat < 16 := by simpa [BitVec.lt_def] using h2
  unfold hexd B; rw [if_neg h, BitVec.toNat_add]; simp; omega
theorem rdigit_any (x : BitVec 8) (h : x < 16) (w : World) :
    Calls Tryd.prog 23 #[.int .u8 (B x)] w fun e w' => e = .returned (.int .u8 (B (hexd x))) ∧ w = w' := by
  by_cases h1 : x < 10
  · obtain ⟨e1, e2, e3⟩ := B_add48 x h1
    generalize B (hexd x) = r at *
    generalize B x = n at *
    subst e1
    clear h h1
    go_enter Tryd.func23, Tryd.ntmps23
    go_wp2_with fail
    go_ret
    exact ⟨congrArg (fun n => Ending.returned (.int .u8 n)) (by omega), rfl⟩
  · obtain ⟨e1, e2, e3⟩ := B_add87 x h1 h
    generalize B (hexd x) = r at *
    generalize B x = n at *
    subst e1
    have h4 : ¬ n < 10 := by omega
    clear h h1
    go_enter Tryd.func23, Tryd.ntmps23
    go_wp2_with fail
    go_ret
    exact ⟨congrArg (fun n => Ending.returned (.int .u8 n)) (by omega), rfl⟩
theorem B_quo16 (x : BitVec 8) : B x / (16 : Int) = B (x >>> 4) := by
  have := B_shr x 4; simpa using this
theorem B_rem16 (x : BitVec 8) : B x % (16 : Int) = B (x &&& 15#8) := by
  have h : ∀ x : BitVec 8, x.toNat % 16 = (x &&& 15#8).toNat := by decide +kernel
  unfold B; rw [← h x]; simp
theorem wrap8_in (n : Int) (h0 : 0 ≤ n) (h1 : n < 256) : IntKind.u8.wrap n = n := by
  unfold IntKind.wrap; simp [IntKind.bits, IntKind.signed]; omega
theorem B_tdiv16 (x : BitVec 8) : (B x).tdiv (16 : Int) = B (x >>> 4) := by
  rw [Int.tdiv_eq_ediv_of_nonneg (B_nonneg x), B_quo16]
theorem B_tmod16 (x : BitVec 8) : (B x).tmod (16 : Int) = B (x &&& 15#8) := by
  rw [Int.tmod_eq_emod_of_nonneg (B_nonneg x), B_rem16]
section
set_option maxRecDepth 100000 in
set_option maxHeartbeats 1000000 in
theorem rtext_any (l : List (BitVec 8)) (hl : l.length = 32) (w : World) :
    Calls Tryd.prog 10 #[.agg (l.map u8v).toArray] w fun e w' => e = .returned (.string (strB (textOf l))) ∧ Below w.heap.size w w' := by
  obtain ⟨i0, hi, hz0, hz1, hz2⟩ := info_parts u8_info
  obtain ⟨cs, hcs⟩ : ∃ cs, cs = l.map u8v := ⟨_, rfl⟩
  rw [← hcs]
  have HI := Lib.hid hi
  have HZ := Lib.hid (And.intro hz0 (And.intro hz1 hz2))
  have Hcs := Lib.hid hcs
  have Hl := Lib.hid hl
  clear hi hz0 hz1 hz2 hcs hl
  go_enter Tryd.func10, Tryd.ntmps10
  go_wp2_with fail
  generalize hw0 : w.alloc _ = w0
  have h1 : Has w0 w.heap.size 27 (l.map u8v) := by subst hw0; rw [← Hcs.out]; exact Has.made' _ _ _ _ rfl
  have ho : w0.ownsRow (w.heap.size + 1) 5 1 (.slice none 0 0) (2 * 0) ((textOf (l.take 0)).map u8v) := ⟨rfl, .inl ⟨rfl, rfl⟩⟩
  have hB : Below w.heap.size w w0 := by subst hw0; exact (Below.refl _ _).alloc (Nat.le_refl _) _
  clear hw0
  go_loopw [3, 4] (fun v i wr => ∃ k : Nat, k ≤ 32 ∧ i = .int .i64 k ∧ wr.ownsRow (w.heap.size + 1) 5 1 v (2 * k) ((textOf (l.take k)).map u8v) ∧ Below w.heap.size w wr ∧ Has wr w.heap.size 27 (l.map u8v))
    (fun _ i _ => 32 - (intOf i).toNat)
  case atStart => exact ⟨0, by omega, rfl, ho, hB, h1⟩
  case round =>
    clear ho hB h1
    rename_i wr
    obtain ⟨k, hk, rfl, ho, hB, h1⟩ := hrel
    by_cases hlt : k < 32
    · have hc := at8_of l k (by rw [Hl.out]; exact hlt)
      have hts := textOf_succ l k (by rw [Hl.out]; exact hlt)
      generalize at8 l k = x at *
      have hn := nibbles x
      have d1 := Lib.hid (rdigit_any _ hn.2.1)
      have d2 := Lib.hid (rdigit_any _ hn.2.2)
      have Hts := Lib.hid hts
      have HO := Lib.hid ho
      have hxn := B_nonneg x
      have hxl := B_lt x
      clear hts ho hn
      go_wp2_with fail
      refine wp_region_ors (fun w' => Has w' w.heap.size 27 (l.map u8v)) [(0, true), (1, true), (2, true), (3, true), (4, true), (6, true), (7, true), (8, true), (9, true), (5, false), (10, false), (11, false), (12, false), (13, true)] (by kernel_rfl) (by kernel_rfl) (by kernel_rfl) h1.drew ?_
      simp only [pickOrs, List.getElem?_cons_zero, List.getElem?_cons_succ]
      have q1 : IntKind.u8.wrap ((B x).tdiv 16) = B (x >>> 4) := by
        rw [B_tdiv16]; have h0 := B_nonneg (x >>> 4); have h1 := B_lt (x >>> 4); exact wrap8_in _ h0 h1
      have q2 := B_tmod16 x
      generalize B (x >>> 4) = y at *
      generalize B (x &&& 15#8) = z at *
      refine ors_pure (v := ?_) (by rfl) ?_ ?_
      rotate_left
      · intro w' hS; have hS := hS.cellv hc; go_simp; try with_reducible rfl
      try simp only [Act.put, List.setIfInBounds_toArray, List.set_cons_zero, List.set_cons_succ]
      refine ors_pure (v := ?_) (by rfl) ?_ ?_
      rotate_left
      · intro w' hS; have hS := hS.cellv hc; go_simp; try with_reducible rfl
      try simp only [Act.put, List.setIfInBounds_toArray, List.set_cons_zero, List.set_cons_succ]
      refine ors_pure (v := ?_) (by rfl) ?_ ?_
      rotate_left
      · intro w' hS; have hS := hS.cellv hc; go_simp; try with_reducible rfl
      try simp only [Act.put, List.setIfInBounds_toArray, List.set_cons_zero, List.set_cons_succ]
      refine ors_pure (v := ?_) (by rfl) ?_ ?_
      rotate_left
      · intro w' hS; have hS := hS.cellv hc; go_simp; try with_reducible rfl
      try simp only [Act.put, List.setIfInBounds_toArray, List.set_cons_zero, List.set_cons_succ]
      refine ors_pure (v := ?_) (by rfl) ?_ ?_
      rotate_left
      · intro w' hS; have hS := hS.cellv hc; go_simp; try with_reducible rfl
      try simp only [Act.put, List.setIfInBounds_toArray, List.set_cons_zero, List.set_cons_succ]
      refine ors_pure (v := ?_) (by rfl) ?_ ?_
      rotate_left
      · intro w' hS; have hS := hS.cellv hc; go_simp; try with_reducible rfl
      try simp only [Act.put, List.setIfInBounds_toArray, List.set_cons_zero, List.set_cons_succ]
      refine ors_pure (v := ?_) (by rfl) ?_ ?_
      rotate_left
      · intro w' hS; have hS := hS.cellv hc; go_simp; try with_reducible rfl
      try simp only [Act.put, List.setIfInBounds_toArray, List.set_cons_zero, List.set_cons_succ]
      refine ors_pure (v := ?_) (by rfl) ?_ ?_
      rotate_left
      · intro w' hS; have hS := hS.cellv hc; go_simp; try with_reducible rfl
      try simp only [Act.put, List.setIfInBounds_toArray, List.set_cons_zero, List.set_cons_succ]
      refine ors_pure (v := ?_) (by rfl) ?_ ?_
      rotate_left
      · intro w' hS; have hS := hS.cellv hc; go_simp; try with_reducible rfl
      try simp only [Act.put, List.setIfInBounds_toArray, List.set_cons_zero, List.set_cons_succ]
      refine ors_step (by rfl) (fun K hK => ?_)
      go_wp2_with fail
      with_reducible refine (d1.out _).mono ?_
      rintro e w' ⟨rfl, rfl⟩
      go_wp2_with fail
      refine ⟨h1.drew, ?_⟩
      try simp only [Act.put, List.setIfInBounds_toArray, List.set_cons_zero, List.set_cons_succ]
      refine ors_step (by rfl) (fun K hK => ?_)
      go_wp2_with fail
      with_reducible refine (d2.out _).mono ?_
      rintro e w' ⟨rfl, rfl⟩
      go_wp2_with fail
      refine ⟨h1.drew, ?_⟩
      try simp only [Act.put, List.setIfInBounds_toArray, List.set_cons_zero, List.set_cons_succ]
      refine ors_step (by rfl) (fun K hK => ?_)
      go_wp2_with fail
      refine ⟨(h1.alloc _).drew, ?_⟩
      try simp only [Act.put, List.setIfInBounds_toArray, List.set_cons_zero, List.set_cons_succ]
      refine ors_step (by rfl) (fun K hK => ?_)
      refine wp_append_own _ (.tmp 9) (.tmp 20) 22 rfl (w.heap.size + 1) 5 i0 (.int .u8 0) 1 1 Tryd.underlying22 HI.out HZ.out.1 HZ.out.2.1 HZ.out.2.2 rfl (by decide)
        u3 (2 * k) ((textOf (l.take k)).map u8v) rfl ((HO.out.alloc _).drew) ⟨wr.heap.size, 0, none⟩ 2 2 [.int .u8 (B (hexd (x >>> 4))), .int .u8 (B (hexd (x &&& 15)))] rfl rfl ?_ ?_ ?_ ?_ ?_ ?_
      · intro j u hj
        rw [Addr.add_mid]
        exact ((Has.made' wr _ _ _ rfl).drew.cell (0 + j)).trans (by rw [Nat.zero_add]; exact hj)
      · intro u hu
        simp at hu
        rcases hu with rfl | rfl <;> rfl
      · unfold maxLen; omega
      · omega
      · have := h1.lt; simp; omega
      · intro v' w' ho' hg' _
        have hB' : Below w.heap.size w w' := ((hB.alloc (by have := hB.size; omega) _).drew).grown hg' (by simp; have := hB.size; omega) (fun b hb => by have := own_base HO.out b hb; omega)
        have hB2 : Below (w.heap.size + 1) wr w' := (((Below.refl _ wr).alloc h1.lt _).drew).grown hg' (by simp; have := h1.lt; omega) (fun b hb => by have := own_base HO.out b hb; omega)
        have h1' := Lib.hid (h1.keep hB2 (by omega))
        have HO' := Lib.hid ho'
        clear ho' hg' hB2
        go_wp2_with fail
        refine ⟨h1'.out, ?_⟩
        try simp only [Act.put, List.setIfInBounds_toArray, List.set_cons_zero, List.set_cons_succ]
        (repeat (refine ors_pure (v := ?_) (by rfl) ?_ ?_; rotate_left; (· intro w' _; go_simp; try with_reducible rfl); try simp only [Act.put, List.setIfInBounds_toArray, List.set_cons_zero, List.set_cons_succ]))
        refine ors_nil ?_
        go_wp2_with fail
        go_roundw
        case rel =>
          refine ⟨k + 1, by omega, by go_num, ?_, hB', h1'.out⟩
          rw [Hts.out, List.map_append]
          exact HO'.out
        case measure => simp [intOf]; omega
    · have : k = 32 := by omega
      subst this
      clear hlt
      rw [List.take_of_length_le (by rw [Hl.out]; exact Nat.le_refl _)] at ho
      obtain ⟨g, cap, cur, rfl, hg0, hg1, hg2, hg3, hg4, hg5⟩ := (ho.2).resolve_left (by rintro ⟨_, h⟩; omega)
      have hcv : (loadCells ⟨g, 0, none⟩ 64).run Tryd.prog wr = .ok (((textOf l).map B).map (Value.int .u8)).toArray wr := by
        have e1 : ((textOf l).map B).map (Value.int .u8) = (textOf l).map u8v := by rw [List.map_map]; rfl
        have e2 : ((textOf l).map u8v).length = 64 := by rw [List.length_map, textOf_length, Hl.out]
        rw [e1]
        have := run_loadCells_list (P := Tryd.prog) wr ⟨g, 0, none⟩ ((textOf l).map u8v) (ho.cells (g := g) rfl)
        rw [e2] at this
        exact this
      have hbs := (run_convert_bytes_string (P := Tryd.prog) wr 22 9 5 (some ⟨g, 0, none⟩) 64 cap Tryd.underlying22 Tryd.underlying5 Tryd.underlying9).trans (run_bytesToString wr _ 64 cap _ hcv)
      rw [strB_of] at hbs
      clear hcv
      go_wp2_with fail
      go_ret
      exact ⟨rfl, hB⟩
end
end Go.Proofs.YtgaphplndpdhaaaDoor
