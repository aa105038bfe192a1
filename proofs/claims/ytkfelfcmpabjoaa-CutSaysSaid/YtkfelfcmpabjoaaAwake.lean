/- Contract: the law's awake: it returns true. No condition. -/
import Derived.Test.YtkfelfcmpabjoaaParts
import Derived.Test.YtkfelfcmpabjoaaTwo
namespace Go.Proofs.Ytkfelfcmpabjoaa
open Go.RowKit
def plainR : Rl := ⟨16, 128, 8, 31, 7⟩
theorem plainR_ok : plainR.Ok := ⟨by decide, by decide, by decide, by decide, by decide, by decide, by decide⟩
def z10 : List (BitVec 8) := List.replicate 10 0#8
theorem z10_pieces : pieces z10 (endsL plainR 0 z10) = [z10] := by decide +kernel
theorem z10_cells : madeCells #[Value.int .u8 0] 10 = (z10.map u8v).toArray := by kernel_rfl
theorem made10 (w : World) : Sees (w.alloc (.cells (madeCells #[Value.int .u8 0] 10) 5)) (w.heap.size + 1) (some ⟨w.heap.size, 0, none⟩) (z10.map u8v) :=
  Sees.of_has (Has.made' w 5 _ (z10.map u8v) z10_cells) (by omega)
theorem made10_run (w : World) : (Instr.makeSlice 30 (.int .i64 10) (.int .i64 10)).run Try.prog w = .ok (.slice (some ⟨w.heap.size, 0, none⟩) 10 10) (w.alloc (.cells (madeCells #[Value.int .u8 0] 10) 5)) := by
  obtain ⟨i0, hi, hz0, hz1, hz2⟩ := info_parts u8_info
  have := run_make (P := Try.prog) w 30 5 i0 (.int .u8 0) Try.underlying30 hi hz0 .i64 .i64 10 10 (by omega) (by omega) (by rw [hz2]; omega) (by omega)
  rw [hz1, show (Value.int .u8 0).cells = #[Value.int .u8 0] from rfl] at this
  simpa using this
theorem eq_guard (w : World) : (eqGuard BinOp.eql 35 (.tmp 21) (.tmp 22) (ruleV 16 128 8 31 7) (ruleV 16 128 8 31 7)).run Try.prog w = .ok () w := by kernel_rfl
theorem eq_run (w : World) : (binOp BinOp.eql 35 (ruleV 16 128 8 31 7) (ruleV 16 128 8 31 7)).run Try.prog w = .ok (.bool true) w := by kernel_rfl
theorem Ps.one {w : World} {v : Value} {x : List (BitVec 8)} (h : Ps w v [x]) : ∃ ad c q' c', v = .slice (some ad) 1 c ∧ w.cell? ad = some (.slice q' x.length c') := by
  obtain ⟨q, c, vs, rfl, hs, hl, hv⟩ := h
  obtain ⟨u, rfl⟩ := List.length_eq_one_iff.1 hl
  obtain ⟨q', c', rfl, _⟩ := hv 0 u x rfl rfl
  obtain ⟨ad, rfl, _, hc⟩ := hs.get (by simp)
  have := hc 0 _ rfl
  have e : ad.add 0 = ad := by simp [Addr.add]
  rw [e] at this
  exact ⟨ad, c, q', c', rfl, this⟩
set_option maxHeartbeats 1000000 in
set_option maxRecDepth 100000 in
theorem awake_any (w : World) :
    Calls Try.prog 9 #[] w fun e w' => e = .returned (.bool true) ∧ Below w.heap.size w w' := by
  have HP := Lib.hid (fun v => plain_any v)
  have HRP := Lib.hid (fun v => rplain_any v)
  have HG := Lib.hid (fun v => good_any 16 128 8 31 7 v)
  rw [show okI 16 128 8 = true by decide] at HG
  have HO := Lib.hid (fun v => own_any 16 128 8 31 7 v)
  have HQ := Lib.hid (fun q v hs => parts_good plainR plainR_ok z10 q 10 v (by decide) (fun h => by subst h; exact absurd (hs (by decide)) (by simp)) (by decide) hs)
  rw [z10_pieces] at HQ
  replace HQ : Hid (∀ q v, Sees v v.heap.size q (z10.map u8v) → Calls Try.prog 12 #[ruleV 16 128 8 31 7, .slice q 10 10] v fun e w' => ∃ u, e = .returned u ∧ Ps w' u [z10] ∧ Below v.heap.size v w') := HQ
  have HB := Lib.hid ((Below.refl w.heap.size w).drew)
  have HZ : Hid (w.drew.heap.size = w.heap.size) := Lib.hid rfl
  have hm := made10_run
  go_enter Try.func9, Try.ntmps9
  go_wp2_with fail
  refine wp_region_ot [.inr (0, 1), .inl (2, false), .inl (3, true)] _ (by kernel_rfl) rfl (by kernel_rfl) (by kernel_rfl) ?_
  generalize w.drew = w1 at *
  simp only [pickOt, List.getElem?_cons_zero, List.getElem?_cons_succ]
  refine ot_two (fun v u w' => v = ruleV 16 128 8 31 7 ∧ (∃ g, u = .slice (some ⟨g, 0, none⟩) 10 10 ∧ Sees w' w'.heap.size (some ⟨g, 0, none⟩) (z10.map u8v)) ∧ Below w1.heap.size w1 w') (by kernel_rfl) (by kernel_rfl) (fun v => by kernel_rfl) (fun v => by kernel_rfl)
    (fun v w' => v = ruleV 16 128 8 31 7 ∧ Below w1.heap.size w1 w') (fun u w' => u = .slice (some ⟨w1.heap.size, 0, none⟩) 10 10 ∧ w' = w1.alloc (.cells (madeCells #[Value.int .u8 0] 10) 5)) ?_ ?_ ?_ ?_ (fun v u => rfl) ?_
  · intro K hK
    go_wp2_with fail
    refine (HP.out _).mono ?_
    rintro e w2 ⟨rfl, hb⟩
    go_wp2_with fail
    exact hb
  · rintro v w2 ⟨rfl, hb⟩ K hK
    have hx := (Below.refl w2.heap.size w2).alloc (Nat.le_refl _) (.cells (madeCells #[Value.int .u8 0] 10) 5)
    have hs := made10 w2
    go_wp2_with fail
    refine ⟨?_, ?_⟩
    · exact hx
    · exact hb.trans (hx.mono hb.size)
  · intro K hK
    have hx := (Below.refl w1.heap.size w1).alloc (Nat.le_refl _) (.cells (madeCells #[Value.int .u8 0] 10) 5)
    go_wp2_with fail
    exact hx
  · rintro u w2 ⟨rfl, rfl⟩ K hK
    have hx := (Below.refl w1.heap.size w1).alloc (Nat.le_refl _) (.cells (madeCells #[Value.int .u8 0] 10) 5)
    have hs := made10 w1
    go_wp2_with fail
    refine (HP.out _).mono ?_
    rintro e w3 ⟨rfl, hb⟩
    go_wp2_with fail
    refine ⟨hb, (hs.keep (hb.mono (by simp))).more (by have := hb.size; simp at this; omega), hx.trans (hb.mono hx.size)⟩
  · rintro v u w2 ⟨rfl, ⟨g, rfl, hs⟩, hb⟩
    have HS := Lib.hid hs
    have HB2 := Lib.hid (HB.out.trans (hb.mono (Nat.le_of_eq HZ.out.symm)))
    clear hs hb HB HZ hm
    try simp only [Act.put, List.setIfInBounds_toArray, List.set_cons_zero, List.set_cons_succ]
    refine ot_step (by kernel_rfl) (fun K hK => ?_)
    go_wp2_with fail
    refine (HQ.out _ w2 HS.out).mono ?_
    rintro e w3 ⟨u, rfl, hp, hb⟩
    obtain ⟨ad, c3, q4, c4, rfl, c0⟩ := hp.one
    replace c0 : w3.cell? ad = some (.slice q4 10 c4) := c0
    have HB3 := Lib.hid (HB2.out.trans (hb.mono HB2.out.size))
    have HX := Lib.hid hb
    clear hp hb HB2 HS HQ
    go_wp2_with fail
    refine ⟨HX.out, ?_⟩
    try simp only [Act.put, List.setIfInBounds_toArray, List.set_cons_zero, List.set_cons_succ]
    refine ot_pure (v := ?_) (by kernel_rfl) ?_ ?_
    rotate_left
    · intro w' _; go_simp; try with_reducible rfl
    try simp only [Act.put, List.setIfInBounds_toArray, List.set_cons_zero, List.set_cons_succ]
    refine ot_nil ?_
    go_wp2_with fail
    have q1 := eq_guard
    have q2 := eq_run
    clear HX c0
    refine (HP.out _).mono ?_
    rintro e w4 ⟨rfl, hb⟩
    have HB4 := Lib.hid (HB3.out.trans (hb.mono HB3.out.size))
    clear hb HB3
    go_wp2_with fail
    refine (HG.out _).mono ?_
    rintro e w5 ⟨rfl, hb⟩
    have HB5 := Lib.hid (HB4.out.trans (hb.mono HB4.out.size))
    clear hb HB4
    go_wp2_with fail
    refine (HP.out _).mono ?_
    rintro e w6 ⟨rfl, hb⟩
    have HB6 := Lib.hid (HB5.out.trans (hb.mono HB5.out.size))
    clear hb HB5
    go_wp2_with fail
    refine (HO.out _).mono ?_
    rintro e w7 ⟨rfl, hb⟩
    have HB7 := Lib.hid (HB6.out.trans (hb.mono HB6.out.size))
    clear hb HB6
    go_wp2_with fail
    refine (HRP.out _).mono ?_
    rintro e w8 ⟨rfl, hb⟩
    have HB8 := Lib.hid (HB7.out.trans (hb.mono HB7.out.size))
    clear hb HB7
    go_wp2_with fail
    go_ret
    exact ⟨rfl, HB8.out⟩
end Go.Proofs.Ytkfelfcmpabjoaa
