/- The walk of the law CauseSame: it returns true, and writes nothing that was there. Conditions: the two variables as laid. -/
import Derived.Test.YtceiiejjhebmeabDoorOnce
import Derived.Test.YtceiiejjhebmeabDoorUnw
namespace Go.Proofs.YtceiiejjhebmeabDoor
open Go.RowKit
theorem byte_eql (i : Nat) (hi : i < 6) : (stg i == stg 5) = ((stg i).toList == (stg 5).toList) := by
  have h : ∀ i : Fin 6, (stg i == stg 5) = ((stg i).toList == (stg 5).toList) := by decide +kernel
  exact h ⟨i, hi⟩
set_option maxRecDepth 100000 in
set_option maxHeartbeats 4000000 in
theorem same_out (a b i k st : Int) (h : a < 1 ∨ 15 < a ∨ b < 1 ∨ 15 < b ∨ i < 0 ∨ 5 < i ∨ k < 0 ∨ 5 < k) (w : World) (ad : Addr) (cap : Nat) (hL : Laid w ad cap) :
    Calls Tryd.prog 3 #[.int .i64 a, .int .i64 b, .int .i64 i, .int .i64 k, .int .i64 st] w fun e w' => e = .returned (.bool true) ∧ Below w.heap.size w w' := by
  have hA := Lib.hid (awake_any w ad cap hL)
  clear hL
  by_cases h0 : a < 1
  · clear h
    go_enter Tryd.func3, Tryd.ntmps3
    go_wp2_with (go_at_call 5; refine hA.out.mono ?_; rintro e w1 ⟨rfl, hb⟩)
    go_ret
    exact ⟨rfl, hb⟩
  by_cases h1 : 15 < a
  · clear h
    go_enter Tryd.func3, Tryd.ntmps3
    go_wp2_with (go_at_call 5; refine hA.out.mono ?_; rintro e w1 ⟨rfl, hb⟩)
    go_ret
    exact ⟨rfl, hb⟩
  by_cases h2 : b < 1
  · clear h
    go_enter Tryd.func3, Tryd.ntmps3
    go_wp2_with (go_at_call 5; refine hA.out.mono ?_; rintro e w1 ⟨rfl, hb⟩)
    go_ret
    exact ⟨rfl, hb⟩
  by_cases h3 : 15 < b
  · clear h
    go_enter Tryd.func3, Tryd.ntmps3
    go_wp2_with (go_at_call 5; refine hA.out.mono ?_; rintro e w1 ⟨rfl, hb⟩)
    go_ret
    exact ⟨rfl, hb⟩
  by_cases h4 : i < 0
  · clear h
    go_enter Tryd.func3, Tryd.ntmps3
    go_wp2_with (go_at_call 5; refine hA.out.mono ?_; rintro e w1 ⟨rfl, hb⟩)
    go_ret
    exact ⟨rfl, hb⟩
  by_cases h5 : 5 < i
  · clear h
    go_enter Tryd.func3, Tryd.ntmps3
    go_wp2_with (go_at_call 5; refine hA.out.mono ?_; rintro e w1 ⟨rfl, hb⟩)
    go_ret
    exact ⟨rfl, hb⟩
  by_cases h6 : k < 0
  · clear h
    go_enter Tryd.func3, Tryd.ntmps3
    go_wp2_with (go_at_call 5; refine hA.out.mono ?_; rintro e w1 ⟨rfl, hb⟩)
    go_ret
    exact ⟨rfl, hb⟩
  have h7 : 5 < k := by omega
  clear h
  go_enter Tryd.func3, Tryd.ntmps3
  go_wp2_with (go_at_call 5; refine hA.out.mono ?_; rintro e w1 ⟨rfl, hb⟩)
  go_ret
  exact ⟨rfl, hb⟩
set_option maxRecDepth 100000 in
set_option maxHeartbeats 8000000 in
theorem same_in (a b st : Int) (i k : Nat) (ha1 : 1 ≤ a) (ha2 : a ≤ 15) (hb1 : 1 ≤ b) (hb2 : b ≤ 15) (hi : i ≤ 5) (hk : k ≤ 5) (w : World) (ad : Addr) (cap : Nat) (hL : Laid w ad cap) :
    Calls Tryd.prog 3 #[.int .i64 a, .int .i64 b, .int .i64 i, .int .i64 k, .int .i64 st] w fun e w' => e = .returned (.bool true) ∧ Below w.heap.size w w' := by
  have hA := Lib.hid (awake_any w ad cap hL)
  have keep : Hid (∀ w', Below w.heap.size w w' → Laid w' ad cap) := Lib.hid fun w' hb => hL.keep hb
  have hi0 : (0 : Int) ≤ i := by omega
  have hi5 : (i : Int) ≤ 5 := by omega
  have hi6 : (i : Int) < 6 := by omega
  have hk0 : (0 : Int) ≤ k := by omega
  have hk5 : (k : Int) ≤ 5 := by omega
  have hk6 : (k : Int) < 6 := by omega
  have Hi := Lib.hid (show i < 6 by omega)
  have Hk := Lib.hid (show k < 6 by omega)
  clear hL hk hi
  go_enter Tryd.func3, Tryd.ntmps3
  go_upto_region 5 with (go_at_call 5; refine hA.out.mono ?_; rintro e w1 ⟨rfl, hb1⟩)
  have g1 := (keep.out _ hb1).at0
  have g2 := (keep.out _ hb1).row i Hi.out
  have hI := Lib.hid (in_st i Hi.out st 27 (.int .i64 a) w1 ad cap (keep.out _ hb1))
  have hJ : Hid (∀ w2, Below w1.heap.size w1 w2 → Calls Tryd.prog 6 #[.string ⟨#[99, 104, 101, 99, 107]⟩, .int .i64 1, .iface 29 (.pointer (some ⟨w1.heap.size, 0, none⟩))] w2 fun e w' => e = .returned (ofC w2.heap.size) ∧ Below w2.heap.size w2 w' ∧ IsC w' w2.heap.size (stg 5) 1 (ofC w1.heap.size)) := Lib.hid fun w2 h2 => in_st 5 (by omega) 1 29 _ w2 ad cap (keep.out _ (hb1.trans (h2.mono hb1.size)))
  have HB1 := Lib.hid hb1
  clear hA
  unfold ofC at hI hJ
  have hks := stg_eql ⟨k, Hk.out⟩ ⟨i, Hi.out⟩
  have hk5s := stg_eql ⟨k, Hk.out⟩ 5
  have hi5s := stg_eql ⟨i, Hi.out⟩ 5
  have hdec : decide ((⟨k, Hk.out⟩ : Fin 6) = ⟨i, Hi.out⟩) = ((k : Int) == (i : Int)) := by
    rw [Bool.eq_iff_iff, decide_eq_true_eq, beq_iff_eq, Fin.mk.injEq]; omega
  rw [hdec] at hks
  clear hdec
  have hbyte : (stg i == stg 5) = ((stg i).toList == (stg 5).toList) := byte_eql i Hi.out
  obtain ⟨si, hsi⟩ : ∃ si, si = stg i := ⟨_, rfl⟩
  obtain ⟨sk, hsk⟩ : ∃ sk, sk = stg k := ⟨_, rfl⟩
  have HSI := Lib.hid hsi
  have HSK := Lib.hid hsk
  simp only [← hsi] at g2 hI hks hi5s hbyte
  simp only [← hsk] at hks hk5s
  clear hsi hsk
  generalize decide ((⟨k, Hk.out⟩ : Fin 6) = 5) = k5 at hk5s
  generalize decide ((⟨i, Hi.out⟩ : Fin 6) = 5) = i5 at hi5s
  have hk5s : (sk.toList == (stg 5).toList) = k5 := hk5s
  have hi5s : (si.toList == (stg 5).toList) = i5 := hi5s
  have hks : (sk.toList == si.toList) = ((k : Int) == (i : Int)) := hks
  generalize hki : ((k : Int) == (i : Int)) = ki at hks
  generalize hab : (a == b) = ab
  rw [hi5s] at hbyte
  have Hks := Lib.hid hks
  have Hk5 := Lib.hid hk5s
  have Hi5 := Lib.hid hi5s
  have Hby := Lib.hid hbyte
  clear hks hk5s hi5s hbyte hb1
  go_upto_region 6 with (first
    | (go_at_call 6; with_reducible refine hI.out.mono ?_; rintro e w2 ⟨rfl, hb2, e1⟩; have hJ2 := Lib.hid (hJ.out _ hb2); clear g1 g2)
    | (go_at_call 6; with_reducible refine hJ2.out.mono ?_; rintro e w3 ⟨rfl, hb3, e2⟩))
  have b2 := HB1.out.trans (hb2.mono HB1.out.size)
  have b3 := b2.trans (hb3.mono b2.size)
  have L3 := keep.out _ b3
  have lt0 : w.heap.size ≤ w3.heap.size := b3.size
  have lt1 : w1.heap.size < w2.heap.size := Has.lt e1
  have lt2 : w2.heap.size < w3.heap.size := Has.lt e2
  have e1' := e1.keep hb3
  have G0 : Hid (∀ v, Below w3.heap.size w3 v → v.cell? ⟨0, 0, none⟩ = some (.slice (some ad) 6 cap)) := Lib.hid fun v h => (L3.keep h).at0
  have GI : Hid (∀ v, Below w3.heap.size w3 v → v.cell? (ad.add i) = some (.string si)) := Lib.hid fun v h => ((L3.keep h).row i Hi.out).trans (by rw [← HSI.out])
  have GK : Hid (∀ v, Below w3.heap.size w3 v → v.cell? (ad.add k) = some (.string sk)) := Lib.hid fun v h => ((L3.keep h).row k Hk.out).trans (by rw [← HSK.out])
  have CG : Hid (∀ v, Below w3.heap.size w3 v → IsC v w1.heap.size si st (.iface 27 (.int .i64 a))) := Lib.hid fun v h => e1'.keep h
  have CF : Hid (∀ v, Below w3.heap.size w3 v → IsC v w2.heap.size (stg 5) 1 (ofC w1.heap.size)) := Lib.hid fun v h => e2.keep h
  have LD : Hid (∀ v, Below w3.heap.size w3 v → Laid v ad cap) := Lib.hid fun v h => L3.keep h
  have N1 : Hid (∀ v, Below w3.heap.size w3 v → Calls Tryd.prog 7 #[ofC w2.heap.size, .iface 27 (.int .i64 b)] v fun e w' => e = .returned (.bool ab) ∧ Below v.heap.size v w') := Lib.hid fun v h => by
    rw [← hab]; exact eis_n2 _ _ _ _ _ _ a b v (LD.out _ h).size (LD.out _ h).err (CF.out _ h) (CG.out _ h)
  have N2 : Hid (∀ v n2, Below w3.heap.size w3 v → Calls Tryd.prog 7 #[ofC w2.heap.size, ofC v.heap.size] (v.alloc (.cells #[.string sk, .int .i64 n2, .nilIface] 31)) fun e w' => e = .returned (.bool (k5 || ki)) ∧ Below (v.heap.size + 1) (v.alloc (.cells #[.string sk, .int .i64 n2, .nilIface] 31)) w') := Lib.hid fun v n2 h => by
    have h' : Below w3.heap.size w3 (v.alloc (.cells #[.string sk, .int .i64 n2, .nilIface] 31)) := h.alloc h.size _
    have := eis_c2 w2.heap.size w1.heap.size v.heap.size (stg 5) si sk 1 st n2 a k5 ki (v.alloc (.cells #[.string sk, .int .i64 n2, .nilIface] 31)) (LD.out _ h').size (LD.out _ h').err (CF.out _ h') (CG.out _ h') (Has.made' _ _ _ _ rfl) (by have := h.size; omega) (by have := h.size; omega) Hk5.out Hks.out
    simpa using this
  have N3 : Hid (∀ v, Below w3.heap.size w3 v → Calls Tryd.prog 8 #[ofC w2.heap.size] v fun e w' => e = .returned (.string si) ∧ Below v.heap.size v w') := Lib.hid fun v h =>
    stage_2 _ _ _ _ _ _ _ v (LD.out _ h).size (LD.out _ h).err (CF.out _ h) (CG.out _ h)
  have N4 : Hid (∀ v, Below w3.heap.size w3 v → Calls Tryd.prog 9 #[ofC w2.heap.size] v fun e w' => e = .returned (.bool (!i5)) ∧ Below v.heap.size v w') := Lib.hid fun v h =>
    once_2 _ _ _ _ _ _ _ i5 v (LD.out _ h).size (LD.out _ h).err (CF.out _ h) (CG.out _ h) Hby.out
  have hl5 : (stg 5).toList = [99, 104, 101, 99, 107] := by decide +kernel
  have q1 : (sk.toList == [99, 104, 101, 99, 107]) = k5 := by rw [← hl5]; exact Hk5.out
  have q2 : (si.toList == [99, 104, 101, 99, 107]) = i5 := by rw [← hl5]; exact Hi5.out
  have q3 : (si.toList != [99, 104, 101, 99, 107]) = !i5 := by rw [bne, q2]
  clear hl5
  have B3 := Lib.hid b3
  have LT0 := Lib.hid lt0
  have s0 : Hid (Below w3.heap.size w3 w3.drew) := Lib.hid (Below.refl _ _).drew
  clear b2 b3 L3 lt0 lt1 lt2 e1 e1' e2 hb2 hb3 hJ hI hJ2 HB1 keep Hi Hk HSI HSK Hks Hk5 Hi5 Hby
  unfold ofC at *
  refine wp_region_ors (fun v => Below w3.heap.size w3 v) [(0, true), (1, true), (2, true), (4, true), (5, true), (6, true), (3, false), (7, true), (8, true), (9, true), (10, true), (11, true), (12, true), (13, true), (14, true), (18, true), (19, true), (20, true), (15, false), (16, true), (17, false), (21, true), (22, true), (23, true), (24, true), (25, true), (26, true), (27, true), (28, true), (29, true), (30, true), (31, true), (33, true), (34, true), (35, true), (36, true), (32, false), (37, true), (38, true), (39, true), (40, true), (42, true), (43, true), (44, true), (45, true), (46, true), (41, false), (47, true), (48, true), (49, true)] (by kernel_rfl) (by kernel_rfl) (by kernel_rfl) s0.out ?_
  simp only [pickOrs, List.getElem?_cons_zero, List.getElem?_cons_succ]
  generalize w3.drew = v0 at *
  cases ki <;> cases k5
  all_goals
    refine ors_pure (v := ?_) (by rfl) ?_ ?_
    rotate_left
    · intro w' _; go_simp; try with_reducible rfl
    try simp only [Act.put, List.setIfInBounds_toArray, List.set_cons_zero, List.set_cons_succ]
    refine ors_pure (v := ?_) (by rfl) ?_ ?_
    rotate_left
    · intro w' _; go_simp; try with_reducible rfl
    try simp only [Act.put, List.setIfInBounds_toArray, List.set_cons_zero, List.set_cons_succ]
    refine ors_pure (v := ?_) (by rfl) ?_ ?_
    rotate_left
    · intro w' _; go_simp; try with_reducible rfl
    try simp only [Act.put, List.setIfInBounds_toArray, List.set_cons_zero, List.set_cons_succ]
    refine ors_pure (v := ?_) (by rfl) ?_ ?_
    rotate_left
    · intro w' _; go_simp; try with_reducible rfl
    try simp only [Act.put, List.setIfInBounds_toArray, List.set_cons_zero, List.set_cons_succ]
    refine ors_pure (v := ?_) (by rfl) ?_ ?_
    rotate_left
    · intro w' _; go_simp; try with_reducible rfl
    try simp only [Act.put, List.setIfInBounds_toArray, List.set_cons_zero, List.set_cons_succ]
    refine ors_pure (v := ?_) (by rfl) ?_ ?_
    rotate_left
    · intro w' _; go_simp; try with_reducible rfl
    try simp only [Act.put, List.setIfInBounds_toArray, List.set_cons_zero, List.set_cons_succ]
    refine ors_step (by rfl) (fun K hK => ?_)
    go_wp2_with fail
    refine (N1.out _ s0.out).mono ?_
    rintro e v1 ⟨rfl, hb⟩
    have s1 := Lib.hid (s0.out.trans (hb.mono s0.out.size))
    clear hb
    go_wp2_with fail
    refine ⟨s1.out, ?_⟩
    try simp only [Act.put, List.setIfInBounds_toArray, List.set_cons_zero, List.set_cons_succ]
    refine ors_pure (v := ?_) (by rfl) ?_ ?_
    rotate_left
    · intro w' _; go_simp; try with_reducible rfl
    try simp only [Act.put, List.setIfInBounds_toArray, List.set_cons_zero, List.set_cons_succ]
    refine ors_pure (v := ?_) (by rfl) ?_ ?_
    rotate_left
    · intro w' _; go_simp; try with_reducible rfl
    try simp only [Act.put, List.setIfInBounds_toArray, List.set_cons_zero, List.set_cons_succ]
    refine ors_pure (v := ?_) (by rfl) ?_ ?_
    rotate_left
    · intro w' _; go_simp; try with_reducible rfl
    try simp only [Act.put, List.setIfInBounds_toArray, List.set_cons_zero, List.set_cons_succ]
    refine ors_pure (v := ?_) (by rfl) ?_ ?_
    rotate_left
    · intro w' hS; have hc := G0.out w' hS; go_simp; try with_reducible rfl
    try simp only [Act.put, List.setIfInBounds_toArray, List.set_cons_zero, List.set_cons_succ]
    refine ors_pure (v := ?_) (by rfl) ?_ ?_
    rotate_left
    · intro w' _; go_simp; try with_reducible rfl
    try simp only [Act.put, List.setIfInBounds_toArray, List.set_cons_zero, List.set_cons_succ]
    refine ors_pure (v := ?_) (by rfl) ?_ ?_
    rotate_left
    · intro w' _; go_simp; try with_reducible rfl
    try simp only [Act.put, List.setIfInBounds_toArray, List.set_cons_zero, List.set_cons_succ]
    refine ors_pure (v := ?_) (by rfl) ?_ ?_
    rotate_left
    · intro w' hS; have hc := GK.out w' hS; go_simp; try with_reducible rfl
    try simp only [Act.put, List.setIfInBounds_toArray, List.set_cons_zero, List.set_cons_succ]
    refine ors_pure (v := ?_) (by rfl) ?_ ?_
    rotate_left
    · intro w' _; go_simp; try with_reducible rfl
    try simp only [Act.put, List.setIfInBounds_toArray, List.set_cons_zero, List.set_cons_succ]
    refine ors_pure (v := ?_) (by rfl) ?_ ?_
    rotate_left
    · intro w' _; go_simp; try with_reducible rfl
    try simp only [Act.put, List.setIfInBounds_toArray, List.set_cons_zero, List.set_cons_succ]
    refine ors_pure (v := ?_) (by rfl) ?_ ?_
    rotate_left
    · intro w' _; go_simp; try with_reducible rfl
    try simp only [Act.put, List.setIfInBounds_toArray, List.set_cons_zero, List.set_cons_succ]
    refine ors_pure (v := ?_) (by rfl) ?_ ?_
    rotate_left
    · intro w' _; go_simp; try with_reducible rfl
    try simp only [Act.put, List.setIfInBounds_toArray, List.set_cons_zero, List.set_cons_succ]
    refine ors_step (by rfl) (fun K hK => ?_)
    go_wp2_with fail
    refine ⟨s1.out.alloc s1.out.size _, ?_⟩
    try simp only [Act.put, List.setIfInBounds_toArray, List.set_cons_zero, List.set_cons_succ]
    refine ors_pure (v := ?_) (by rfl) ?_ ?_
    rotate_left
    · intro w' _; go_simp; try with_reducible rfl
    try simp only [Act.put, List.setIfInBounds_toArray, List.set_cons_zero, List.set_cons_succ]
    refine ors_step (by rfl) (fun K hK => ?_)
    go_wp2_with fail
    refine (N2.out _ _ s1.out).mono ?_
    rintro e v2 ⟨rfl, hb⟩
    have s2 := Lib.hid ((s1.out.alloc s1.out.size _).trans (hb.mono (Nat.le_succ_of_le s1.out.size)))
    clear hb
    go_wp2_with fail
    refine ⟨s2.out, ?_⟩
    try simp only [Act.put, List.setIfInBounds_toArray, List.set_cons_zero, List.set_cons_succ]
    refine ors_pure (v := ?_) (by rfl) ?_ ?_
    rotate_left
    · intro w' _; go_simp; try with_reducible rfl
    try simp only [Act.put, List.setIfInBounds_toArray, List.set_cons_zero, List.set_cons_succ]
    first | (refine ors_skip (by rfl) ?_) | (refine ors_pure (v := ?_) (by rfl) ?_ ?_; rotate_left; (· intro w' hS; have hc := G0.out w' hS; go_simp; try with_reducible rfl))
    try simp only [Act.put, List.setIfInBounds_toArray, List.set_cons_zero, List.set_cons_succ]
    first | (refine ors_skip (by rfl) ?_) | (refine ors_pure (v := ?_) (by rfl) ?_ ?_; rotate_left; (· intro w' _; go_simp; try with_reducible rfl))
    try simp only [Act.put, List.setIfInBounds_toArray, List.set_cons_zero, List.set_cons_succ]
    first | (refine ors_skip (by rfl) ?_) | (refine ors_pure (v := ?_) (by rfl) ?_ ?_; rotate_left; (· intro w' _; go_simp; try with_reducible rfl))
    try simp only [Act.put, List.setIfInBounds_toArray, List.set_cons_zero, List.set_cons_succ]
    first | (refine ors_skip (by rfl) ?_) | (refine ors_pure (v := ?_) (by rfl) ?_ ?_; rotate_left; (· intro w' hS; have hc := GK.out w' hS; go_simp; try with_reducible rfl))
    try simp only [Act.put, List.setIfInBounds_toArray, List.set_cons_zero, List.set_cons_succ]
    first | (refine ors_skip (by rfl) ?_) | (refine ors_pure (v := ?_) (by rfl) ?_ ?_; rotate_left; (· intro w' _; go_simp; try with_reducible rfl))
    try simp only [Act.put, List.setIfInBounds_toArray, List.set_cons_zero, List.set_cons_succ]
    refine ors_pure (v := ?_) (by rfl) ?_ ?_
    rotate_left
    · intro w' _; go_simp; try with_reducible rfl
    try simp only [Act.put, List.setIfInBounds_toArray, List.set_cons_zero, List.set_cons_succ]
    refine ors_pure (v := ?_) (by rfl) ?_ ?_
    rotate_left
    · intro w' _; go_simp; try with_reducible rfl
    try simp only [Act.put, List.setIfInBounds_toArray, List.set_cons_zero, List.set_cons_succ]
    refine ors_pure (v := ?_) (by rfl) ?_ ?_
    rotate_left
    · intro w' _; go_simp; try with_reducible rfl
    try simp only [Act.put, List.setIfInBounds_toArray, List.set_cons_zero, List.set_cons_succ]
    refine ors_pure (v := ?_) (by rfl) ?_ ?_
    rotate_left
    · intro w' _; go_simp; try with_reducible rfl
    try simp only [Act.put, List.setIfInBounds_toArray, List.set_cons_zero, List.set_cons_succ]
    refine ors_pure (v := ?_) (by rfl) ?_ ?_
    rotate_left
    · intro w' _; go_simp; try with_reducible rfl
    try simp only [Act.put, List.setIfInBounds_toArray, List.set_cons_zero, List.set_cons_succ]
    refine ors_pure (v := ?_) (by rfl) ?_ ?_
    rotate_left
    · intro w' hS; have hc := G0.out w' hS; go_simp; try with_reducible rfl
    try simp only [Act.put, List.setIfInBounds_toArray, List.set_cons_zero, List.set_cons_succ]
    refine ors_pure (v := ?_) (by rfl) ?_ ?_
    rotate_left
    · intro w' _; go_simp; try with_reducible rfl
    try simp only [Act.put, List.setIfInBounds_toArray, List.set_cons_zero, List.set_cons_succ]
    refine ors_pure (v := ?_) (by rfl) ?_ ?_
    rotate_left
    · intro w' _; go_simp; try with_reducible rfl
    try simp only [Act.put, List.setIfInBounds_toArray, List.set_cons_zero, List.set_cons_succ]
    refine ors_pure (v := ?_) (by rfl) ?_ ?_
    rotate_left
    · intro w' hS; have hc := GI.out w' hS; go_simp; try with_reducible rfl
    try simp only [Act.put, List.setIfInBounds_toArray, List.set_cons_zero, List.set_cons_succ]
    refine ors_step (by rfl) (fun K hK => ?_)
    go_wp2_with fail
    refine (N3.out _ s2.out).mono ?_
    rintro e v3 ⟨rfl, hb⟩
    have s3 := Lib.hid (s2.out.trans (hb.mono s2.out.size))
    clear hb
    go_wp2_with fail
    refine ⟨s3.out, ?_⟩
    try simp only [Act.put, List.setIfInBounds_toArray, List.set_cons_zero, List.set_cons_succ]
    refine ors_pure (v := ?_) (by rfl) ?_ ?_
    rotate_left
    · intro w' _; go_simp; try with_reducible rfl
    try simp only [Act.put, List.setIfInBounds_toArray, List.set_cons_zero, List.set_cons_succ]
    refine ors_pure (v := ?_) (by rfl) ?_ ?_
    rotate_left
    · intro w' _; go_simp; try with_reducible rfl
    try simp only [Act.put, List.setIfInBounds_toArray, List.set_cons_zero, List.set_cons_succ]
    refine ors_pure (v := ?_) (by rfl) ?_ ?_
    rotate_left
    · intro w' _; go_simp; try with_reducible rfl
    try simp only [Act.put, List.setIfInBounds_toArray, List.set_cons_zero, List.set_cons_succ]
    refine ors_pure (v := ?_) (by rfl) ?_ ?_
    rotate_left
    · intro w' _; go_simp; try with_reducible rfl
    try simp only [Act.put, List.setIfInBounds_toArray, List.set_cons_zero, List.set_cons_succ]
    refine ors_pure (v := ?_) (by rfl) ?_ ?_
    rotate_left
    · intro w' hS; have hc := G0.out w' hS; go_simp; try with_reducible rfl
    try simp only [Act.put, List.setIfInBounds_toArray, List.set_cons_zero, List.set_cons_succ]
    refine ors_pure (v := ?_) (by rfl) ?_ ?_
    rotate_left
    · intro w' _; go_simp; try with_reducible rfl
    try simp only [Act.put, List.setIfInBounds_toArray, List.set_cons_zero, List.set_cons_succ]
    refine ors_pure (v := ?_) (by rfl) ?_ ?_
    rotate_left
    · intro w' _; go_simp; try with_reducible rfl
    try simp only [Act.put, List.setIfInBounds_toArray, List.set_cons_zero, List.set_cons_succ]
    refine ors_pure (v := ?_) (by rfl) ?_ ?_
    rotate_left
    · intro w' hS; have hc := GI.out w' hS; go_simp; try with_reducible rfl
    try simp only [Act.put, List.setIfInBounds_toArray, List.set_cons_zero, List.set_cons_succ]
    refine ors_pure (v := ?_) (by rfl) ?_ ?_
    rotate_left
    · intro w' _; go_simp; try with_reducible rfl
    try simp only [Act.put, List.setIfInBounds_toArray, List.set_cons_zero, List.set_cons_succ]
    refine ors_step (by rfl) (fun K hK => ?_)
    go_wp2_with fail
    refine (N4.out _ s3.out).mono ?_
    rintro e v4 ⟨rfl, hb⟩
    have s4 := Lib.hid (s3.out.trans (hb.mono s3.out.size))
    clear hb
    go_wp2_with fail
    refine ⟨s4.out, ?_⟩
    try simp only [Act.put, List.setIfInBounds_toArray, List.set_cons_zero, List.set_cons_succ]
    refine ors_pure (v := ?_) (by rfl) ?_ ?_
    rotate_left
    · intro w' _; go_simp; try with_reducible rfl
    try simp only [Act.put, List.setIfInBounds_toArray, List.set_cons_zero, List.set_cons_succ]
    refine ors_pure (v := ?_) (by rfl) ?_ ?_
    rotate_left
    · intro w' _; go_simp; try with_reducible rfl
    try simp only [Act.put, List.setIfInBounds_toArray, List.set_cons_zero, List.set_cons_succ]
    refine ors_pure (v := ?_) (by rfl) ?_ ?_
    rotate_left
    · intro w' _; go_simp; try with_reducible rfl
    try simp only [Act.put, List.setIfInBounds_toArray, List.set_cons_zero, List.set_cons_succ]
    refine ors_nil ?_
    go_wp2_with fail
    go_ret
    exact ⟨rfl, B3.out.trans (s4.out.mono LT0.out)⟩
end Go.Proofs.YtceiiejjhebmeabDoor
