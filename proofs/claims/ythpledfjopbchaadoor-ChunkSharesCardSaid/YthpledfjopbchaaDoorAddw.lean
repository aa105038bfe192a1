/- Contract: (*roll.Roll).Add: a byte is let into a window. Condition: the window is of 1 to 64 bytes. -/
import Derived.Test.YthpledfjopbchaaDoorWin
namespace Go.Proofs.YthpledfjopbchaaDoor
open Go.RowKit
theorem lastN_all (n : Nat) (H : List (BitVec 8)) (h : H.length ≤ n) : lastN n H = H := by unfold lastN; rw [Nat.sub_eq_zero_of_le h]; rfl
theorem lastN_cons (n : Nat) (H : List (BitVec 8)) (h : n ≤ H.length) (hn : 1 ≤ n) : lastN n H = at8 H (H.length - n) :: H.drop (H.length - n + 1) := drop_at8 H (H.length - n) (by omega)
theorem lastN_snoc_full (n : Nat) (H : List (BitVec 8)) (h : n ≤ H.length) (hn : 1 ≤ n) (c : BitVec 8) : lastN n (H ++ [c]) = H.drop (H.length - n + 1) ++ [c] := by
  unfold lastN
  rw [List.length_append, List.length_singleton, show H.length + 1 - n = H.length - n + 1 by omega, List.drop_append_of_le_length (by omega)]
theorem lastN_snoc_part (n : Nat) (H : List (BitVec 8)) (h : H.length < n) (c : BitVec 8) : lastN n (H ++ [c]) = H ++ [c] := lastN_all n _ (by simp; omega)
theorem sum_full (n : Nat) (H : List (BitVec 8)) (h : n ≤ H.length) (hn : 1 ≤ n) (c : BitVec 8) :
    (wo (rsum (lastN n H)) (at8 H (H.length - n)) (pw (n - 1)) * 257 + (c.toNat + 1)) % 2305843009213693951 = rsum (lastN n (H ++ [c])) := by
  rw [lastN_snoc_full n H h hn, rsum_snoc, lastN_cons n H h hn]
  have e : (H.drop (H.length - n + 1)).length = n - 1 := by rw [List.length_drop]; omega
  rw [← e, wo_rsum]
theorem sum_part (n : Nat) (H : List (BitVec 8)) (h : H.length < n) (c : BitVec 8) :
    (rsum (lastN n H) * 257 + (c.toNat + 1)) % 2305843009213693951 = rsum (lastN n (H ++ [c])) := by
  rw [lastN_snoc_part n H h, rsum_snoc, lastN_all n H (by omega)]
theorem mod_apart (n i L : Nat) (h1 : L + 1 - n ≤ i) (h2 : i < L) : i % n ≠ L % n := by
  intro h
  have h3 : (L - i) % n = 0 := Nat.sub_mod_eq_zero_of_mod_eq h.symm
  rw [Nat.mod_eq_of_lt (by omega)] at h3
  omega
theorem rg_put (R : List (BitVec 8)) (n : Nat) (H : List (BitVec 8)) (h : Rg R n H) (h1 : 1 ≤ n) (h2 : n ≤ 64) (c : BitVec 8) : Rg (R.set (H.length % n) c) n (H ++ [c]) := by
  refine ⟨by rw [List.length_set]; exact h.1, fun i hi hl => ?_⟩
  rw [List.length_append, List.length_singleton] at hi hl
  have hm := Nat.mod_lt H.length (show 0 < n by omega)
  by_cases he : i = H.length
  · subst he
    rw [List.getElem?_set_self (by rw [h.1]; omega), List.getElem?_append_right (Nat.le_refl _), Nat.sub_self]
    rfl
  · rw [List.getElem?_set_ne (fun e => mod_apart n i H.length hi (by omega) e.symm), List.getElem?_append_left (by omega)]
    exact h.2 i (by omega) (by omega)
theorem rg_old (R : List (BitVec 8)) (n : Nat) (H : List (BitVec 8)) (h : Rg R n H) (hn : n ≤ H.length) (h1 : 1 ≤ n) : R[H.length % n]? = some (at8 H (H.length - n)) := by
  have := h.2 (H.length - n) (Nat.le_refl _) (by omega)
  rw [← Nat.mod_eq_sub_mod hn] at this
  rw [this]
  simp [at8, List.getD_eq_getElem?_getD, List.getElem?_eq_getElem (show H.length - n < H.length by omega)]
theorem win_end (R : List (BitVec 8)) (n : Nat) (H : List (BitVec 8)) (c : BitVec 8) (m a : Int) (hm : m = ((min (H ++ [c]).length n : Nat) : Int)) (ha : a = (((H ++ [c]).length % n : Nat) : Int)) :
    roll5 ((R.map u8v).set (H.length % n) (u8v c)) (.int .i64 (n : Int)) (.int .i64 m) (.int .i64 a) (.int .u64 ((pw (n - 1) : Nat) : Int)) (.int .u64 ((rsum (lastN n (H ++ [c])) : Nat) : Int)) = winL (R.set (H.length % n) c) n (H ++ [c]) := by
  subst hm ha
  unfold winL
  rw [List.map_set]
theorem calls_flip {P : Program} {f : FuncId} {args : Array Value} {w : World} {v : Value} (h : Calls P f args w fun e w' => e = .returned v ∧ w = w') : Calls P f args w fun e w' => e = .returned v ∧ w' = w :=
  h.mono fun _ _ ⟨a, b⟩ => ⟨a, b.symm⟩
set_option maxHeartbeats 2000000 in
set_option maxRecDepth 100000 in
theorem addw_any (w : World) (g n : Nat) (H : List (BitVec 8)) (c : BitVec 8) (h1 : 1 ≤ n) (h2 : n ≤ 64) (h : WinAt w g n H) :
    Calls Tryd.prog 79 #[.pointer (some ⟨g, 0, none⟩), .int .u8 (B c)] w fun e w' => e = .returned (.int .u64 ((rsum (lastN n (H ++ [c])) : Nat) : Int)) ∧ WinAt w' g n (H ++ [c]) ∧ Only g w w' := by
  obtain ⟨R, hR, h⟩ := h
  have hP := u8v_len R hR.1
  have HR := Lib.hid (rg_put R n H hR h1 h2 c)
  have HO := Lib.hid (rg_old R n H hR)
  have HE := Lib.hid (win_end R n H c)
  have hm := Nat.mod_lt H.length (show 0 < n by omega)
  have hat : (H.length % n + 1) % n = (H ++ [c]).length % n := by rw [List.length_append, List.length_singleton, Nat.mod_add_mod]
  have HAT := Lib.hid hat
  have HPF := Lib.hid (fun hf => sum_full n H hf h1 c)
  have HPP := Lib.hid (fun hf => sum_part n H hf c)
  have hlen : (H ++ [c]).length = H.length + 1 := by simp
  have HLEN := Lib.hid hlen
  have hsl := rsum_lt (lastN n H)
  have hfl := pw_lt (n - 1)
  unfold winL at h
  have hPR : ∀ i : Nat, (R.map u8v)[i]? = (R[i]?).map u8v := fun i => List.getElem?_map
  clear hat hlen hR
  by_cases hf : n ≤ H.length
  · have hold := HO.out hf h1
    have hpf := HPF.out hf
    have hmin : min H.length n = n := by omega
    have HMIN : Hid (min (H ++ [c]).length n = n) := Lib.hid (by rw [HLEN.out]; omega)
    rw [hmin] at h
    have hx := (hPR (H.length % n)).trans (congrArg (Option.map u8v) hold)
    have H1 := Lib.hid (fun w1 => without_any (rsum (lastN n H)) (at8 H (H.length - n)) (pw (n - 1)) hsl hfl w1)
    have H2 := Lib.hid (fun w1 => with_any (wo (rsum (lastN n H)) (at8 H (H.length - n)) (pw (n - 1))) c (wo_lt _ _ _) w1)
    rw [hpf] at H2
    clear hPR HPP HPF HO hold hmin hpf hsl hfl
    have HM : Hid ((n : Int) = ((min (H ++ [c]).length n : Nat) : Int)) := Lib.hid (by rw [HMIN.out])
    clear HMIN HLEN
    replace HE := Lib.hid (fun a' => HE.out (n : Int) a' HM.out)
    clear HM
    generalize rsum (lastN n (H ++ [c])) = s2 at *
    generalize wo (rsum (lastN n H)) (at8 H (H.length - n)) (pw (n - 1)) = t at *
    generalize rsum (lastN n H) = s at *
    generalize at8 H (H.length - n) = x at *
    generalize pw (n - 1) = f at *
    obtain ⟨a, ha⟩ : ∃ a, a = H.length % n := ⟨_, rfl⟩
    rw [← ha] at hx hm h HAT HE HR
    clear ha
    have c65 := h.cellv (roll5_65 _ _ _ _ _ _ hP)
    have c64 := h.cellv (roll5_64 _ _ _ _ _ _ hP)
    have HH := Lib.hid h
    have HP := Lib.hid hP
    clear h hP hf
    go_enter Tryd.func79, Tryd.ntmps79
    go_wp2_with fail
    go_quiet (fail)
    have HO := Lib.hid ((Only.refl g w).drewN nq)
    replace HH := Lib.hid (HH.out.drewN nq)
    clear c65 c64
    generalize w.drewN nq = w1 at *
    have c68 := HH.out.cellv (roll5_68 _ _ _ _ _ _ HP.out)
    have c66 := HH.out.cellv (roll5_66 _ _ _ _ _ _ HP.out)
    have c67 := HH.out.cellv (roll5_67 _ _ _ _ _ _ HP.out)
    have ca := HH.out.cellv ((roll5_at _ _ _ _ _ _ HP.out a (by omega)).trans hx)
    have a0 : (0 : Int) ≤ (a : Int) := by omega
    have a1 : (a : Int) < 64 := by omega
    go_wp2_with fail
    refine wp_region_still_tail 21 (by kernel_rfl) (by kernel_rfl) ?_
    simp only [List.take_succ_cons, List.take_zero, List.drop_succ_cons, List.drop_zero]
    iterate 18 still_step
    still_call (calls_flip (H1.out _))
    iterate 2 still_step
    refine wpStill_nil ?_
    change wpList _ _ _ _ _ w1.drew
    have f68 := HH.out.drew.free 68
    replace c68 : w1.drew.cell? ⟨g, 68, none⟩ = some (.int .u64 (s : Int)) := c68
    replace c66 : w1.drew.cell? ⟨g, 66, none⟩ = some (.int .i64 (a : Int)) := c66
    replace HO := Lib.hid (HO.out.drew.setCell 68 (.int .u64 (t : Int)))
    replace HH := Lib.hid (HH.out.drew.put 68 (.int .u64 (t : Int)))
    rw [roll5_put68 _ _ _ _ _ _ _ HP.out] at HH
    clear ca c67 c66
    generalize w1.drew = w2 at *
    go_upto_region 4 with (fail)
    clear c68 f68 H1
    generalize w2.setCell ⟨g, 68, none⟩ (.int .u64 (t : Int)) = w3 at *
    have c68 := HH.out.cellv (roll5_68 _ _ _ _ _ _ HP.out)
    have f68 := HH.out.free 68
    go_upto_region 5 with ((with_reducible refine (H2.out _).mono ?_); rintro e w4 ⟨rfl, rfl⟩)
    replace HO := Lib.hid (HO.out.setCell 68 (.int .u64 (s2 : Int)))
    replace HH := Lib.hid (HH.out.put 68 (.int .u64 (s2 : Int)))
    rw [roll5_put68 _ _ _ _ _ _ _ HP.out] at HH
    clear c68 f68 H2
    generalize w3.setCell ⟨g, 68, none⟩ (.int .u64 (s2 : Int)) = w4 at *
    have c66 := HH.out.cellv (roll5_66 _ _ _ _ _ _ HP.out)
    refine wp_region_still_tail 9 (by kernel_rfl) (by kernel_rfl) ?_
    simp only [List.take_succ_cons, List.take_zero, List.drop_succ_cons, List.drop_zero]
    iterate 9 still_step
    refine wpStill_nil ?_
    change wpList _ _ _ _ _ w4.drew
    have ca := HH.out.drew.cell a
    rw [roll5_at _ _ _ _ _ _ HP.out a (by omega), hx] at ca
    have fa := HH.out.drew.free a
    replace HO := Lib.hid (HO.out.drew.setCell a (u8v c))
    replace HH := Lib.hid (HH.out.drew.put a (u8v c))
    rw [roll5_put _ _ _ _ _ _ _ HP.out a (by omega)] at HH
    have hP2 : ((R.map u8v).set a (u8v c)).length = 64 := by rw [List.length_set]; exact HP.out
    replace HP := Lib.hid hP2
    clear c66 hP2
    generalize w4.drew = w5 at *
    go_upto_region 6 with (fail)
    clear ca fa
    change Code.wp _ _ _ _ (w5.setCell ⟨g, a, none⟩ (u8v c))
    generalize w5.setCell ⟨g, a, none⟩ (u8v c) = w6 at *
    have c66 := HH.out.cellv (roll5_66 _ _ _ _ _ _ HP.out)
    have c64 := HH.out.cellv (roll5_64 _ _ _ _ _ _ HP.out)
    have k1 : IntKind.i64.wrap ((a : Int) + 1) = (a : Int) + 1 := IntWalk.i64_in _ (by omega)
    have k2 : ((n : Int) == 0) = false := by rw [beq_eq_false_iff_ne]; omega
    have k3 : ((a : Int) + 1).tmod (n : Int) = (((a + 1) % n : Nat) : Int) := rfl
    have k4 : ¬ n = 0 := by omega
    rw [HAT.out] at k3
    generalize (H ++ [c]).length % n = a2 at *
    refine wp_region_still_tail 13 (by kernel_rfl) (by kernel_rfl) ?_
    simp only [List.take_succ_cons, List.take_zero, List.drop_succ_cons, List.drop_zero]
    iterate 13 still_step
    refine wpStill_nil ?_
    change wpList _ _ _ _ _ w6.drew
    have f66 := HH.out.drew.free 66
    replace c66 : w6.drew.cell? ⟨g, 66, none⟩ = some (.int .i64 (a : Int)) := c66
    replace HO := Lib.hid (HO.out.drew.setCell 66 (.int .i64 (a2 : Int)))
    replace HH := Lib.hid (HH.out.drew.put 66 (.int .i64 (a2 : Int)))
    rw [roll5_put66 _ _ _ _ _ _ _ HP.out] at HH
    have H7 : Hid (∀ w7, w7 = w6.drew.setCell ⟨g, 66, none⟩ (.int .i64 (a2 : Int)) → w7.cell? ⟨g, 68, none⟩ = some (.int .u64 (s2 : Int))) := Lib.hid (by rintro _ rfl; exact HH.out.cellv (roll5_68 _ _ _ _ _ _ HP.out))
    clear c64 k1 k2 k3 k4
    generalize w6.drew = w7 at *
    go_upto_region 7 with (fail)
    have c68 := H7.out _ rfl
    clear c66 f66 H7
    generalize w7.setCell ⟨g, 66, none⟩ (.int .i64 (a2 : Int)) = w8 at *
    go_wp2_with fail
    go_ret
    refine ⟨rfl, ⟨_, HR.out, ?_⟩, HO.out⟩
    have := HH.out
    rw [HE.out (a2 : Int) rfl] at this
    exact this
  · have hpp := HPP.out (by omega)
    have hmin : min H.length n = H.length := by omega
    have HM : Hid (((H.length + 1 : Nat) : Int) = ((min (H ++ [c]).length n : Nat) : Int)) := Lib.hid (by rw [HLEN.out]; omega)
    rw [hmin] at h
    have H2 := Lib.hid (fun w1 => with_any (rsum (lastN n H)) c hsl w1)
    rw [hpp] at H2
    obtain ⟨y, hy⟩ : ∃ y, (R.map u8v)[H.length % n]? = some y := ⟨_, List.getElem?_eq_getElem (by omega)⟩
    clear hPR HPP HPF HO hmin hpp hsl hfl HLEN
    replace HE := Lib.hid (fun a' => HE.out ((H.length + 1 : Nat) : Int) a' HM.out)
    clear HM
    generalize rsum (lastN n (H ++ [c])) = s2 at *
    generalize rsum (lastN n H) = t at *
    generalize pw (n - 1) = f at *
    obtain ⟨a, ha⟩ : ∃ a, a = H.length % n := ⟨_, rfl⟩
    rw [← ha] at hy hm h HAT HE HR
    clear ha
    have HY := Lib.hid hy
    have c65 := h.cellv (roll5_65 _ _ _ _ _ _ hP)
    have c64 := h.cellv (roll5_64 _ _ _ _ _ _ hP)
    have HH := Lib.hid h
    have HP := Lib.hid hP
    obtain ⟨L, hL⟩ : ∃ L, L = H.length := ⟨_, rfl⟩
    rw [← hL] at c65 hf HH HE
    have e0 : ((L : Int) == (n : Int)) = false := by rw [beq_eq_false_iff_ne]; omega
    have e1 : ¬ L = n := by omega
    have e2 : IntKind.i64.wrap ((L : Int) + 1) = ((L + 1 : Nat) : Int) := IntWalk.i64_in _ (by omega)
    clear h hP hf hy hL
    go_enter Tryd.func79, Tryd.ntmps79
    go_wp2_with fail
    go_quiet (fail)
    have HO := Lib.hid ((Only.refl g w).drewN nq)
    replace HH := Lib.hid (HH.out.drewN nq)
    clear c65 c64
    generalize w.drewN nq = w1 at *
    have c65 := HH.out.cellv (roll5_65 _ _ _ _ _ _ HP.out)
    have f65 := HH.out.free 65
    replace HO := Lib.hid (HO.out.setCell 65 (.int .i64 ((L + 1 : Nat) : Int)))
    replace HH := Lib.hid (HH.out.put 65 (.int .i64 ((L + 1 : Nat) : Int)))
    rw [roll5_put65 _ _ _ _ _ _ _ HP.out] at HH
    generalize L + 1 = L1 at *
    have a0 : (0 : Int) ≤ (a : Int) := by omega
    have a1 : (a : Int) < 64 := by omega
    go_upto_region 4 with (fail)
    clear c65 f65 e0 e1 e2
    generalize w1.setCell ⟨g, 65, none⟩ (.int .i64 (L1 : Int)) = w3 at *
    have c68 := HH.out.cellv (roll5_68 _ _ _ _ _ _ HP.out)
    have f68 := HH.out.free 68
    go_upto_region 5 with ((with_reducible refine (H2.out _).mono ?_); rintro e w4 ⟨rfl, rfl⟩)
    replace HO := Lib.hid (HO.out.setCell 68 (.int .u64 (s2 : Int)))
    replace HH := Lib.hid (HH.out.put 68 (.int .u64 (s2 : Int)))
    rw [roll5_put68 _ _ _ _ _ _ _ HP.out] at HH
    clear c68 f68 H2
    generalize w3.setCell ⟨g, 68, none⟩ (.int .u64 (s2 : Int)) = w4 at *
    have c66 := HH.out.cellv (roll5_66 _ _ _ _ _ _ HP.out)
    refine wp_region_still_tail 9 (by kernel_rfl) (by kernel_rfl) ?_
    simp only [List.take_succ_cons, List.take_zero, List.drop_succ_cons, List.drop_zero]
    iterate 9 still_step
    refine wpStill_nil ?_
    change wpList _ _ _ _ _ w4.drew
    have ca := HH.out.drew.cell a
    rw [roll5_at _ _ _ _ _ _ HP.out a (by omega), HY.out] at ca
    have fa := HH.out.drew.free a
    replace HO := Lib.hid (HO.out.drew.setCell a (u8v c))
    replace HH := Lib.hid (HH.out.drew.put a (u8v c))
    rw [roll5_put _ _ _ _ _ _ _ HP.out a (by omega)] at HH
    have hP2 : ((R.map u8v).set a (u8v c)).length = 64 := by rw [List.length_set]; exact HP.out
    replace HP := Lib.hid hP2
    clear c66 hP2
    generalize w4.drew = w5 at *
    go_upto_region 6 with (fail)
    clear ca fa
    change Code.wp _ _ _ _ (w5.setCell ⟨g, a, none⟩ (u8v c))
    generalize w5.setCell ⟨g, a, none⟩ (u8v c) = w6 at *
    have c66 := HH.out.cellv (roll5_66 _ _ _ _ _ _ HP.out)
    have c64 := HH.out.cellv (roll5_64 _ _ _ _ _ _ HP.out)
    have k1 : IntKind.i64.wrap ((a : Int) + 1) = (a : Int) + 1 := IntWalk.i64_in _ (by omega)
    have k2 : ((n : Int) == 0) = false := by rw [beq_eq_false_iff_ne]; omega
    have k3 : ((a : Int) + 1).tmod (n : Int) = (((a + 1) % n : Nat) : Int) := rfl
    have k4 : ¬ n = 0 := by omega
    rw [HAT.out] at k3
    generalize (H ++ [c]).length % n = a2 at *
    refine wp_region_still_tail 13 (by kernel_rfl) (by kernel_rfl) ?_
    simp only [List.take_succ_cons, List.take_zero, List.drop_succ_cons, List.drop_zero]
    iterate 13 still_step
    refine wpStill_nil ?_
    change wpList _ _ _ _ _ w6.drew
    have f66 := HH.out.drew.free 66
    replace c66 : w6.drew.cell? ⟨g, 66, none⟩ = some (.int .i64 (a : Int)) := c66
    replace HO := Lib.hid (HO.out.drew.setCell 66 (.int .i64 (a2 : Int)))
    replace HH := Lib.hid (HH.out.drew.put 66 (.int .i64 (a2 : Int)))
    rw [roll5_put66 _ _ _ _ _ _ _ HP.out] at HH
    have H7 : Hid (∀ w7, w7 = w6.drew.setCell ⟨g, 66, none⟩ (.int .i64 (a2 : Int)) → w7.cell? ⟨g, 68, none⟩ = some (.int .u64 (s2 : Int))) := Lib.hid (by rintro _ rfl; exact HH.out.cellv (roll5_68 _ _ _ _ _ _ HP.out))
    clear c64 k1 k2 k3 k4
    generalize w6.drew = w7 at *
    go_upto_region 7 with (fail)
    have c68 := H7.out _ rfl
    clear c66 f66 H7
    generalize w7.setCell ⟨g, 66, none⟩ (.int .i64 (a2 : Int)) = w8 at *
    go_wp2_with fail
    go_ret
    refine ⟨rfl, ⟨_, HR.out, ?_⟩, HO.out⟩
    have := HH.out
    rw [HE.out (a2 : Int) rfl] at this
    exact this
end Go.Proofs.YthpledfjopbchaaDoor
