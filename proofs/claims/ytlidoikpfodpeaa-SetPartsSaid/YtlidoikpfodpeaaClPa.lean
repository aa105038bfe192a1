/- What is taken away and put in again is as it was, if it was there (SetParts). No condition: every two slices of sums, whatever their spare room; the law returns true and leaves both as they were. -/
import Derived.Test.YtlidoikpfodpeaaBase1
import Derived.Test.YtlidoikpfodpeaaRows
import Derived.ProofKit
import Derived.OpenShut
/- The law SetParts returns true, whatever its sets. No condition but that what comes in lies in memory. -/
namespace Go.Proofs.Ytlidoikpfodpeaa
open Go.RowKit
set_option maxHeartbeats 16000000 in
set_option maxRecDepth 100000 in
theorem setParts_any (A B : List Su) (qa qb : Option Addr) (ca cb : Nat) (w : World) (ha : Sees w w.heap.size qa (rowU A)) (hb : Sees w w.heap.size qb (rowU B)) :
    Calls Try.prog 4 #[.slice qa A.length ca, .slice qb B.length cb] w fun e w' => e = .returned (.bool true) ∧ Below w.heap.size w w' := by
  obtain ⟨na, hna⟩ : ∃ n, A.length = n := ⟨_, rfl⟩
  obtain ⟨nb, hnb⟩ : ∃ n, B.length = n := ⟨_, rfl⟩
  have HSA : Hid (∀ w', Below w.heap.size w w' → A.length = na ∧ Sees w' w'.heap.size qa (rowU A)) := Lib.hid (fun w' h => ⟨hna, (ha.keep h).more h.size⟩)
  have HSB : Hid (∀ w', Below w.heap.size w w' → B.length = nb ∧ Sees w' w'.heap.size qb (rowU B)) := Lib.hid (fun w' h => ⟨hnb, (hb.keep h).more h.size⟩)
  have HNA := Lib.hid hna
  have HNB := Lib.hid hnb
  have HAW := Lib.hid (fun w1 => awake10_any w1)
  rw [hna, hnb]
  clear ha hb hna hnb
  go_enter Try.func4, Try.ntmps4
  go_upto_region 3 with ((with_reducible refine (HAW.out _).mono ?_); rintro e w0 ⟨rfl, h2⟩; have HB := Lib.hid h2; clear h2)
  by_cases hna : na ≤ 60
  · by_cases hnb : nb ≤ 60
    · have ka : ¬ (60 : Int) < (na : Int) := by omega
      have kb : ¬ (60 : Int) < (nb : Int) := by omega
      have t0 : True := trivial
      go_upto_region 8 with (first
    | (have t1 := t0; clear t0; (with_reducible refine Calls.mono (u_row (HSA.out _ HB.out) (by omega)) ?_); rintro e x1 ⟨⟨q_ra, n_ra, c_ra, rfl, h1⟩, h2⟩; have U_ra := Lib.hid h1; replace HB := Lib.hid (HB.out.trans (h2.mono HB.out.size)); have b_ra : n_ra ≤ na := (by have e := U_ra.out.len; have l := HNA.out; omega); clear h1 h2)
    | (have t2 := t1; clear t1; (with_reducible refine Calls.mono (u_of U_ra.out (by omega)) ?_); rintro e x2 ⟨⟨q_P, n_P, c_P, rfl, h1⟩, h2⟩; have U_P := Lib.hid h1; replace U_ra := Lib.hid (U_ra.out.keep h2); replace HB := Lib.hid (HB.out.trans (h2.mono HB.out.size)); have b_P : n_P ≤ na := (by have e := U_P.out.len; have l := len_srt_le A; have e0 := HNA.out; omega); clear h1 h2)
    | (have t3 := t2; clear t2; (with_reducible refine Calls.mono (u_row (HSB.out _ HB.out) (by omega)) ?_); rintro e x3 ⟨⟨q_rb, n_rb, c_rb, rfl, h1⟩, h2⟩; have U_rb := Lib.hid h1; replace U_P := Lib.hid (U_P.out.keep h2); replace HB := Lib.hid (HB.out.trans (h2.mono HB.out.size)); have b_rb : n_rb ≤ nb := (by have e := U_rb.out.len; have l := HNB.out; omega); clear h1 h2)
    | (have t4 := t3; clear t3; (with_reducible refine Calls.mono (u_of U_rb.out (by omega)) ?_); rintro e x4 ⟨⟨q_Q, n_Q, c_Q, rfl, h1⟩, h2⟩; have U_Q := Lib.hid h1; replace U_P := Lib.hid (U_P.out.keep h2); replace U_rb := Lib.hid (U_rb.out.keep h2); replace HB := Lib.hid (HB.out.trans (h2.mono HB.out.size)); have b_Q : n_Q ≤ nb := (by have e := U_Q.out.len; have l := len_srt_le B; have e0 := HNB.out; omega); clear h1 h2)
    | (have t5 := t4; clear t4; (with_reducible refine Calls.mono (u_minus U_P.out U_Q.out (by omega) (by omega)) ?_); rintro e x5 ⟨⟨q_M, n_M, c_M, rfl, h1⟩, h2⟩; have U_M := Lib.hid h1; replace U_P := Lib.hid (U_P.out.keep h2); replace U_Q := Lib.hid (U_Q.out.keep h2); replace HB := Lib.hid (HB.out.trans (h2.mono HB.out.size)); have b_M : n_M ≤ n_P := (by have e := U_M.out.len; have l := len_minU (srt A) (srt B); have e0 := U_P.out.len; omega); clear h1 h2))
      have HHAS : Hid (∀ (i : Nat) (hi : i < (srt B).length) (wx : World), U wx q_M n_M c_M (minU (srt A) (srt B)) → Tells Try.prog 13 #[.slice q_M n_M c_M, .agg (encU (srt B)[i]).toArray] wx false) := Lib.hid (fun i hi wx hu => u_has hu (by omega) false (by rw [decide_eq_false (fun hm => (mem_minU.1 hm).2 (List.getElem_mem hi)), Bool.and_false]))
      have HLQ : Hid ((srt B).length = n_Q) := Lib.hid U_Q.out.len
      obtain ⟨wl, hwl⟩ : ∃ wl, wl = x5 := ⟨_, rfl⟩
      have HBL : Hid (Below x5.heap.size x5 wl) := Lib.hid (by subst hwl; exact Below.refl _ _)
      rw [← hwl]
      clear hwl
      go_wp2_with fail
      go_loopw [8] (fun v wr => ∃ i : Nat, i ≤ n_Q ∧ v = .int .i64 i ∧ Below x5.heap.size x5 wr) (fun v _ => n_Q - (intOf v).toNat)
      case atStart => exact ⟨0, by omega, rfl, HBL.out⟩
      case round =>
        clear HBL
        rename_i wr
        obtain ⟨i, hi, rfl, hB⟩ := hrel
        have HBI := Lib.hid hB
        clear hB
        by_cases hlt : i < n_Q
        · have hiL : i < (srt B).length := by rw [HLQ.out]; exact hlt
          obtain ⟨a, rfl, _, hc⟩ := Ss.el U_Q.out.2.2.2 hiL
          have HC := Lib.hid (hc wr HBI.out)
          have HH := Lib.hid (HHAS.out i hiL wr (U_M.out.keep HBI.out))
          generalize (srt B)[i] = y at *
          have k1 : (i : Int) < (n_Q : Int) := by omega
          clear hc
          go_wp2_with (first
            | (refine wpList_load_su rfl 34 (.tmp 37) rfl _ rfl elSum.2.1 szSum y HC.out ?_)
            | ((with_reducible refine Calls.mono HH.out ?_); rintro e w9 ⟨rfl, h2⟩; have HB9 := Lib.hid (HBI.out.trans (h2.mono HBI.out.size)); clear h2))
          go_roundw
          case rel => exact ⟨i + 1, by omega, by go_num, HB9.out⟩
          case measure => simp [intOf]; omega
        · have k1 : ¬ (i : Int) < (n_Q : Int) := by omega
          replace U_P := Lib.hid (U_P.out.keep HBI.out)
          replace U_Q := Lib.hid (U_Q.out.keep HBI.out)
          replace U_M := Lib.hid (U_M.out.keep HBI.out)
          replace HB := Lib.hid (HB.out.trans (HBI.out.mono HB.out.size))
          clear HBI HHAS hlt
          go_wp2_with (first
    | (have t6 := t5; clear t5; (with_reducible refine Calls.mono (u_both U_P.out U_Q.out (by omega) (by omega)) ?_); rintro e x6 ⟨⟨q_f1, n_f1, c_f1, rfl, h1⟩, h2⟩; have U_f1 := Lib.hid h1; replace U_P := Lib.hid (U_P.out.keep h2); replace U_Q := Lib.hid (U_Q.out.keep h2); replace U_M := Lib.hid (U_M.out.keep h2); replace HB := Lib.hid (HB.out.trans (h2.mono HB.out.size)); have b_f1 : n_f1 ≤ n_P := (by have e := U_f1.out.len; have l := len_botU (srt A) (srt B); have e0 := U_P.out.len; omega); clear h1 h2)
    | (have t7 := t6; clear t6; (with_reducible refine Calls.mono (u_either U_M.out U_f1.out (by omega) (by omega)) ?_); rintro e x7 ⟨⟨q_f2, n_f2, c_f2, rfl, h1⟩, h2⟩; have U_f2 := Lib.hid h1; replace U_P := Lib.hid (U_P.out.keep h2); replace U_Q := Lib.hid (U_Q.out.keep h2); replace U_M := Lib.hid (U_M.out.keep h2); replace U_f1 := Lib.hid (U_f1.out.keep h2); replace HB := Lib.hid (HB.out.trans (h2.mono HB.out.size)); have b_f2 : n_f2 ≤ n_M + n_f1 := (by have e := U_f2.out.len; have l := len_eitU (minU (srt A) (srt B)) (botU (srt A) (srt B)); have e0 := U_M.out.len; have e1 := U_f1.out.len; omega); clear h1 h2)
    | (have t8 := t7; clear t7; (with_reducible refine Calls.mono (u_same U_f2.out U_P.out (by omega) true (same_true (asc_eitU _ _) (by have e := U_f2.out.len; omega) (sl2 (asc_srt A) _))) ?_); rintro e x8 ⟨rfl, h2⟩; replace U_P := Lib.hid (U_P.out.keep h2); replace U_Q := Lib.hid (U_Q.out.keep h2); replace U_M := Lib.hid (U_M.out.keep h2); replace U_f1 := Lib.hid (U_f1.out.keep h2); replace U_f2 := Lib.hid (U_f2.out.keep h2); replace HB := Lib.hid (HB.out.trans (h2.mono HB.out.size)); clear h2)
    | (have t9 := t8; clear t8; (with_reducible refine Calls.mono (u_minus U_M.out U_Q.out (by omega) (by omega)) ?_); rintro e x9 ⟨⟨q_f3, n_f3, c_f3, rfl, h1⟩, h2⟩; have U_f3 := Lib.hid h1; replace U_P := Lib.hid (U_P.out.keep h2); replace U_Q := Lib.hid (U_Q.out.keep h2); replace U_M := Lib.hid (U_M.out.keep h2); replace HB := Lib.hid (HB.out.trans (h2.mono HB.out.size)); have b_f3 : n_f3 ≤ n_M := (by have e := U_f3.out.len; have l := len_minU (minU (srt A) (srt B)) (srt B); have e0 := U_M.out.len; omega); clear h1 h2)
    | (have t10 := t9; clear t9; (with_reducible refine Calls.mono (u_same U_f3.out U_M.out (by omega) true (same_true (asc_minU _ _) (by have e := U_f3.out.len; omega) (sl7 _ _))) ?_); rintro e x10 ⟨rfl, h2⟩; replace U_P := Lib.hid (U_P.out.keep h2); replace U_Q := Lib.hid (U_Q.out.keep h2); replace U_M := Lib.hid (U_M.out.keep h2); replace U_f3 := Lib.hid (U_f3.out.keep h2); replace HB := Lib.hid (HB.out.trans (h2.mono HB.out.size)); clear h2)
    | (have t11 := t10; clear t10; (with_reducible refine Calls.mono (u_minus U_P.out U_P.out (by omega) (by omega)) ?_); rintro e x11 ⟨⟨q_f4, n_f4, c_f4, rfl, h1⟩, h2⟩; have U_f4 := Lib.hid h1; replace U_P := Lib.hid (U_P.out.keep h2); replace U_Q := Lib.hid (U_Q.out.keep h2); replace U_M := Lib.hid (U_M.out.keep h2); replace HB := Lib.hid (HB.out.trans (h2.mono HB.out.size)); have b_f4 : n_f4 = 0 := (by have e := U_f4.out.len; rw [sl8] at e; exact e.symm); subst b_f4; clear h1 h2)
    | (have t12 := t11; clear t11; (with_reducible refine Calls.mono (u_both U_P.out U_P.out (by omega) (by omega)) ?_); rintro e x12 ⟨⟨q_f5, n_f5, c_f5, rfl, h1⟩, h2⟩; have U_f5 := Lib.hid h1; replace U_P := Lib.hid (U_P.out.keep h2); replace U_Q := Lib.hid (U_Q.out.keep h2); replace U_M := Lib.hid (U_M.out.keep h2); replace HB := Lib.hid (HB.out.trans (h2.mono HB.out.size)); have b_f5 : n_f5 ≤ n_P := (by have e := U_f5.out.len; have l := len_botU (srt A) (srt A); have e0 := U_P.out.len; omega); clear h1 h2)
    | (have t13 := t12; clear t12; (with_reducible refine Calls.mono (u_same U_f5.out U_P.out (by omega) true (same_true (asc_botU _ _) (by have e := U_f5.out.len; omega) (sl9 (asc_srt A)))) ?_); rintro e x13 ⟨rfl, h2⟩; replace U_P := Lib.hid (U_P.out.keep h2); replace U_Q := Lib.hid (U_Q.out.keep h2); replace U_M := Lib.hid (U_M.out.keep h2); replace U_f5 := Lib.hid (U_f5.out.keep h2); replace HB := Lib.hid (HB.out.trans (h2.mono HB.out.size)); clear h2))
          go_ret
          exact ⟨rfl, HB.out⟩
    · have ka : ¬ (60 : Int) < (na : Int) := by omega
      have kb : (60 : Int) < (nb : Int) := by omega
      go_wp2_with fail
      go_ret
      exact ⟨rfl, HB.out⟩
  · have ka : (60 : Int) < (na : Int) := by omega
    go_wp2_with fail
    go_ret
    exact ⟨rfl, HB.out⟩
end Go.Proofs.Ytlidoikpfodpeaa
namespace Go.Proofs.Ytlidoikpfodpeaa
open Go.ChangeShapes Go.WideShapes Go.ChangeAt Go.RowKit
set_option maxRecDepth 100000 in
theorem setParts_lifted (os : Os) (started : os.Started) (H : Type) (enc : TypeId × Value → H) :
    ReturnsInHanded {} Try.checked os 4 .any (Rows.setPartsSpec.pre6 enc Try.prog Try.f4 Rows.setPartsRow.domain false) (Rows.setPartsSpec.post enc Try.prog Try.f4 false true false false) := by
  refine returnsInHanded_of_change (C := Try.checked) own started (by kernel_rfl) Try.func4
    (ChangeSpec.witness6 (enc := enc) (C := Try.checked) false ⟨#[], #[.slice none 0 0, .slice none 0 0], []⟩ 8 (by kernel_rfl) (by kernel_rfl) (by kernel_rfl) (by kernel_rfl)) ?_
  intro W base args ds gs before hval0 hW _ _
  have hval : ∀ (j : Nat) t v, Try.f4.params[j]? = some t → args[j]? = some v → Value.okWide Try.prog W .any base t v := hval0
  have hW' := hW
  obtain ⟨p, q, hA0, hV, rfl, hfz, hnd⟩ := hW
  have hA : DataW.TrodAll enc Try.prog W 0 (fun _ => true) true Try.f4.params.toList args.toList ds p := hA0
  rw [Try.params4] at hA hval
  obtain ⟨v0, vs0, d0, ds0, p0, g0, hargs, rfl, rfl, h0, r0⟩ := trodAll_cons hA
  obtain ⟨v1, vs1, d1, ds1, p1, g1, rfl, rfl, rfl, h1, r1⟩ := trodAll_cons r0
  obtain ⟨rfl, rfl, rfl⟩ := trodAll_nil r1
  obtain rfl : args = #[v0, v1] := by cases args; simp_all
  obtain ⟨rfl, rfl⟩ := trodVars_none hV
  have k0 := h0
  have lt0 : ∀ x ∈ p0, x.block < W.heap.size := by obtain ⟨m, hm⟩ := k0; exact DataW.trod_lt m _ _ _ hm
  obtain ⟨l0, q0, c0, rfl, hc0, hq0, hs0⟩ := open_sus (hval 0 22 v0 rfl rfl) h0
  have k1 := h1
  have lt1 : ∀ x ∈ p1, x.block < W.heap.size := by obtain ⟨m, hm⟩ := k1; exact DataW.trod_lt m _ _ _ hm
  obtain ⟨l1, q1, c1, rfl, hc1, hq1, hs1⟩ := open_sus (hval 1 22 v1 rfl rfl) h1
  clear hA0 hval0
  refine (setParts_any l0 l1 q0 q1 c0 c1 W hs0 hs1).mono fun e W' ⟨he, bel⟩ => ?_
  subst he
  exact ⟨_, rfl, _, _, _, [], _, [], hW', trodAll_mk1 (shut_bool Try.underlying4 _), (trodAll_cons_mk (Below.trod laidOut (by kernel_rfl) (of_decide_eq_true (by kernel_rfl)) k0 bel lt0) (trodAll_cons_mk (Below.trod laidOut (by kernel_rfl) (of_decide_eq_true (by kernel_rfl)) k1 bel lt1) trodAll_mk0)), rfl, bel.frame _, fun h => by cases h⟩
theorem setParts_holds : Rows.SetPartsSaid :=
  OpenClaim.holds_of_wide 4 Try.f4 rfl rfl rfl rfl rfl rfl rfl ⟨rfl, rfl, rfl, rfl, rfl⟩ rfl rfl rfl rfl rfl (by kernel_rfl) Try.func4 (by kernel_rfl)
    (of_decide_eq_true (by kernel_rfl)) (by unfold Func.isWrapper; first | (rw [if_pos (by decide +kernel)]; kernel_rfl) | (rw [if_neg (by decide +kernel)]; exact ⟨rfl, rfl⟩))
    (fun os started H enc _ => setParts_lifted os started H enc)
#print axioms setParts_holds
end Go.Proofs.Ytlidoikpfodpeaa
