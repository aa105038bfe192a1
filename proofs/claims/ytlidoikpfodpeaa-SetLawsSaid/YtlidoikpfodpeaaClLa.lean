/- What one set has more, what both have, what the other has more, are apart, and together all (SetLaws). No condition: every two slices of sums, whatever their spare room; the law returns true and leaves both as they were. -/
import Derived.Test.YtlidoikpfodpeaaBase1
import Derived.Test.YtlidoikpfodpeaaRows
import Derived.ProofKit
import Derived.OpenShut
/- The law SetLaws returns true, whatever its sets. No condition but that what comes in lies in memory. -/
namespace Go.Proofs.Ytlidoikpfodpeaa
open Go.RowKit
set_option maxHeartbeats 16000000 in
set_option maxRecDepth 100000 in
theorem setLaws_any (A B : List Su) (qa qb : Option Addr) (ca cb : Nat) (w : World) (ha : Sees w w.heap.size qa (rowU A)) (hb : Sees w w.heap.size qb (rowU B)) :
    Calls Try.prog 3 #[.slice qa A.length ca, .slice qb B.length cb] w fun e w' => e = .returned (.bool true) ∧ Below w.heap.size w w' := by
  obtain ⟨na, hna⟩ : ∃ n, A.length = n := ⟨_, rfl⟩
  obtain ⟨nb, hnb⟩ : ∃ n, B.length = n := ⟨_, rfl⟩
  have HSA : Hid (∀ w', Below w.heap.size w w' → A.length = na ∧ Sees w' w'.heap.size qa (rowU A)) := Lib.hid (fun w' h => ⟨hna, (ha.keep h).more h.size⟩)
  have HSB : Hid (∀ w', Below w.heap.size w w' → B.length = nb ∧ Sees w' w'.heap.size qb (rowU B)) := Lib.hid (fun w' h => ⟨hnb, (hb.keep h).more h.size⟩)
  have HNA := Lib.hid hna
  have HNB := Lib.hid hnb
  have HAW := Lib.hid (fun w1 => awake10_any w1)
  rw [hna, hnb]
  clear ha hb hna hnb
  go_enter Try.func3, Try.ntmps3
  go_upto_region 3 with ((with_reducible refine (HAW.out _).mono ?_); rintro e w0 ⟨rfl, h2⟩; have HB := Lib.hid h2; clear h2)
  by_cases hna : na ≤ 120
  · by_cases hnb : nb ≤ 120
    · have ka : ¬ (120 : Int) < (na : Int) := by omega
      have kb : ¬ (120 : Int) < (nb : Int) := by omega
      have t0 : True := trivial
      go_upto_region 8 with (first
    | (have t1 := t0; clear t0; (with_reducible refine Calls.mono (u_row (HSA.out _ HB.out) (by omega)) ?_); rintro e x1 ⟨⟨q_ra, n_ra, c_ra, rfl, h1⟩, h2⟩; have U_ra := Lib.hid h1; replace HB := Lib.hid (HB.out.trans (h2.mono HB.out.size)); have b_ra : n_ra ≤ na := (by have e := U_ra.out.len; have l := HNA.out; omega); clear h1 h2)
    | (have t2 := t1; clear t1; (with_reducible refine Calls.mono (u_of U_ra.out (by omega)) ?_); rintro e x2 ⟨⟨q_P, n_P, c_P, rfl, h1⟩, h2⟩; have U_P := Lib.hid h1; replace U_ra := Lib.hid (U_ra.out.keep h2); replace HB := Lib.hid (HB.out.trans (h2.mono HB.out.size)); have b_P : n_P ≤ na := (by have e := U_P.out.len; have l := len_srt_le A; have e0 := HNA.out; omega); clear h1 h2)
    | (have t3 := t2; clear t2; (with_reducible refine Calls.mono (u_row (HSB.out _ HB.out) (by omega)) ?_); rintro e x3 ⟨⟨q_rb, n_rb, c_rb, rfl, h1⟩, h2⟩; have U_rb := Lib.hid h1; replace U_P := Lib.hid (U_P.out.keep h2); replace HB := Lib.hid (HB.out.trans (h2.mono HB.out.size)); have b_rb : n_rb ≤ nb := (by have e := U_rb.out.len; have l := HNB.out; omega); clear h1 h2)
    | (have t4 := t3; clear t3; (with_reducible refine Calls.mono (u_of U_rb.out (by omega)) ?_); rintro e x4 ⟨⟨q_Q, n_Q, c_Q, rfl, h1⟩, h2⟩; have U_Q := Lib.hid h1; replace U_P := Lib.hid (U_P.out.keep h2); replace U_rb := Lib.hid (U_rb.out.keep h2); replace HB := Lib.hid (HB.out.trans (h2.mono HB.out.size)); have b_Q : n_Q ≤ nb := (by have e := U_Q.out.len; have l := len_srt_le B; have e0 := HNB.out; omega); clear h1 h2)
    | (have t5 := t4; clear t4; (with_reducible refine Calls.mono (u_minus U_P.out U_Q.out (by omega) (by omega)) ?_); rintro e x5 ⟨⟨q_X, n_X, c_X, rfl, h1⟩, h2⟩; have U_X := Lib.hid h1; replace U_P := Lib.hid (U_P.out.keep h2); replace U_Q := Lib.hid (U_Q.out.keep h2); replace HB := Lib.hid (HB.out.trans (h2.mono HB.out.size)); have b_X : n_X ≤ n_P := (by have e := U_X.out.len; have l := len_minU (srt A) (srt B); have e0 := U_P.out.len; omega); clear h1 h2)
    | (have t6 := t5; clear t5; (with_reducible refine Calls.mono (u_both U_P.out U_Q.out (by omega) (by omega)) ?_); rintro e x6 ⟨⟨q_Y, n_Y, c_Y, rfl, h1⟩, h2⟩; have U_Y := Lib.hid h1; replace U_P := Lib.hid (U_P.out.keep h2); replace U_Q := Lib.hid (U_Q.out.keep h2); replace U_X := Lib.hid (U_X.out.keep h2); replace HB := Lib.hid (HB.out.trans (h2.mono HB.out.size)); have b_Y : n_Y ≤ n_P := (by have e := U_Y.out.len; have l := len_botU (srt A) (srt B); have e0 := U_P.out.len; omega); clear h1 h2)
    | (have t7 := t6; clear t6; (with_reducible refine Calls.mono (u_minus U_Q.out U_P.out (by omega) (by omega)) ?_); rintro e x7 ⟨⟨q_Z, n_Z, c_Z, rfl, h1⟩, h2⟩; have U_Z := Lib.hid h1; replace U_P := Lib.hid (U_P.out.keep h2); replace U_Q := Lib.hid (U_Q.out.keep h2); replace U_X := Lib.hid (U_X.out.keep h2); replace U_Y := Lib.hid (U_Y.out.keep h2); replace HB := Lib.hid (HB.out.trans (h2.mono HB.out.size)); have b_Z : n_Z ≤ n_Q := (by have e := U_Z.out.len; have l := len_minU (srt B) (srt A); have e0 := U_Q.out.len; omega); clear h1 h2)
    | (have t8 := t7; clear t7; (with_reducible refine Calls.mono (u_either U_P.out U_Q.out (by omega) (by omega)) ?_); rintro e x8 ⟨⟨q_All, n_All, c_All, rfl, h1⟩, h2⟩; have U_All := Lib.hid h1; replace U_P := Lib.hid (U_P.out.keep h2); replace U_Q := Lib.hid (U_Q.out.keep h2); replace U_X := Lib.hid (U_X.out.keep h2); replace U_Y := Lib.hid (U_Y.out.keep h2); replace U_Z := Lib.hid (U_Z.out.keep h2); replace HB := Lib.hid (HB.out.trans (h2.mono HB.out.size)); have b_All : n_All ≤ n_P + n_Q := (by have e := U_All.out.len; have l := len_eitU (srt A) (srt B); have e0 := U_P.out.len; have e1 := U_Q.out.len; omega); clear h1 h2))
      have hsum : (n_X : Int) + (n_Y : Int) + (n_Z : Int) = (n_All : Int) := by
        have h := len_apart (B := srt B) (asc_srt A)
        have e1 := U_X.out.len; have e2 := U_Y.out.len; have e3 := U_Z.out.len; have e4 := U_All.out.len
        omega
      have hsum1 : IntKind.i64.wrap ((n_X : Int) + (n_Y : Int)) = (n_X : Int) + (n_Y : Int) := IntWalk.i64_in _ (by omega)
      have hsum2 : IntKind.i64.wrap ((n_All : Int)) = (n_All : Int) := IntWalk.i64_in _ (by omega)
      have hlen : ∀ (S T : List Su) (n : Nat), S.length = n → n ≤ 400 → S.length ≤ 512 := fun S T n h1 h2 => by omega
      have HLE := Lib.hid hlen
      clear hlen
      go_wp2_with (first
    | (have t9 := t8; clear t8; (with_reducible refine Calls.mono (u_either U_X.out U_Y.out (by omega) (by omega)) ?_); rintro e x9 ⟨⟨q_e1, n_e1, c_e1, rfl, h1⟩, h2⟩; have U_e1 := Lib.hid h1; replace U_P := Lib.hid (U_P.out.keep h2); replace U_Q := Lib.hid (U_Q.out.keep h2); replace U_X := Lib.hid (U_X.out.keep h2); replace U_Y := Lib.hid (U_Y.out.keep h2); replace U_Z := Lib.hid (U_Z.out.keep h2); replace U_All := Lib.hid (U_All.out.keep h2); replace HB := Lib.hid (HB.out.trans (h2.mono HB.out.size)); have b_e1 : n_e1 ≤ n_X + n_Y := (by have e := U_e1.out.len; have l := len_eitU (minU (srt A) (srt B)) (botU (srt A) (srt B)); have e0 := U_X.out.len; have e1 := U_Y.out.len; omega); clear h1 h2)
    | (have t10 := t9; clear t9; (with_reducible refine Calls.mono (u_either U_e1.out U_Z.out (by omega) (by omega)) ?_); rintro e x10 ⟨⟨q_e2, n_e2, c_e2, rfl, h1⟩, h2⟩; have U_e2 := Lib.hid h1; replace U_P := Lib.hid (U_P.out.keep h2); replace U_Q := Lib.hid (U_Q.out.keep h2); replace U_X := Lib.hid (U_X.out.keep h2); replace U_Y := Lib.hid (U_Y.out.keep h2); replace U_Z := Lib.hid (U_Z.out.keep h2); replace U_All := Lib.hid (U_All.out.keep h2); replace U_e1 := Lib.hid (U_e1.out.keep h2); replace HB := Lib.hid (HB.out.trans (h2.mono HB.out.size)); have b_e2 : n_e2 ≤ n_e1 + n_Z := (by have e := U_e2.out.len; have l := len_eitU (eitU (minU (srt A) (srt B)) (botU (srt A) (srt B))) (minU (srt B) (srt A)); have e0 := U_e1.out.len; have e1 := U_Z.out.len; omega); clear h1 h2)
    | (have t11 := t10; clear t10; (with_reducible refine Calls.mono (u_same U_e2.out U_All.out (by omega) true (same_true (asc_eitU _ _) (by have e := U_e2.out.len; omega) (sl1 _ _))) ?_); rintro e x11 ⟨rfl, h2⟩; replace U_P := Lib.hid (U_P.out.keep h2); replace U_Q := Lib.hid (U_Q.out.keep h2); replace U_X := Lib.hid (U_X.out.keep h2); replace U_Y := Lib.hid (U_Y.out.keep h2); replace U_Z := Lib.hid (U_Z.out.keep h2); replace U_All := Lib.hid (U_All.out.keep h2); replace U_e1 := Lib.hid (U_e1.out.keep h2); replace U_e2 := Lib.hid (U_e2.out.keep h2); replace HB := Lib.hid (HB.out.trans (h2.mono HB.out.size)); clear h2)
    | (have t12 := t11; clear t11; (with_reducible refine Calls.mono (u_either U_X.out U_Y.out (by omega) (by omega)) ?_); rintro e x12 ⟨⟨q_e3, n_e3, c_e3, rfl, h1⟩, h2⟩; have U_e3 := Lib.hid h1; replace U_P := Lib.hid (U_P.out.keep h2); replace U_Q := Lib.hid (U_Q.out.keep h2); replace U_X := Lib.hid (U_X.out.keep h2); replace U_Y := Lib.hid (U_Y.out.keep h2); replace U_Z := Lib.hid (U_Z.out.keep h2); replace U_All := Lib.hid (U_All.out.keep h2); replace HB := Lib.hid (HB.out.trans (h2.mono HB.out.size)); have b_e3 : n_e3 ≤ n_X + n_Y := (by have e := U_e3.out.len; have l := len_eitU (minU (srt A) (srt B)) (botU (srt A) (srt B)); have e0 := U_X.out.len; have e1 := U_Y.out.len; omega); clear h1 h2)
    | (have t13 := t12; clear t12; (with_reducible refine Calls.mono (u_same U_e3.out U_P.out (by omega) true (same_true (asc_eitU _ _) (by have e := U_e3.out.len; omega) (sl2 (asc_srt A) _))) ?_); rintro e x13 ⟨rfl, h2⟩; replace U_P := Lib.hid (U_P.out.keep h2); replace U_Q := Lib.hid (U_Q.out.keep h2); replace U_X := Lib.hid (U_X.out.keep h2); replace U_Y := Lib.hid (U_Y.out.keep h2); replace U_Z := Lib.hid (U_Z.out.keep h2); replace U_All := Lib.hid (U_All.out.keep h2); replace U_e3 := Lib.hid (U_e3.out.keep h2); replace HB := Lib.hid (HB.out.trans (h2.mono HB.out.size)); clear h2)
    | (have t14 := t13; clear t13; (with_reducible refine Calls.mono (u_both U_X.out U_Q.out (by omega) (by omega)) ?_); rintro e x14 ⟨⟨q_e4, n_e4, c_e4, rfl, h1⟩, h2⟩; have U_e4 := Lib.hid h1; replace U_P := Lib.hid (U_P.out.keep h2); replace U_Q := Lib.hid (U_Q.out.keep h2); replace U_X := Lib.hid (U_X.out.keep h2); replace U_Y := Lib.hid (U_Y.out.keep h2); replace U_Z := Lib.hid (U_Z.out.keep h2); replace U_All := Lib.hid (U_All.out.keep h2); replace HB := Lib.hid (HB.out.trans (h2.mono HB.out.size)); have b_e4 : n_e4 = 0 := (by have e := U_e4.out.len; rw [sl3] at e; exact e.symm); subst b_e4; clear h1 h2)
    | (have t15 := t14; clear t14; (with_reducible refine Calls.mono (u_both U_Q.out U_P.out (by omega) (by omega)) ?_); rintro e x15 ⟨⟨q_e5, n_e5, c_e5, rfl, h1⟩, h2⟩; have U_e5 := Lib.hid h1; replace U_P := Lib.hid (U_P.out.keep h2); replace U_Q := Lib.hid (U_Q.out.keep h2); replace U_X := Lib.hid (U_X.out.keep h2); replace U_Y := Lib.hid (U_Y.out.keep h2); replace U_Z := Lib.hid (U_Z.out.keep h2); replace U_All := Lib.hid (U_All.out.keep h2); replace HB := Lib.hid (HB.out.trans (h2.mono HB.out.size)); clear h1 h2)
    | (have t16 := t15; clear t15; (with_reducible refine Calls.mono (u_same U_Y.out U_e5.out (by omega) true (same_true (asc_botU _ _) (by have e := U_Y.out.len; omega) (sl4 _ _))) ?_); rintro e x16 ⟨rfl, h2⟩; replace U_P := Lib.hid (U_P.out.keep h2); replace U_Q := Lib.hid (U_Q.out.keep h2); replace U_X := Lib.hid (U_X.out.keep h2); replace U_Y := Lib.hid (U_Y.out.keep h2); replace U_Z := Lib.hid (U_Z.out.keep h2); replace U_All := Lib.hid (U_All.out.keep h2); replace U_e5 := Lib.hid (U_e5.out.keep h2); replace HB := Lib.hid (HB.out.trans (h2.mono HB.out.size)); clear h2)
    | (have t17 := t16; clear t16; (with_reducible refine Calls.mono (u_either U_Q.out U_P.out (by omega) (by omega)) ?_); rintro e x17 ⟨⟨q_e6, n_e6, c_e6, rfl, h1⟩, h2⟩; have U_e6 := Lib.hid h1; replace U_P := Lib.hid (U_P.out.keep h2); replace U_Q := Lib.hid (U_Q.out.keep h2); replace U_X := Lib.hid (U_X.out.keep h2); replace U_Y := Lib.hid (U_Y.out.keep h2); replace U_Z := Lib.hid (U_Z.out.keep h2); replace U_All := Lib.hid (U_All.out.keep h2); replace HB := Lib.hid (HB.out.trans (h2.mono HB.out.size)); have b_e6 : n_e6 ≤ n_Q + n_P := (by have e := U_e6.out.len; have l := len_eitU (srt B) (srt A); have e0 := U_Q.out.len; have e1 := U_P.out.len; omega); clear h1 h2)
    | (have t18 := t17; clear t17; (with_reducible refine Calls.mono (u_same U_All.out U_e6.out (by omega) true (same_true (asc_eitU _ _) (by have e := U_All.out.len; omega) (sl5 _ _))) ?_); rintro e x18 ⟨rfl, h2⟩; replace U_P := Lib.hid (U_P.out.keep h2); replace U_Q := Lib.hid (U_Q.out.keep h2); replace U_X := Lib.hid (U_X.out.keep h2); replace U_Y := Lib.hid (U_Y.out.keep h2); replace U_Z := Lib.hid (U_Z.out.keep h2); replace U_All := Lib.hid (U_All.out.keep h2); replace U_e6 := Lib.hid (U_e6.out.keep h2); replace HB := Lib.hid (HB.out.trans (h2.mono HB.out.size)); clear h2)
    | (have t19 := t18; clear t18; (with_reducible refine Calls.mono (u_good U_All.out (by omega) true (goodU_of (asc_eitU _ _) (by have e := U_All.out.len; omega))) ?_); rintro e x19 ⟨rfl, h2⟩; replace U_P := Lib.hid (U_P.out.keep h2); replace U_Q := Lib.hid (U_Q.out.keep h2); replace U_X := Lib.hid (U_X.out.keep h2); replace U_Y := Lib.hid (U_Y.out.keep h2); replace U_Z := Lib.hid (U_Z.out.keep h2); replace U_All := Lib.hid (U_All.out.keep h2); replace HB := Lib.hid (HB.out.trans (h2.mono HB.out.size)); clear h2)
    | (have t20 := t19; clear t19; (with_reducible refine Calls.mono (u_minus U_P.out U_X.out (by omega) (by omega)) ?_); rintro e x20 ⟨⟨q_e7, n_e7, c_e7, rfl, h1⟩, h2⟩; have U_e7 := Lib.hid h1; replace U_P := Lib.hid (U_P.out.keep h2); replace U_Q := Lib.hid (U_Q.out.keep h2); replace U_X := Lib.hid (U_X.out.keep h2); replace U_Y := Lib.hid (U_Y.out.keep h2); replace U_Z := Lib.hid (U_Z.out.keep h2); replace U_All := Lib.hid (U_All.out.keep h2); replace HB := Lib.hid (HB.out.trans (h2.mono HB.out.size)); have b_e7 : n_e7 ≤ n_P := (by have e := U_e7.out.len; have l := len_minU (srt A) (minU (srt A) (srt B)); have e0 := U_P.out.len; omega); clear h1 h2)
    | (have t21 := t20; clear t20; (with_reducible refine Calls.mono (u_either U_e7.out U_Z.out (by omega) (by omega)) ?_); rintro e x21 ⟨⟨q_e8, n_e8, c_e8, rfl, h1⟩, h2⟩; have U_e8 := Lib.hid h1; replace U_P := Lib.hid (U_P.out.keep h2); replace U_Q := Lib.hid (U_Q.out.keep h2); replace U_X := Lib.hid (U_X.out.keep h2); replace U_Y := Lib.hid (U_Y.out.keep h2); replace U_Z := Lib.hid (U_Z.out.keep h2); replace U_All := Lib.hid (U_All.out.keep h2); replace U_e7 := Lib.hid (U_e7.out.keep h2); replace HB := Lib.hid (HB.out.trans (h2.mono HB.out.size)); have b_e8 : n_e8 ≤ n_e7 + n_Z := (by have e := U_e8.out.len; have l := len_eitU (minU (srt A) (minU (srt A) (srt B))) (minU (srt B) (srt A)); have e0 := U_e7.out.len; have e1 := U_Z.out.len; omega); clear h1 h2)
    | (have t22 := t21; clear t21; (with_reducible refine Calls.mono (u_same U_e8.out U_Q.out (by omega) true (same_true (asc_eitU _ _) (by have e := U_e8.out.len; omega) (sl6 _ (asc_srt B)))) ?_); rintro e x22 ⟨rfl, h2⟩; replace U_P := Lib.hid (U_P.out.keep h2); replace U_Q := Lib.hid (U_Q.out.keep h2); replace U_X := Lib.hid (U_X.out.keep h2); replace U_Y := Lib.hid (U_Y.out.keep h2); replace U_Z := Lib.hid (U_Z.out.keep h2); replace U_All := Lib.hid (U_All.out.keep h2); replace U_e7 := Lib.hid (U_e7.out.keep h2); replace U_e8 := Lib.hid (U_e8.out.keep h2); replace HB := Lib.hid (HB.out.trans (h2.mono HB.out.size)); clear h2))
      go_ret
      exact ⟨rfl, HB.out⟩
    · have ka : ¬ (120 : Int) < (na : Int) := by omega
      have kb : (120 : Int) < (nb : Int) := by omega
      go_wp2_with fail
      go_ret
      exact ⟨rfl, HB.out⟩
  · have ka : (120 : Int) < (na : Int) := by omega
    go_wp2_with fail
    go_ret
    exact ⟨rfl, HB.out⟩
end Go.Proofs.Ytlidoikpfodpeaa
namespace Go.Proofs.Ytlidoikpfodpeaa
open Go.ChangeShapes Go.WideShapes Go.ChangeAt Go.RowKit
set_option maxRecDepth 100000 in
theorem setLaws_lifted (os : Os) (started : os.Started) (H : Type) (enc : TypeId × Value → H) :
    ReturnsInHanded {} Try.checked os 3 .any (Rows.setLawsSpec.pre6 enc Try.prog Try.f3 Rows.setLawsRow.domain false) (Rows.setLawsSpec.post enc Try.prog Try.f3 false true false false) := by
  refine returnsInHanded_of_change (C := Try.checked) own started (by kernel_rfl) Try.func3
    (ChangeSpec.witness6 (enc := enc) (C := Try.checked) false ⟨#[], #[.slice none 0 0, .slice none 0 0], []⟩ 8 (by kernel_rfl) (by kernel_rfl) (by kernel_rfl) (by kernel_rfl)) ?_
  intro W base args ds gs before hval0 hW _ _
  have hval : ∀ (j : Nat) t v, Try.f3.params[j]? = some t → args[j]? = some v → Value.okWide Try.prog W .any base t v := hval0
  have hW' := hW
  obtain ⟨p, q, hA0, hV, rfl, hfz, hnd⟩ := hW
  have hA : DataW.TrodAll enc Try.prog W 0 (fun _ => true) true Try.f3.params.toList args.toList ds p := hA0
  rw [Try.params3] at hA hval
  obtain ⟨v0, vs0, d0, ds0, p0, g0, hargs, rfl, rfl, h0, r0⟩ := trodAll_cons hA
  obtain ⟨v1, vs1, d1, ds1, p1, g1, rfl, rfl, rfl, h1, r1⟩ := trodAll_cons r0
  obtain ⟨rfl, rfl, rfl⟩ := trodAll_nil r1
  obtain rfl : args = #[v0, v1] := by cases args; simp_all
  obtain ⟨rfl, rfl⟩ := trodVars_none hV
  have k0 := h0
  have lt0 : ∀ x ∈ p0, x.block < W.heap.size := by obtain ⟨m, hm⟩ := k0; exact DataW.trod_lt m _ _ _ hm
  obtain ⟨l0, q0, c0, rfl, hc0, hq0, hs0⟩ := open_sus (hval 0 22 v0 rfl rfl) h0
  have k1 := h1
  have lt1 : ∀ x ∈ p1, x.block < W.heap.size := by obtain ⟨m, hm⟩ := k1; exact DataW.trod_lt m _ _ _ hm
  obtain ⟨l1, q1, c1, rfl, hc1, hq1, hs1⟩ := open_sus (hval 1 22 v1 rfl rfl) h1
  clear hA0 hval0
  refine (setLaws_any l0 l1 q0 q1 c0 c1 W hs0 hs1).mono fun e W' ⟨he, bel⟩ => ?_
  subst he
  exact ⟨_, rfl, _, _, _, [], _, [], hW', trodAll_mk1 (shut_bool Try.underlying4 _), (trodAll_cons_mk (Below.trod laidOut (by kernel_rfl) (of_decide_eq_true (by kernel_rfl)) k0 bel lt0) (trodAll_cons_mk (Below.trod laidOut (by kernel_rfl) (of_decide_eq_true (by kernel_rfl)) k1 bel lt1) trodAll_mk0)), rfl, bel.frame _, fun h => by cases h⟩
theorem setLaws_holds : Rows.SetLawsSaid :=
  OpenClaim.holds_of_wide 3 Try.f3 rfl rfl rfl rfl rfl rfl rfl ⟨rfl, rfl, rfl, rfl, rfl⟩ rfl rfl rfl rfl rfl (by kernel_rfl) Try.func3 (by kernel_rfl)
    (of_decide_eq_true (by kernel_rfl)) (by unfold Func.isWrapper; first | (rw [if_pos (by decide +kernel)]; kernel_rfl) | (rw [if_neg (by decide +kernel)]; exact ⟨rfl, rfl⟩))
    (fun os started H enc _ => setLaws_lifted os started H enc)
#print axioms setLaws_holds
end Go.Proofs.Ytlidoikpfodpeaa
