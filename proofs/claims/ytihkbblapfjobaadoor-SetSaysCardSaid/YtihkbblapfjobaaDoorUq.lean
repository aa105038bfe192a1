/- Contracts: package set's merge with each of its three keeps, Minus, Both, Either, Add. Condition: at most 10^6 sums each. -/
import Derived.Test.YtihkbblapfjobaaDoorUl
namespace Go.Proofs.YtihkbblapfjobaaDoor
open Go.RowKit
/-- The value reads as these sums, in blocks below b. -/
def UsB (b : Nat) (w : World) (v : Value) (L : List Su) : Prop := ∃ q c, v = .slice q L.length c ∧ L.length ≤ c ∧ (q = none → c = 0) ∧ Sees w b q (rowU L)
theorem UsB.keep {b : Nat} {w w' : World} {v : Value} {L : List Su} (h : UsB b w v L) (hb : Below b w w') : UsB b w' v L := by
  obtain ⟨q, c, h1, h2, h3, h4⟩ := h
  exact ⟨q, c, h1, h2, h3, h4.keep hb⟩
theorem Us.b {w : World} {v : Value} {L : List Su} (h : Us w v L) : UsB w.heap.size w v L := h
theorem tl_usB {b : Nat} {w : World} {q : Option Addr} {c : Nat} {L : List Su} (h0 : 0 < L.length) (hc : L.length ≤ c) (hq : q = none → c = 0) (hs : Sees w b q (rowU L)) : UsB b w (.slice (tlQ q c) (L.length - 1) (c - 1)) L.tail := by
  have h1 := Sees.cutU (c := c) (k := 1) hs hc
  rw [Nat.one_mul, List.drop_one] at h1
  refine ⟨tlQ q c, c - 1, by rw [List.length_tail], by rw [List.length_tail]; omega, fun h => ?_, h1⟩
  have := cutU_none (k := 1) (n := 32) hq h
  omega
def lenV (v : Value) : Nat := match v with | .slice _ n _ => n | _ => 0
theorem keepMinus_any (a b : Bool) (w : World) : Calls Tryd.prog 58 #[.bool a, .bool b] w fun e w' => e = .returned (.bool (kMin a b)) ∧ w' = w := by
  cases a <;> cases b <;> (go_enter Tryd.func58, Tryd.ntmps58; go_wp2_with fail; go_ret; exact ⟨rfl, rfl⟩)
set_option maxHeartbeats 16000000 in
set_option maxRecDepth 100000 in
theorem mergeMinus_any (A B : List Su) (qa qb : Option Addr) (ca cb : Nat) (hA : A.length ≤ 1000000) (hB : B.length ≤ 1000000) (hca : A.length ≤ ca) (hcb : B.length ≤ cb) (hqa : qa = none → ca = 0) (hqb : qb = none → cb = 0) (w : World) (ha : Sees w w.heap.size qa (rowU A)) (hb : Sees w w.heap.size qb (rowU B)) :
    Calls Tryd.prog 57 #[.slice qa A.length ca, .slice qb B.length cb, .func (.func 58) #[] #[]] w fun e w' => (∃ v, e = .returned v ∧ OwnU w' w.heap.size 24 v (minU A B)) ∧ Below w.heap.size w w' := by
  have H1 := Lib.hid (inOrder_any A qa ca hA hca hqa w ha)
  have H2 : Hid (∀ w1, Below w.heap.size w w1 → Calls Tryd.prog 62 #[.slice qb B.length cb] w1 fun e w' => (∃ v, e = .returned v ∧ Us w' v (srt B)) ∧ Below w1.heap.size w1 w') := Lib.hid (fun w1 h => inOrder_any B qb cb hB hcb hqb w1 ((hb.keep h).more h.size))
  have hla := len_srt_le A
  have hlb := len_srt_le B
  have HR := Lib.hid (mrg_min A B)
  have HAA := Lib.hid (asc_srt A)
  have HAB := Lib.hid (asc_srt B)
  generalize srt A = A1 at *
  generalize srt B = B1 at *
  generalize minU A B = R at *
  clear ha hb hca hcb hqa hqb
  go_enter Tryd.func57, Tryd.ntmps57
  go_wp2_with (first
    | ((with_reducible refine H1.out.mono ?_); rintro e w1 ⟨⟨v1, rfl, h1⟩, h2⟩; have HU1 := Lib.hid h1; have HB1 := Lib.hid h2; clear h1 h2 H1)
    | ((with_reducible refine (H2.out _ HB1.out).mono ?_); rintro e w2 ⟨⟨v2, rfl, h1⟩, h2⟩; have HU2 := Lib.hid h1.b; have HU3 := Lib.hid (HU1.out.keep h2).b; have HB2 := Lib.hid (HB1.out.trans (h2.mono HB1.out.size)); clear h1 h2 H2))
  have HNIL := Lib.hid (OwnU.nil w2 w2.heap.size 24)
  have HSZ := Lib.hid HB2.out.size
  obtain ⟨b, hb⟩ : ∃ b, b = w2.heap.size := ⟨_, rfl⟩
  rw [← hb] at HU3 HU2 HNIL HSZ
  have HBE : Hid (b ≤ w2.heap.size) := Lib.hid (Nat.le_of_eq hb)
  have HBE : Hid (b ≤ w2.heap.size) := Lib.hid (Nat.le_of_eq hb)
  have HBE : Hid (b ≤ w2.heap.size) := Lib.hid (Nat.le_of_eq hb)
  have HW2 : Hid (Below b w2 w2) := Lib.hid (Below.refl _ _)
  clear hb HU1 HB1
  go_loopw [0, 1, 7] (fun v0 v1 v7 wr => ∃ (A2 B2 L : List Su) (n : Nat), UsB b wr v0 A2 ∧ UsB b wr v1 B2 ∧ AscU A2 ∧ AscU B2 ∧ OwnU wr b 24 v7 L ∧ L ++ mrgN kMin n A2 B2 = R ∧ A2.length + B2.length ≤ n ∧ L.length + n ≤ 2000000 ∧ Below b w2 wr ∧ b ≤ wr.heap.size) (fun v0 v1 _ _ => lenV v0 + lenV v1)
  case atStart => exact ⟨A1, B1, [], A1.length + B1.length, HU3.out, HU2.out, HAA.out, HAB.out, HNIL.out, HR.out, Nat.le_refl _, by simp; omega, HW2.out, HBE.out⟩
  case round =>
    clear HU2 HU3 HNIL HR HAA HAB HW2
    rename_i wr
    obtain ⟨A2, B2, L, n, ⟨qa2, ca2, rfl, hca2, hqa2, hsa⟩, ⟨qb2, cb2, rfl, hcb2, hqb2, hsb⟩, haA, haB, hown, heq, hn, hln, hB, hbz⟩ := hrel
    have HSA := Lib.hid hsa
    have HSB := Lib.hid hsb
    have HOWN := Lib.hid hown
    have HEQ := Lib.hid heq
    have HB := Lib.hid hB
    have HBZ := Lib.hid hbz
    clear hsa hsb hown heq hB hbz
    by_cases h0 : A2 = [] ∧ B2 = []
    · obtain ⟨rfl, rfl⟩ := h0
      have HE : Hid (R = L) := Lib.hid (by rw [← HEQ.out, mrgN_nil, List.append_nil])
      clear HSA HSB haA haB
      go_wp2_with fail
      go_ret
      refine ⟨⟨_, rfl, ?_⟩, HB2.out.trans (HB.out.mono HSZ.out)⟩
      rw [HE.out]
      exact HOWN.out.less HSZ.out
    · have HF := Lib.hid (least_fact haA haB h0)
      have HL := Lib.hid (least_any A2 B2 qa2 qb2 ca2 cb2 h0 wr (HSA.out.more HBZ.out) (HSB.out.more HBZ.out))
      obtain ⟨m, rfl⟩ : ∃ m, n = m + 1 := by
        have : 0 < n := by
          rcases A2 with _ | ⟨x, A2⟩
          · rcases B2 with _ | ⟨y, B2⟩
            · exact absurd ⟨rfl, rfl⟩ h0
            · simp at hn; omega
          · simp at hn; omega
        exact ⟨n - 1, by omega⟩
      have HST : Hid (mrgN kMin (m + 1) A2 B2 = (if kMin (leastU A2 B2).2.1 (leastU A2 B2).2.2 then [(leastU A2 B2).1] else []) ++ mrgN kMin m (if (leastU A2 B2).2.1 then A2.tail else A2) (if (leastU A2 B2).2.2 then B2.tail else B2)) := Lib.hid (by rw [mrgN, if_neg h0])
      have hg0 : 0 < A2.length ∨ (¬ 0 < A2.length ∧ 0 < B2.length) := by
        rcases A2 with _ | ⟨x, A2⟩
        · rcases B2 with _ | ⟨y, B2⟩
          · exact absurd ⟨rfl, rfl⟩ h0
          · exact .inr ⟨by simp, by simp⟩
        · exact .inl (by simp)
      generalize (leastU A2 B2).1 = x at *
      generalize (leastU A2 B2).2.1 = p at *
      generalize (leastU A2 B2).2.2 = q at *
      have HPA : Hid (p = true → 1 ≤ A2.length) := Lib.hid (fun hp => by
        have := HF.out.1
        rw [hp] at this
        exact List.length_pos_of_mem (of_decide_eq_true this.symm))
      have HPB : Hid (q = true → 1 ≤ B2.length) := Lib.hid (fun hp => by
        have := HF.out.2.1
        rw [hp] at this
        exact List.length_pos_of_mem (of_decide_eq_true this.symm))
      have HPQ : Hid (p = true ∨ q = true) := Lib.hid (by
        obtain ⟨f1, f2, f3, _⟩ := HF.out
        rcases f3 with h | h
        · left; rw [f1]; exact decide_eq_true h
        · right; rw [f2]; exact decide_eq_true h)
      have HCA := Lib.hid (fun h w' => cut1_su 49 24 elSet qa2 A2.length ca2 h w')
      have HCB := Lib.hid (fun h w' => cut1_su 49 24 elSet qb2 B2.length cb2 h w')
      have HAA := Lib.hid haA
      have HAB := Lib.hid haB
      have HTA : Hid (1 ≤ A2.length → ∀ w5, Below b wr w5 → UsB b w5 (.slice (tlQ qa2 ca2) (A2.length - 1) (ca2 - 1)) A2.tail) := Lib.hid (fun h w5 hb => tl_usB h hca2 hqa2 (HSA.out.keep hb))
      have HTB : Hid (1 ≤ B2.length → ∀ w5, Below b wr w5 → UsB b w5 (.slice (tlQ qb2 cb2) (B2.length - 1) (cb2 - 1)) B2.tail) := Lib.hid (fun h w5 hb => tl_usB h hcb2 hqb2 (HSB.out.keep hb))
      have HUA : Hid (∀ w5, Below b wr w5 → UsB b w5 (.slice qa2 A2.length ca2) A2) := Lib.hid (fun w5 hb => ⟨qa2, ca2, rfl, hca2, hqa2, HSA.out.keep hb⟩)
      have HUB : Hid (∀ w5, Below b wr w5 → UsB b w5 (.slice qb2 B2.length cb2) B2) := Lib.hid (fun w5 hb => ⟨qb2, cb2, rfl, hcb2, hqb2, HSB.out.keep hb⟩)
      have HTLA : Hid (A2.tail.length = A2.length - 1) := Lib.hid List.length_tail
      have HTLB : Hid (B2.tail.length = B2.length - 1) := Lib.hid List.length_tail
      clear HF h0 haA haB HSA HSB hca2 hcb2 hqa2 hqb2
      generalize hna : A2.length = na at *
      generalize hnb : B2.length = nb at *
      have HNA := Lib.hid hna
      have HNB := Lib.hid hnb
      clear hna hnb
      rcases hg0 with hu1 | ⟨hu1, hu2⟩
      · go_upto_region 5 with (first | ((with_reducible refine HL.out.mono ?_); rintro e w3 ⟨rfl, h1⟩; have HB3 := Lib.hid h1; clear h1 HL) | (refine wpList_store_row rfl 24 (.tmp 8) (.tmp 27) rfl w3.heap.size (encU x).toArray rfl rfl 24 zrU.toArray (heap_alloc_new _ _) (by rw [encU_size]; exact szSum) (by rw [encU_size]; rfl) (encU_all x) ?_))
        generalize hw4 : (w3.alloc _).setRow _ _ = w4
        have HX4 : Hid (Has w4 w3.heap.size 24 (encU x)) := Lib.hid (by subst hw4; exact Has.rowl (Has.made' w3 24 _ zrU rfl) _)
        have HB4 : Hid (Below wr.heap.size wr w4) := Lib.hid (by subst hw4; exact below_row (HB3.out.alloc HB3.out.size _) HB3.out.size _)
        clear hw4
        replace HOWN := Lib.hid (HOWN.out.keep HB4.out)
        have HZ4 := Lib.hid (Nat.le_trans HBZ.out HB4.out.size)
        replace HB4 := Lib.hid (HB4.out.mono HBZ.out)
        clear HB3
        generalize w3.heap.size = g8 at *
        have HLEN : Hid (L.length + 1 ≤ 4000000) := Lib.hid (by omega)
        have HXX : Hid (∀ j u, (encU x)[j]? = some u → w4.cell? ((⟨g8, 0, none⟩ : Addr).add j) = some u) := Lib.hid (fun j u hu => by rw [add_lit', Nat.zero_add]; exact HX4.out.cellv hu)
        cases p with
        | true =>
          cases q with
          | true =>
            have hcA := HCA.out (HPA.out rfl)
            have HNA1 := Lib.hid (HPA.out rfl)
            have hcB := HCB.out (HPB.out rfl)
            have HNB1 := Lib.hid (HPB.out rfl)
            go_wp2_with (first
              | ((with_reducible refine (keepMinus_any _ _ _).mono ?_); rintro e w5 ⟨rfl, hw5⟩; subst w5))
            go_roundw
            case rel =>
              have HBX : Hid (Below b wr w4) := Lib.hid (HB4.out)
              refine ⟨A2.tail, B2.tail, L, m, HTA.out HNA1.out _ HBX.out, HTB.out HNB1.out _ HBX.out, asc_tail HAA.out, asc_tail HAB.out, HOWN.out, ?_, ?_, ?_, HB.out.trans HBX.out, Nat.le_trans HBZ.out HBX.out.size⟩
              · have h := HEQ.out
                rw [HST.out] at h
                simpa [kMin] using h
              · have ha := HNA1.out; have hb := HNB1.out; have h1 := HTLA.out; have h2 := HTLB.out; have h3 := HNA.out; have h4 := HNB.out; omega
              · omega
            case measure => have ha := HNA1.out; have hb := HNB1.out; simp only [lenV]; omega
          | false =>
            have hcA := HCA.out (HPA.out rfl)
            have HNA1 := Lib.hid (HPA.out rfl)
            go_wp2_with (first
              | ((with_reducible refine (keepMinus_any _ _ _).mono ?_); rintro e w5 ⟨rfl, hw5⟩; subst w5)
              | (refine wpList_load_su rfl 24 (.tmp 8) rfl _ rfl elSum.2.1 szSum x HXX.out ?_)
              | (refine wpList_one_su rfl 49 24 elSet (.tmp 35) rfl x rfl ?_)
              | (refine wpList_append_su rfl 49 24 elSet (.tmp 34) (.tmp 36) rfl b _ L rfl (World.ownsRow.alloc HOWN.out _) (some ⟨w4.heap.size, 0, none⟩) [x] 1 1 (w4.heap.size + 1) rfl rfl (fun h => by cases h) (Ss.one (Has.made' w4 _ _ _ rfl) (Nat.lt_succ_self _)) HLEN.out (by have := HZ4.out; simp; omega) ?_; intro v6 w6 h1 h2; have HO := Lib.hid h1; have HB6 := Lib.hid h2; clear h1 h2))
            go_roundw
            case rel =>
              have HBX : Hid (Below b wr w6) := Lib.hid (HB4.out.trans (((Below.refl b w4).alloc HZ4.out _).trans HB6.out))
              refine ⟨A2.tail, B2, L ++ [x], m, HTA.out HNA1.out _ HBX.out, HUB.out _ HBX.out, asc_tail HAA.out, HAB.out, HO.out, ?_, ?_, ?_, HB.out.trans HBX.out, Nat.le_trans HBZ.out HBX.out.size⟩
              · have h := HEQ.out
                rw [HST.out] at h
                simpa [kMin] using h
              · have ha := HNA1.out; have h1 := HTLA.out; have h2 := HTLB.out; have h3 := HNA.out; have h4 := HNB.out; omega
              · simp only [List.length_append, List.length_singleton]; omega
            case measure => have ha := HNA1.out; simp only [lenV]; omega
        | false =>
          cases q with
          | true =>
            have hcB := HCB.out (HPB.out rfl)
            have HNB1 := Lib.hid (HPB.out rfl)
            go_wp2_with (first
              | ((with_reducible refine (keepMinus_any _ _ _).mono ?_); rintro e w5 ⟨rfl, hw5⟩; subst w5))
            go_roundw
            case rel =>
              have HBX : Hid (Below b wr w4) := Lib.hid (HB4.out)
              refine ⟨A2, B2.tail, L, m, HUA.out _ HBX.out, HTB.out HNB1.out _ HBX.out, HAA.out, asc_tail HAB.out, HOWN.out, ?_, ?_, ?_, HB.out.trans HBX.out, Nat.le_trans HBZ.out HBX.out.size⟩
              · have h := HEQ.out
                rw [HST.out] at h
                simpa [kMin] using h
              · have hb := HNB1.out; have h1 := HTLA.out; have h2 := HTLB.out; have h3 := HNA.out; have h4 := HNB.out; omega
              · omega
            case measure => have hb := HNB1.out; simp only [lenV]; omega
          | false =>
            have h := HPQ.out
            simp at h
      · go_upto_region 5 with (first | ((with_reducible refine HL.out.mono ?_); rintro e w3 ⟨rfl, h1⟩; have HB3 := Lib.hid h1; clear h1 HL) | (refine wpList_store_row rfl 24 (.tmp 8) (.tmp 27) rfl w3.heap.size (encU x).toArray rfl rfl 24 zrU.toArray (heap_alloc_new _ _) (by rw [encU_size]; exact szSum) (by rw [encU_size]; rfl) (encU_all x) ?_))
        generalize hw4 : (w3.alloc _).setRow _ _ = w4
        have HX4 : Hid (Has w4 w3.heap.size 24 (encU x)) := Lib.hid (by subst hw4; exact Has.rowl (Has.made' w3 24 _ zrU rfl) _)
        have HB4 : Hid (Below wr.heap.size wr w4) := Lib.hid (by subst hw4; exact below_row (HB3.out.alloc HB3.out.size _) HB3.out.size _)
        clear hw4
        replace HOWN := Lib.hid (HOWN.out.keep HB4.out)
        have HZ4 := Lib.hid (Nat.le_trans HBZ.out HB4.out.size)
        replace HB4 := Lib.hid (HB4.out.mono HBZ.out)
        clear HB3
        generalize w3.heap.size = g8 at *
        have HLEN : Hid (L.length + 1 ≤ 4000000) := Lib.hid (by omega)
        have HXX : Hid (∀ j u, (encU x)[j]? = some u → w4.cell? ((⟨g8, 0, none⟩ : Addr).add j) = some u) := Lib.hid (fun j u hu => by rw [add_lit', Nat.zero_add]; exact HX4.out.cellv hu)
        cases p with
        | true =>
          cases q with
          | true =>
            exact absurd (HPA.out rfl) (by omega)
          | false =>
            exact absurd (HPA.out rfl) (by omega)
        | false =>
          cases q with
          | true =>
            have hcB := HCB.out (HPB.out rfl)
            have HNB1 := Lib.hid (HPB.out rfl)
            go_wp2_with (first
              | ((with_reducible refine (keepMinus_any _ _ _).mono ?_); rintro e w5 ⟨rfl, hw5⟩; subst w5))
            go_roundw
            case rel =>
              have HBX : Hid (Below b wr w4) := Lib.hid (HB4.out)
              refine ⟨A2, B2.tail, L, m, HUA.out _ HBX.out, HTB.out HNB1.out _ HBX.out, HAA.out, asc_tail HAB.out, HOWN.out, ?_, ?_, ?_, HB.out.trans HBX.out, Nat.le_trans HBZ.out HBX.out.size⟩
              · have h := HEQ.out
                rw [HST.out] at h
                simpa [kMin] using h
              · have hb := HNB1.out; have h1 := HTLA.out; have h2 := HTLB.out; have h3 := HNA.out; have h4 := HNB.out; omega
              · omega
            case measure => have hb := HNB1.out; simp only [lenV]; omega
          | false =>
            have h := HPQ.out
            simp at h
set_option maxHeartbeats 1000000 in
theorem setMinus_any (A B : List Su) (qa qb : Option Addr) (ca cb : Nat) (hA : A.length ≤ 1000000) (hB : B.length ≤ 1000000) (hca : A.length ≤ ca) (hcb : B.length ≤ cb) (hqa : qa = none → ca = 0) (hqb : qb = none → cb = 0) (w : World) (ha : Sees w w.heap.size qa (rowU A)) (hb : Sees w w.heap.size qb (rowU B)) :
    Calls Tryd.prog 34 #[.slice qa A.length ca, .slice qb B.length cb] w fun e w' => (∃ v, e = .returned v ∧ OwnU w' w.heap.size 24 v (minU A B)) ∧ Below w.heap.size w w' := by
  have HM := Lib.hid (mergeMinus_any A B qa qb ca cb hA hB hca hcb hqa hqb w ha hb)
  clear ha hb
  go_enter Tryd.func34, Tryd.ntmps34
  go_wp2_with ((with_reducible refine HM.out.mono ?_); rintro e w1 ⟨⟨v1, rfl, h1⟩, h2⟩; have HO1 := Lib.hid h1; have HB1 := Lib.hid h2; clear h1 h2)
  go_ret
  exact ⟨⟨_, rfl, HO1.out⟩, HB1.out⟩
theorem keepBoth_any (a b : Bool) (w : World) : Calls Tryd.prog 59 #[.bool a, .bool b] w fun e w' => e = .returned (.bool (kBot a b)) ∧ w' = w := by
  cases a <;> cases b <;> (go_enter Tryd.func59, Tryd.ntmps59; go_wp2_with fail; go_ret; exact ⟨rfl, rfl⟩)
set_option maxHeartbeats 16000000 in
set_option maxRecDepth 100000 in
theorem mergeBoth_any (A B : List Su) (qa qb : Option Addr) (ca cb : Nat) (hA : A.length ≤ 1000000) (hB : B.length ≤ 1000000) (hca : A.length ≤ ca) (hcb : B.length ≤ cb) (hqa : qa = none → ca = 0) (hqb : qb = none → cb = 0) (w : World) (ha : Sees w w.heap.size qa (rowU A)) (hb : Sees w w.heap.size qb (rowU B)) :
    Calls Tryd.prog 57 #[.slice qa A.length ca, .slice qb B.length cb, .func (.func 59) #[] #[]] w fun e w' => (∃ v, e = .returned v ∧ OwnU w' w.heap.size 24 v (botU A B)) ∧ Below w.heap.size w w' := by
  have H1 := Lib.hid (inOrder_any A qa ca hA hca hqa w ha)
  have H2 : Hid (∀ w1, Below w.heap.size w w1 → Calls Tryd.prog 62 #[.slice qb B.length cb] w1 fun e w' => (∃ v, e = .returned v ∧ Us w' v (srt B)) ∧ Below w1.heap.size w1 w') := Lib.hid (fun w1 h => inOrder_any B qb cb hB hcb hqb w1 ((hb.keep h).more h.size))
  have hla := len_srt_le A
  have hlb := len_srt_le B
  have HR := Lib.hid (mrg_bot A B)
  have HAA := Lib.hid (asc_srt A)
  have HAB := Lib.hid (asc_srt B)
  generalize srt A = A1 at *
  generalize srt B = B1 at *
  generalize botU A B = R at *
  clear ha hb hca hcb hqa hqb
  go_enter Tryd.func57, Tryd.ntmps57
  go_wp2_with (first
    | ((with_reducible refine H1.out.mono ?_); rintro e w1 ⟨⟨v1, rfl, h1⟩, h2⟩; have HU1 := Lib.hid h1; have HB1 := Lib.hid h2; clear h1 h2 H1)
    | ((with_reducible refine (H2.out _ HB1.out).mono ?_); rintro e w2 ⟨⟨v2, rfl, h1⟩, h2⟩; have HU2 := Lib.hid h1.b; have HU3 := Lib.hid (HU1.out.keep h2).b; have HB2 := Lib.hid (HB1.out.trans (h2.mono HB1.out.size)); clear h1 h2 H2))
  have HNIL := Lib.hid (OwnU.nil w2 w2.heap.size 24)
  have HSZ := Lib.hid HB2.out.size
  obtain ⟨b, hb⟩ : ∃ b, b = w2.heap.size := ⟨_, rfl⟩
  rw [← hb] at HU3 HU2 HNIL HSZ
  have HBE : Hid (b ≤ w2.heap.size) := Lib.hid (Nat.le_of_eq hb)
  have HBE : Hid (b ≤ w2.heap.size) := Lib.hid (Nat.le_of_eq hb)
  have HW2 : Hid (Below b w2 w2) := Lib.hid (Below.refl _ _)
  clear hb HU1 HB1
  go_loopw [0, 1, 7] (fun v0 v1 v7 wr => ∃ (A2 B2 L : List Su) (n : Nat), UsB b wr v0 A2 ∧ UsB b wr v1 B2 ∧ AscU A2 ∧ AscU B2 ∧ OwnU wr b 24 v7 L ∧ L ++ mrgN kBot n A2 B2 = R ∧ A2.length + B2.length ≤ n ∧ L.length + n ≤ 2000000 ∧ Below b w2 wr ∧ b ≤ wr.heap.size) (fun v0 v1 _ _ => lenV v0 + lenV v1)
  case atStart => exact ⟨A1, B1, [], A1.length + B1.length, HU3.out, HU2.out, HAA.out, HAB.out, HNIL.out, HR.out, Nat.le_refl _, by simp; omega, HW2.out, HBE.out⟩
  case round =>
    clear HU2 HU3 HNIL HR HAA HAB HW2
    rename_i wr
    obtain ⟨A2, B2, L, n, ⟨qa2, ca2, rfl, hca2, hqa2, hsa⟩, ⟨qb2, cb2, rfl, hcb2, hqb2, hsb⟩, haA, haB, hown, heq, hn, hln, hB, hbz⟩ := hrel
    have HSA := Lib.hid hsa
    have HSB := Lib.hid hsb
    have HOWN := Lib.hid hown
    have HEQ := Lib.hid heq
    have HB := Lib.hid hB
    have HBZ := Lib.hid hbz
    clear hsa hsb hown heq hB hbz
    by_cases h0 : A2 = [] ∧ B2 = []
    · obtain ⟨rfl, rfl⟩ := h0
      have HE : Hid (R = L) := Lib.hid (by rw [← HEQ.out, mrgN_nil, List.append_nil])
      clear HSA HSB haA haB
      go_wp2_with fail
      go_ret
      refine ⟨⟨_, rfl, ?_⟩, HB2.out.trans (HB.out.mono HSZ.out)⟩
      rw [HE.out]
      exact HOWN.out.less HSZ.out
    · have HF := Lib.hid (least_fact haA haB h0)
      have HL := Lib.hid (least_any A2 B2 qa2 qb2 ca2 cb2 h0 wr (HSA.out.more HBZ.out) (HSB.out.more HBZ.out))
      obtain ⟨m, rfl⟩ : ∃ m, n = m + 1 := by
        have : 0 < n := by
          rcases A2 with _ | ⟨x, A2⟩
          · rcases B2 with _ | ⟨y, B2⟩
            · exact absurd ⟨rfl, rfl⟩ h0
            · simp at hn; omega
          · simp at hn; omega
        exact ⟨n - 1, by omega⟩
      have HST : Hid (mrgN kBot (m + 1) A2 B2 = (if kBot (leastU A2 B2).2.1 (leastU A2 B2).2.2 then [(leastU A2 B2).1] else []) ++ mrgN kBot m (if (leastU A2 B2).2.1 then A2.tail else A2) (if (leastU A2 B2).2.2 then B2.tail else B2)) := Lib.hid (by rw [mrgN, if_neg h0])
      have hg0 : 0 < A2.length ∨ (¬ 0 < A2.length ∧ 0 < B2.length) := by
        rcases A2 with _ | ⟨x, A2⟩
        · rcases B2 with _ | ⟨y, B2⟩
          · exact absurd ⟨rfl, rfl⟩ h0
          · exact .inr ⟨by simp, by simp⟩
        · exact .inl (by simp)
      generalize (leastU A2 B2).1 = x at *
      generalize (leastU A2 B2).2.1 = p at *
      generalize (leastU A2 B2).2.2 = q at *
      have HPA : Hid (p = true → 1 ≤ A2.length) := Lib.hid (fun hp => by
        have := HF.out.1
        rw [hp] at this
        exact List.length_pos_of_mem (of_decide_eq_true this.symm))
      have HPB : Hid (q = true → 1 ≤ B2.length) := Lib.hid (fun hp => by
        have := HF.out.2.1
        rw [hp] at this
        exact List.length_pos_of_mem (of_decide_eq_true this.symm))
      have HPQ : Hid (p = true ∨ q = true) := Lib.hid (by
        obtain ⟨f1, f2, f3, _⟩ := HF.out
        rcases f3 with h | h
        · left; rw [f1]; exact decide_eq_true h
        · right; rw [f2]; exact decide_eq_true h)
      have HCA := Lib.hid (fun h w' => cut1_su 49 24 elSet qa2 A2.length ca2 h w')
      have HCB := Lib.hid (fun h w' => cut1_su 49 24 elSet qb2 B2.length cb2 h w')
      have HAA := Lib.hid haA
      have HAB := Lib.hid haB
      have HTA : Hid (1 ≤ A2.length → ∀ w5, Below b wr w5 → UsB b w5 (.slice (tlQ qa2 ca2) (A2.length - 1) (ca2 - 1)) A2.tail) := Lib.hid (fun h w5 hb => tl_usB h hca2 hqa2 (HSA.out.keep hb))
      have HTB : Hid (1 ≤ B2.length → ∀ w5, Below b wr w5 → UsB b w5 (.slice (tlQ qb2 cb2) (B2.length - 1) (cb2 - 1)) B2.tail) := Lib.hid (fun h w5 hb => tl_usB h hcb2 hqb2 (HSB.out.keep hb))
      have HUA : Hid (∀ w5, Below b wr w5 → UsB b w5 (.slice qa2 A2.length ca2) A2) := Lib.hid (fun w5 hb => ⟨qa2, ca2, rfl, hca2, hqa2, HSA.out.keep hb⟩)
      have HUB : Hid (∀ w5, Below b wr w5 → UsB b w5 (.slice qb2 B2.length cb2) B2) := Lib.hid (fun w5 hb => ⟨qb2, cb2, rfl, hcb2, hqb2, HSB.out.keep hb⟩)
      have HTLA : Hid (A2.tail.length = A2.length - 1) := Lib.hid List.length_tail
      have HTLB : Hid (B2.tail.length = B2.length - 1) := Lib.hid List.length_tail
      clear HF h0 haA haB HSA HSB hca2 hcb2 hqa2 hqb2
      generalize hna : A2.length = na at *
      generalize hnb : B2.length = nb at *
      have HNA := Lib.hid hna
      have HNB := Lib.hid hnb
      clear hna hnb
      rcases hg0 with hu1 | ⟨hu1, hu2⟩
      · go_upto_region 5 with (first | ((with_reducible refine HL.out.mono ?_); rintro e w3 ⟨rfl, h1⟩; have HB3 := Lib.hid h1; clear h1 HL) | (refine wpList_store_row rfl 24 (.tmp 8) (.tmp 27) rfl w3.heap.size (encU x).toArray rfl rfl 24 zrU.toArray (heap_alloc_new _ _) (by rw [encU_size]; exact szSum) (by rw [encU_size]; rfl) (encU_all x) ?_))
        generalize hw4 : (w3.alloc _).setRow _ _ = w4
        have HX4 : Hid (Has w4 w3.heap.size 24 (encU x)) := Lib.hid (by subst hw4; exact Has.rowl (Has.made' w3 24 _ zrU rfl) _)
        have HB4 : Hid (Below wr.heap.size wr w4) := Lib.hid (by subst hw4; exact below_row (HB3.out.alloc HB3.out.size _) HB3.out.size _)
        clear hw4
        replace HOWN := Lib.hid (HOWN.out.keep HB4.out)
        have HZ4 := Lib.hid (Nat.le_trans HBZ.out HB4.out.size)
        replace HB4 := Lib.hid (HB4.out.mono HBZ.out)
        clear HB3
        generalize w3.heap.size = g8 at *
        have HLEN : Hid (L.length + 1 ≤ 4000000) := Lib.hid (by omega)
        have HXX : Hid (∀ j u, (encU x)[j]? = some u → w4.cell? ((⟨g8, 0, none⟩ : Addr).add j) = some u) := Lib.hid (fun j u hu => by rw [add_lit', Nat.zero_add]; exact HX4.out.cellv hu)
        cases p with
        | true =>
          cases q with
          | true =>
            have hcA := HCA.out (HPA.out rfl)
            have HNA1 := Lib.hid (HPA.out rfl)
            have hcB := HCB.out (HPB.out rfl)
            have HNB1 := Lib.hid (HPB.out rfl)
            go_wp2_with (first
              | ((with_reducible refine (keepBoth_any _ _ _).mono ?_); rintro e w5 ⟨rfl, hw5⟩; subst w5)
              | (refine wpList_load_su rfl 24 (.tmp 8) rfl _ rfl elSum.2.1 szSum x HXX.out ?_)
              | (refine wpList_one_su rfl 49 24 elSet (.tmp 35) rfl x rfl ?_)
              | (refine wpList_append_su rfl 49 24 elSet (.tmp 34) (.tmp 36) rfl b _ L rfl (World.ownsRow.alloc HOWN.out _) (some ⟨w4.heap.size, 0, none⟩) [x] 1 1 (w4.heap.size + 1) rfl rfl (fun h => by cases h) (Ss.one (Has.made' w4 _ _ _ rfl) (Nat.lt_succ_self _)) HLEN.out (by have := HZ4.out; simp; omega) ?_; intro v6 w6 h1 h2; have HO := Lib.hid h1; have HB6 := Lib.hid h2; clear h1 h2))
            go_roundw
            case rel =>
              have HBX : Hid (Below b wr w6) := Lib.hid (HB4.out.trans (((Below.refl b w4).alloc HZ4.out _).trans HB6.out))
              refine ⟨A2.tail, B2.tail, L ++ [x], m, HTA.out HNA1.out _ HBX.out, HTB.out HNB1.out _ HBX.out, asc_tail HAA.out, asc_tail HAB.out, HO.out, ?_, ?_, ?_, HB.out.trans HBX.out, Nat.le_trans HBZ.out HBX.out.size⟩
              · have h := HEQ.out
                rw [HST.out] at h
                simpa [kBot] using h
              · have ha := HNA1.out; have hb := HNB1.out; have h1 := HTLA.out; have h2 := HTLB.out; have h3 := HNA.out; have h4 := HNB.out; omega
              · simp only [List.length_append, List.length_singleton]; omega
            case measure => have ha := HNA1.out; have hb := HNB1.out; simp only [lenV]; omega
          | false =>
            have hcA := HCA.out (HPA.out rfl)
            have HNA1 := Lib.hid (HPA.out rfl)
            go_wp2_with (first
              | ((with_reducible refine (keepBoth_any _ _ _).mono ?_); rintro e w5 ⟨rfl, hw5⟩; subst w5))
            go_roundw
            case rel =>
              have HBX : Hid (Below b wr w4) := Lib.hid (HB4.out)
              refine ⟨A2.tail, B2, L, m, HTA.out HNA1.out _ HBX.out, HUB.out _ HBX.out, asc_tail HAA.out, HAB.out, HOWN.out, ?_, ?_, ?_, HB.out.trans HBX.out, Nat.le_trans HBZ.out HBX.out.size⟩
              · have h := HEQ.out
                rw [HST.out] at h
                simpa [kBot] using h
              · have ha := HNA1.out; have h1 := HTLA.out; have h2 := HTLB.out; have h3 := HNA.out; have h4 := HNB.out; omega
              · omega
            case measure => have ha := HNA1.out; simp only [lenV]; omega
        | false =>
          cases q with
          | true =>
            have hcB := HCB.out (HPB.out rfl)
            have HNB1 := Lib.hid (HPB.out rfl)
            go_wp2_with (first
              | ((with_reducible refine (keepBoth_any _ _ _).mono ?_); rintro e w5 ⟨rfl, hw5⟩; subst w5))
            go_roundw
            case rel =>
              have HBX : Hid (Below b wr w4) := Lib.hid (HB4.out)
              refine ⟨A2, B2.tail, L, m, HUA.out _ HBX.out, HTB.out HNB1.out _ HBX.out, HAA.out, asc_tail HAB.out, HOWN.out, ?_, ?_, ?_, HB.out.trans HBX.out, Nat.le_trans HBZ.out HBX.out.size⟩
              · have h := HEQ.out
                rw [HST.out] at h
                simpa [kBot] using h
              · have hb := HNB1.out; have h1 := HTLA.out; have h2 := HTLB.out; have h3 := HNA.out; have h4 := HNB.out; omega
              · omega
            case measure => have hb := HNB1.out; simp only [lenV]; omega
          | false =>
            have h := HPQ.out
            simp at h
      · go_upto_region 5 with (first | ((with_reducible refine HL.out.mono ?_); rintro e w3 ⟨rfl, h1⟩; have HB3 := Lib.hid h1; clear h1 HL) | (refine wpList_store_row rfl 24 (.tmp 8) (.tmp 27) rfl w3.heap.size (encU x).toArray rfl rfl 24 zrU.toArray (heap_alloc_new _ _) (by rw [encU_size]; exact szSum) (by rw [encU_size]; rfl) (encU_all x) ?_))
        generalize hw4 : (w3.alloc _).setRow _ _ = w4
        have HX4 : Hid (Has w4 w3.heap.size 24 (encU x)) := Lib.hid (by subst hw4; exact Has.rowl (Has.made' w3 24 _ zrU rfl) _)
        have HB4 : Hid (Below wr.heap.size wr w4) := Lib.hid (by subst hw4; exact below_row (HB3.out.alloc HB3.out.size _) HB3.out.size _)
        clear hw4
        replace HOWN := Lib.hid (HOWN.out.keep HB4.out)
        have HZ4 := Lib.hid (Nat.le_trans HBZ.out HB4.out.size)
        replace HB4 := Lib.hid (HB4.out.mono HBZ.out)
        clear HB3
        generalize w3.heap.size = g8 at *
        have HLEN : Hid (L.length + 1 ≤ 4000000) := Lib.hid (by omega)
        have HXX : Hid (∀ j u, (encU x)[j]? = some u → w4.cell? ((⟨g8, 0, none⟩ : Addr).add j) = some u) := Lib.hid (fun j u hu => by rw [add_lit', Nat.zero_add]; exact HX4.out.cellv hu)
        cases p with
        | true =>
          cases q with
          | true =>
            exact absurd (HPA.out rfl) (by omega)
          | false =>
            exact absurd (HPA.out rfl) (by omega)
        | false =>
          cases q with
          | true =>
            have hcB := HCB.out (HPB.out rfl)
            have HNB1 := Lib.hid (HPB.out rfl)
            go_wp2_with (first
              | ((with_reducible refine (keepBoth_any _ _ _).mono ?_); rintro e w5 ⟨rfl, hw5⟩; subst w5))
            go_roundw
            case rel =>
              have HBX : Hid (Below b wr w4) := Lib.hid (HB4.out)
              refine ⟨A2, B2.tail, L, m, HUA.out _ HBX.out, HTB.out HNB1.out _ HBX.out, HAA.out, asc_tail HAB.out, HOWN.out, ?_, ?_, ?_, HB.out.trans HBX.out, Nat.le_trans HBZ.out HBX.out.size⟩
              · have h := HEQ.out
                rw [HST.out] at h
                simpa [kBot] using h
              · have hb := HNB1.out; have h1 := HTLA.out; have h2 := HTLB.out; have h3 := HNA.out; have h4 := HNB.out; omega
              · omega
            case measure => have hb := HNB1.out; simp only [lenV]; omega
          | false =>
            have h := HPQ.out
            simp at h
set_option maxHeartbeats 1000000 in
theorem setBoth_any (A B : List Su) (qa qb : Option Addr) (ca cb : Nat) (hA : A.length ≤ 1000000) (hB : B.length ≤ 1000000) (hca : A.length ≤ ca) (hcb : B.length ≤ cb) (hqa : qa = none → ca = 0) (hqb : qb = none → cb = 0) (w : World) (ha : Sees w w.heap.size qa (rowU A)) (hb : Sees w w.heap.size qb (rowU B)) :
    Calls Tryd.prog 36 #[.slice qa A.length ca, .slice qb B.length cb] w fun e w' => (∃ v, e = .returned v ∧ OwnU w' w.heap.size 24 v (botU A B)) ∧ Below w.heap.size w w' := by
  have HM := Lib.hid (mergeBoth_any A B qa qb ca cb hA hB hca hcb hqa hqb w ha hb)
  clear ha hb
  go_enter Tryd.func36, Tryd.ntmps36
  go_wp2_with ((with_reducible refine HM.out.mono ?_); rintro e w1 ⟨⟨v1, rfl, h1⟩, h2⟩; have HO1 := Lib.hid h1; have HB1 := Lib.hid h2; clear h1 h2)
  go_ret
  exact ⟨⟨_, rfl, HO1.out⟩, HB1.out⟩
theorem keepEither_any (a b : Bool) (w : World) : Calls Tryd.prog 60 #[.bool a, .bool b] w fun e w' => e = .returned (.bool (kEit a b)) ∧ w' = w := by
  cases a <;> cases b <;> (go_enter Tryd.func60, Tryd.ntmps60; go_wp2_with fail; go_ret; exact ⟨rfl, rfl⟩)
set_option maxHeartbeats 16000000 in
set_option maxRecDepth 100000 in
theorem mergeEither_any (A B : List Su) (qa qb : Option Addr) (ca cb : Nat) (hA : A.length ≤ 1000000) (hB : B.length ≤ 1000000) (hca : A.length ≤ ca) (hcb : B.length ≤ cb) (hqa : qa = none → ca = 0) (hqb : qb = none → cb = 0) (w : World) (ha : Sees w w.heap.size qa (rowU A)) (hb : Sees w w.heap.size qb (rowU B)) :
    Calls Tryd.prog 57 #[.slice qa A.length ca, .slice qb B.length cb, .func (.func 60) #[] #[]] w fun e w' => (∃ v, e = .returned v ∧ OwnU w' w.heap.size 24 v (eitU A B)) ∧ Below w.heap.size w w' := by
  have H1 := Lib.hid (inOrder_any A qa ca hA hca hqa w ha)
  have H2 : Hid (∀ w1, Below w.heap.size w w1 → Calls Tryd.prog 62 #[.slice qb B.length cb] w1 fun e w' => (∃ v, e = .returned v ∧ Us w' v (srt B)) ∧ Below w1.heap.size w1 w') := Lib.hid (fun w1 h => inOrder_any B qb cb hB hcb hqb w1 ((hb.keep h).more h.size))
  have hla := len_srt_le A
  have hlb := len_srt_le B
  have HR := Lib.hid (mrg_eit A B)
  have HAA := Lib.hid (asc_srt A)
  have HAB := Lib.hid (asc_srt B)
  generalize srt A = A1 at *
  generalize srt B = B1 at *
  generalize eitU A B = R at *
  clear ha hb hca hcb hqa hqb
  go_enter Tryd.func57, Tryd.ntmps57
  go_wp2_with (first
    | ((with_reducible refine H1.out.mono ?_); rintro e w1 ⟨⟨v1, rfl, h1⟩, h2⟩; have HU1 := Lib.hid h1; have HB1 := Lib.hid h2; clear h1 h2 H1)
    | ((with_reducible refine (H2.out _ HB1.out).mono ?_); rintro e w2 ⟨⟨v2, rfl, h1⟩, h2⟩; have HU2 := Lib.hid h1.b; have HU3 := Lib.hid (HU1.out.keep h2).b; have HB2 := Lib.hid (HB1.out.trans (h2.mono HB1.out.size)); clear h1 h2 H2))
  have HNIL := Lib.hid (OwnU.nil w2 w2.heap.size 24)
  have HSZ := Lib.hid HB2.out.size
  obtain ⟨b, hb⟩ : ∃ b, b = w2.heap.size := ⟨_, rfl⟩
  rw [← hb] at HU3 HU2 HNIL HSZ
  have HBE : Hid (b ≤ w2.heap.size) := Lib.hid (Nat.le_of_eq hb)
  have HW2 : Hid (Below b w2 w2) := Lib.hid (Below.refl _ _)
  clear hb HU1 HB1
  go_loopw [0, 1, 7] (fun v0 v1 v7 wr => ∃ (A2 B2 L : List Su) (n : Nat), UsB b wr v0 A2 ∧ UsB b wr v1 B2 ∧ AscU A2 ∧ AscU B2 ∧ OwnU wr b 24 v7 L ∧ L ++ mrgN kEit n A2 B2 = R ∧ A2.length + B2.length ≤ n ∧ L.length + n ≤ 2000000 ∧ Below b w2 wr ∧ b ≤ wr.heap.size) (fun v0 v1 _ _ => lenV v0 + lenV v1)
  case atStart => exact ⟨A1, B1, [], A1.length + B1.length, HU3.out, HU2.out, HAA.out, HAB.out, HNIL.out, HR.out, Nat.le_refl _, by simp; omega, HW2.out, HBE.out⟩
  case round =>
    clear HU2 HU3 HNIL HR HAA HAB HW2
    rename_i wr
    obtain ⟨A2, B2, L, n, ⟨qa2, ca2, rfl, hca2, hqa2, hsa⟩, ⟨qb2, cb2, rfl, hcb2, hqb2, hsb⟩, haA, haB, hown, heq, hn, hln, hB, hbz⟩ := hrel
    have HSA := Lib.hid hsa
    have HSB := Lib.hid hsb
    have HOWN := Lib.hid hown
    have HEQ := Lib.hid heq
    have HB := Lib.hid hB
    have HBZ := Lib.hid hbz
    clear hsa hsb hown heq hB hbz
    by_cases h0 : A2 = [] ∧ B2 = []
    · obtain ⟨rfl, rfl⟩ := h0
      have HE : Hid (R = L) := Lib.hid (by rw [← HEQ.out, mrgN_nil, List.append_nil])
      clear HSA HSB haA haB
      go_wp2_with fail
      go_ret
      refine ⟨⟨_, rfl, ?_⟩, HB2.out.trans (HB.out.mono HSZ.out)⟩
      rw [HE.out]
      exact HOWN.out.less HSZ.out
    · have HF := Lib.hid (least_fact haA haB h0)
      have HL := Lib.hid (least_any A2 B2 qa2 qb2 ca2 cb2 h0 wr (HSA.out.more HBZ.out) (HSB.out.more HBZ.out))
      obtain ⟨m, rfl⟩ : ∃ m, n = m + 1 := by
        have : 0 < n := by
          rcases A2 with _ | ⟨x, A2⟩
          · rcases B2 with _ | ⟨y, B2⟩
            · exact absurd ⟨rfl, rfl⟩ h0
            · simp at hn; omega
          · simp at hn; omega
        exact ⟨n - 1, by omega⟩
      have HST : Hid (mrgN kEit (m + 1) A2 B2 = (if kEit (leastU A2 B2).2.1 (leastU A2 B2).2.2 then [(leastU A2 B2).1] else []) ++ mrgN kEit m (if (leastU A2 B2).2.1 then A2.tail else A2) (if (leastU A2 B2).2.2 then B2.tail else B2)) := Lib.hid (by rw [mrgN, if_neg h0])
      have hg0 : 0 < A2.length ∨ (¬ 0 < A2.length ∧ 0 < B2.length) := by
        rcases A2 with _ | ⟨x, A2⟩
        · rcases B2 with _ | ⟨y, B2⟩
          · exact absurd ⟨rfl, rfl⟩ h0
          · exact .inr ⟨by simp, by simp⟩
        · exact .inl (by simp)
      generalize (leastU A2 B2).1 = x at *
      generalize (leastU A2 B2).2.1 = p at *
      generalize (leastU A2 B2).2.2 = q at *
      have HPA : Hid (p = true → 1 ≤ A2.length) := Lib.hid (fun hp => by
        have := HF.out.1
        rw [hp] at this
        exact List.length_pos_of_mem (of_decide_eq_true this.symm))
      have HPB : Hid (q = true → 1 ≤ B2.length) := Lib.hid (fun hp => by
        have := HF.out.2.1
        rw [hp] at this
        exact List.length_pos_of_mem (of_decide_eq_true this.symm))
      have HPQ : Hid (p = true ∨ q = true) := Lib.hid (by
        obtain ⟨f1, f2, f3, _⟩ := HF.out
        rcases f3 with h | h
        · left; rw [f1]; exact decide_eq_true h
        · right; rw [f2]; exact decide_eq_true h)
      have HCA := Lib.hid (fun h w' => cut1_su 49 24 elSet qa2 A2.length ca2 h w')
      have HCB := Lib.hid (fun h w' => cut1_su 49 24 elSet qb2 B2.length cb2 h w')
      have HAA := Lib.hid haA
      have HAB := Lib.hid haB
      have HTA : Hid (1 ≤ A2.length → ∀ w5, Below b wr w5 → UsB b w5 (.slice (tlQ qa2 ca2) (A2.length - 1) (ca2 - 1)) A2.tail) := Lib.hid (fun h w5 hb => tl_usB h hca2 hqa2 (HSA.out.keep hb))
      have HTB : Hid (1 ≤ B2.length → ∀ w5, Below b wr w5 → UsB b w5 (.slice (tlQ qb2 cb2) (B2.length - 1) (cb2 - 1)) B2.tail) := Lib.hid (fun h w5 hb => tl_usB h hcb2 hqb2 (HSB.out.keep hb))
      have HUA : Hid (∀ w5, Below b wr w5 → UsB b w5 (.slice qa2 A2.length ca2) A2) := Lib.hid (fun w5 hb => ⟨qa2, ca2, rfl, hca2, hqa2, HSA.out.keep hb⟩)
      have HUB : Hid (∀ w5, Below b wr w5 → UsB b w5 (.slice qb2 B2.length cb2) B2) := Lib.hid (fun w5 hb => ⟨qb2, cb2, rfl, hcb2, hqb2, HSB.out.keep hb⟩)
      have HTLA : Hid (A2.tail.length = A2.length - 1) := Lib.hid List.length_tail
      have HTLB : Hid (B2.tail.length = B2.length - 1) := Lib.hid List.length_tail
      clear HF h0 haA haB HSA HSB hca2 hcb2 hqa2 hqb2
      generalize hna : A2.length = na at *
      generalize hnb : B2.length = nb at *
      have HNA := Lib.hid hna
      have HNB := Lib.hid hnb
      clear hna hnb
      rcases hg0 with hu1 | ⟨hu1, hu2⟩
      · go_upto_region 5 with (first | ((with_reducible refine HL.out.mono ?_); rintro e w3 ⟨rfl, h1⟩; have HB3 := Lib.hid h1; clear h1 HL) | (refine wpList_store_row rfl 24 (.tmp 8) (.tmp 27) rfl w3.heap.size (encU x).toArray rfl rfl 24 zrU.toArray (heap_alloc_new _ _) (by rw [encU_size]; exact szSum) (by rw [encU_size]; rfl) (encU_all x) ?_))
        generalize hw4 : (w3.alloc _).setRow _ _ = w4
        have HX4 : Hid (Has w4 w3.heap.size 24 (encU x)) := Lib.hid (by subst hw4; exact Has.rowl (Has.made' w3 24 _ zrU rfl) _)
        have HB4 : Hid (Below wr.heap.size wr w4) := Lib.hid (by subst hw4; exact below_row (HB3.out.alloc HB3.out.size _) HB3.out.size _)
        clear hw4
        replace HOWN := Lib.hid (HOWN.out.keep HB4.out)
        have HZ4 := Lib.hid (Nat.le_trans HBZ.out HB4.out.size)
        replace HB4 := Lib.hid (HB4.out.mono HBZ.out)
        clear HB3
        generalize w3.heap.size = g8 at *
        have HLEN : Hid (L.length + 1 ≤ 4000000) := Lib.hid (by omega)
        have HXX : Hid (∀ j u, (encU x)[j]? = some u → w4.cell? ((⟨g8, 0, none⟩ : Addr).add j) = some u) := Lib.hid (fun j u hu => by rw [add_lit', Nat.zero_add]; exact HX4.out.cellv hu)
        cases p with
        | true =>
          cases q with
          | true =>
            have hcA := HCA.out (HPA.out rfl)
            have HNA1 := Lib.hid (HPA.out rfl)
            have hcB := HCB.out (HPB.out rfl)
            have HNB1 := Lib.hid (HPB.out rfl)
            go_wp2_with (first
              | ((with_reducible refine (keepEither_any _ _ _).mono ?_); rintro e w5 ⟨rfl, hw5⟩; subst w5)
              | (refine wpList_load_su rfl 24 (.tmp 8) rfl _ rfl elSum.2.1 szSum x HXX.out ?_)
              | (refine wpList_one_su rfl 49 24 elSet (.tmp 35) rfl x rfl ?_)
              | (refine wpList_append_su rfl 49 24 elSet (.tmp 34) (.tmp 36) rfl b _ L rfl (World.ownsRow.alloc HOWN.out _) (some ⟨w4.heap.size, 0, none⟩) [x] 1 1 (w4.heap.size + 1) rfl rfl (fun h => by cases h) (Ss.one (Has.made' w4 _ _ _ rfl) (Nat.lt_succ_self _)) HLEN.out (by have := HZ4.out; simp; omega) ?_; intro v6 w6 h1 h2; have HO := Lib.hid h1; have HB6 := Lib.hid h2; clear h1 h2))
            go_roundw
            case rel =>
              have HBX : Hid (Below b wr w6) := Lib.hid (HB4.out.trans (((Below.refl b w4).alloc HZ4.out _).trans HB6.out))
              refine ⟨A2.tail, B2.tail, L ++ [x], m, HTA.out HNA1.out _ HBX.out, HTB.out HNB1.out _ HBX.out, asc_tail HAA.out, asc_tail HAB.out, HO.out, ?_, ?_, ?_, HB.out.trans HBX.out, Nat.le_trans HBZ.out HBX.out.size⟩
              · have h := HEQ.out
                rw [HST.out] at h
                simpa [kEit] using h
              · have ha := HNA1.out; have hb := HNB1.out; have h1 := HTLA.out; have h2 := HTLB.out; have h3 := HNA.out; have h4 := HNB.out; omega
              · simp only [List.length_append, List.length_singleton]; omega
            case measure => have ha := HNA1.out; have hb := HNB1.out; simp only [lenV]; omega
          | false =>
            have hcA := HCA.out (HPA.out rfl)
            have HNA1 := Lib.hid (HPA.out rfl)
            go_wp2_with (first
              | ((with_reducible refine (keepEither_any _ _ _).mono ?_); rintro e w5 ⟨rfl, hw5⟩; subst w5)
              | (refine wpList_load_su rfl 24 (.tmp 8) rfl _ rfl elSum.2.1 szSum x HXX.out ?_)
              | (refine wpList_one_su rfl 49 24 elSet (.tmp 35) rfl x rfl ?_)
              | (refine wpList_append_su rfl 49 24 elSet (.tmp 34) (.tmp 36) rfl b _ L rfl (World.ownsRow.alloc HOWN.out _) (some ⟨w4.heap.size, 0, none⟩) [x] 1 1 (w4.heap.size + 1) rfl rfl (fun h => by cases h) (Ss.one (Has.made' w4 _ _ _ rfl) (Nat.lt_succ_self _)) HLEN.out (by have := HZ4.out; simp; omega) ?_; intro v6 w6 h1 h2; have HO := Lib.hid h1; have HB6 := Lib.hid h2; clear h1 h2))
            go_roundw
            case rel =>
              have HBX : Hid (Below b wr w6) := Lib.hid (HB4.out.trans (((Below.refl b w4).alloc HZ4.out _).trans HB6.out))
              refine ⟨A2.tail, B2, L ++ [x], m, HTA.out HNA1.out _ HBX.out, HUB.out _ HBX.out, asc_tail HAA.out, HAB.out, HO.out, ?_, ?_, ?_, HB.out.trans HBX.out, Nat.le_trans HBZ.out HBX.out.size⟩
              · have h := HEQ.out
                rw [HST.out] at h
                simpa [kEit] using h
              · have ha := HNA1.out; have h1 := HTLA.out; have h2 := HTLB.out; have h3 := HNA.out; have h4 := HNB.out; omega
              · simp only [List.length_append, List.length_singleton]; omega
            case measure => have ha := HNA1.out; simp only [lenV]; omega
        | false =>
          cases q with
          | true =>
            have hcB := HCB.out (HPB.out rfl)
            have HNB1 := Lib.hid (HPB.out rfl)
            go_wp2_with (first
              | ((with_reducible refine (keepEither_any _ _ _).mono ?_); rintro e w5 ⟨rfl, hw5⟩; subst w5)
              | (refine wpList_load_su rfl 24 (.tmp 8) rfl _ rfl elSum.2.1 szSum x HXX.out ?_)
              | (refine wpList_one_su rfl 49 24 elSet (.tmp 35) rfl x rfl ?_)
              | (refine wpList_append_su rfl 49 24 elSet (.tmp 34) (.tmp 36) rfl b _ L rfl (World.ownsRow.alloc HOWN.out _) (some ⟨w4.heap.size, 0, none⟩) [x] 1 1 (w4.heap.size + 1) rfl rfl (fun h => by cases h) (Ss.one (Has.made' w4 _ _ _ rfl) (Nat.lt_succ_self _)) HLEN.out (by have := HZ4.out; simp; omega) ?_; intro v6 w6 h1 h2; have HO := Lib.hid h1; have HB6 := Lib.hid h2; clear h1 h2))
            go_roundw
            case rel =>
              have HBX : Hid (Below b wr w6) := Lib.hid (HB4.out.trans (((Below.refl b w4).alloc HZ4.out _).trans HB6.out))
              refine ⟨A2, B2.tail, L ++ [x], m, HUA.out _ HBX.out, HTB.out HNB1.out _ HBX.out, HAA.out, asc_tail HAB.out, HO.out, ?_, ?_, ?_, HB.out.trans HBX.out, Nat.le_trans HBZ.out HBX.out.size⟩
              · have h := HEQ.out
                rw [HST.out] at h
                simpa [kEit] using h
              · have hb := HNB1.out; have h1 := HTLA.out; have h2 := HTLB.out; have h3 := HNA.out; have h4 := HNB.out; omega
              · simp only [List.length_append, List.length_singleton]; omega
            case measure => have hb := HNB1.out; simp only [lenV]; omega
          | false =>
            have h := HPQ.out
            simp at h
      · go_upto_region 5 with (first | ((with_reducible refine HL.out.mono ?_); rintro e w3 ⟨rfl, h1⟩; have HB3 := Lib.hid h1; clear h1 HL) | (refine wpList_store_row rfl 24 (.tmp 8) (.tmp 27) rfl w3.heap.size (encU x).toArray rfl rfl 24 zrU.toArray (heap_alloc_new _ _) (by rw [encU_size]; exact szSum) (by rw [encU_size]; rfl) (encU_all x) ?_))
        generalize hw4 : (w3.alloc _).setRow _ _ = w4
        have HX4 : Hid (Has w4 w3.heap.size 24 (encU x)) := Lib.hid (by subst hw4; exact Has.rowl (Has.made' w3 24 _ zrU rfl) _)
        have HB4 : Hid (Below wr.heap.size wr w4) := Lib.hid (by subst hw4; exact below_row (HB3.out.alloc HB3.out.size _) HB3.out.size _)
        clear hw4
        replace HOWN := Lib.hid (HOWN.out.keep HB4.out)
        have HZ4 := Lib.hid (Nat.le_trans HBZ.out HB4.out.size)
        replace HB4 := Lib.hid (HB4.out.mono HBZ.out)
        clear HB3
        generalize w3.heap.size = g8 at *
        have HLEN : Hid (L.length + 1 ≤ 4000000) := Lib.hid (by omega)
        have HXX : Hid (∀ j u, (encU x)[j]? = some u → w4.cell? ((⟨g8, 0, none⟩ : Addr).add j) = some u) := Lib.hid (fun j u hu => by rw [add_lit', Nat.zero_add]; exact HX4.out.cellv hu)
        cases p with
        | true =>
          cases q with
          | true =>
            exact absurd (HPA.out rfl) (by omega)
          | false =>
            exact absurd (HPA.out rfl) (by omega)
        | false =>
          cases q with
          | true =>
            have hcB := HCB.out (HPB.out rfl)
            have HNB1 := Lib.hid (HPB.out rfl)
            go_wp2_with (first
              | ((with_reducible refine (keepEither_any _ _ _).mono ?_); rintro e w5 ⟨rfl, hw5⟩; subst w5)
              | (refine wpList_load_su rfl 24 (.tmp 8) rfl _ rfl elSum.2.1 szSum x HXX.out ?_)
              | (refine wpList_one_su rfl 49 24 elSet (.tmp 35) rfl x rfl ?_)
              | (refine wpList_append_su rfl 49 24 elSet (.tmp 34) (.tmp 36) rfl b _ L rfl (World.ownsRow.alloc HOWN.out _) (some ⟨w4.heap.size, 0, none⟩) [x] 1 1 (w4.heap.size + 1) rfl rfl (fun h => by cases h) (Ss.one (Has.made' w4 _ _ _ rfl) (Nat.lt_succ_self _)) HLEN.out (by have := HZ4.out; simp; omega) ?_; intro v6 w6 h1 h2; have HO := Lib.hid h1; have HB6 := Lib.hid h2; clear h1 h2))
            go_roundw
            case rel =>
              have HBX : Hid (Below b wr w6) := Lib.hid (HB4.out.trans (((Below.refl b w4).alloc HZ4.out _).trans HB6.out))
              refine ⟨A2, B2.tail, L ++ [x], m, HUA.out _ HBX.out, HTB.out HNB1.out _ HBX.out, HAA.out, asc_tail HAB.out, HO.out, ?_, ?_, ?_, HB.out.trans HBX.out, Nat.le_trans HBZ.out HBX.out.size⟩
              · have h := HEQ.out
                rw [HST.out] at h
                simpa [kEit] using h
              · have hb := HNB1.out; have h1 := HTLA.out; have h2 := HTLB.out; have h3 := HNA.out; have h4 := HNB.out; omega
              · simp only [List.length_append, List.length_singleton]; omega
            case measure => have hb := HNB1.out; simp only [lenV]; omega
          | false =>
            have h := HPQ.out
            simp at h
set_option maxHeartbeats 1000000 in
theorem setEither_any (A B : List Su) (qa qb : Option Addr) (ca cb : Nat) (hA : A.length ≤ 1000000) (hB : B.length ≤ 1000000) (hca : A.length ≤ ca) (hcb : B.length ≤ cb) (hqa : qa = none → ca = 0) (hqb : qb = none → cb = 0) (w : World) (ha : Sees w w.heap.size qa (rowU A)) (hb : Sees w w.heap.size qb (rowU B)) :
    Calls Tryd.prog 38 #[.slice qa A.length ca, .slice qb B.length cb] w fun e w' => (∃ v, e = .returned v ∧ OwnU w' w.heap.size 24 v (eitU A B)) ∧ Below w.heap.size w w' := by
  have HM := Lib.hid (mergeEither_any A B qa qb ca cb hA hB hca hcb hqa hqb w ha hb)
  clear ha hb
  go_enter Tryd.func38, Tryd.ntmps38
  go_wp2_with ((with_reducible refine HM.out.mono ?_); rintro e w1 ⟨⟨v1, rfl, h1⟩, h2⟩; have HO1 := Lib.hid h1; have HB1 := Lib.hid h2; clear h1 h2)
  go_ret
  exact ⟨⟨_, rfl, HO1.out⟩, HB1.out⟩
end Go.Proofs.YtihkbblapfjobaaDoor
