/- The law DiskQuota returns true at every input, and its arguments read as they did. No condition. -/
import Derived.Test.YtefamkckoikeoaaDoorBase5
import Derived.Test.YtefamkckoikeoaaDoorCards
import Derived.Test.YtefamkckoikeoaaDoorTie
import Derived.ShutString
import Derived.ChangeOld
import Derived.SevenTiedAt
/- The law DiskQuota returns true, whatever the changes. Conditions: strings of at most 2^61 bytes, bytes at most 2^47. -/
namespace Go.Proofs.YtefamkckoikeoaaDoor
open Go.RowKit
/-- A disk that holds what the law's loop asks. -/
def QuotaI (w : World) (g : Nat) (quota : Int) (i : Nat) (B : Option Nat) (S : DS) : Prop := DiskAt w g (g + 1) B S ∧ Sm S ∧ S.waits.length ≤ i ∧ (bytesT S.now : Int) ≤ quota ∧ S.quota = quota ∧ Lit S ∧ 0 ≤ S.count ∧ S.count ≤ i
set_option maxHeartbeats 16000000 in
set_option maxRecDepth 100000 in
theorem quota9_any (quota : Int) (L : List ActE) (q : Option Addr) (c : Nat) (hz : ∀ e ∈ L, okC e) (w : World) (hs : Sees w w.heap.size q (rowA L)) (hB : ∀ e ∈ L, Bs w e.2.2.2.1 e.2.2.2.2) :
    Calls Tryd.prog 8 #[.int .i64 quota, .slice q L.length c] w fun e w' => e = .returned (.bool true) ∧ Below w.heap.size w w' := by
  have HS := Lib.hid hs
  have HBL := Lib.hid hB
  have HZ := Lib.hid hz
  clear hs hB hz
  go_enter Tryd.func8, Tryd.ntmps8
  go_wp2_with fail
  refine (awake9_any _).mono ?_
  rintro e w0 ⟨rfl, hb⟩
  have HB := Lib.hid hb
  clear hb
  go_wp2_with fail
  refine (new_any [] none 0 quota (Nat.le_refl _) (by simp) (fun _ => rfl) (by simp [bytesT]) (fun _ h => by cases h) w0 (Sees.nil _ _ _) (fun _ h => by cases h)).mono ?_
  rintro e w1 ⟨hn, hb⟩
  have HLE := Lib.hid HB.out.size
  replace HB := Lib.hid (HB.out.trans (hb.mono HB.out.size))
  by_cases hq : 0 ≤ quota ∧ quota ≤ 16384
  · obtain ⟨g, rfl, hg, hd⟩ := newP_ok hn hq.1 hq.2
    have HQ := Lib.hid hq
    have HG : Hid (w.heap.size ≤ g) := Lib.hid (Nat.le_trans HLE.out hg)
    have HI : Hid (QuotaI w1 g quota 0 none (newS [] quota)) := Lib.hid ⟨hd, new_sm _ _, Nat.le_refl _, by simp [newS, bytesT]; exact hq.1, rfl, ⟨rfl, rfl⟩, Int.le_refl _, Int.le_refl _⟩
    clear hn hb hg hd hq
    by_cases hl : 40 < L.length
    · have kl : (40 : Int) < (L.length : Int) := by omega
      go_wp2_with fail
      go_ret
      exact ⟨rfl, HB.out⟩
    have kl : ¬ (40 : Int) < (L.length : Int) := by omega
    generalize newS [] quota = S0 at *
    go_wp2_with fail
    go_loopw [7, 8, 9] (fun vi _ _ wr => ∃ (i : Nat) (B : Option Nat) (S : DS), i ≤ L.length ∧ vi = .int .i64 i ∧ QuotaI wr g quota i B S ∧ Below w.heap.size w wr) (fun vi _ _ _ => L.length - (intOf vi).toNat)
    case atStart => exact ⟨0, _, _, by omega, rfl, HI.out, HB.out⟩
    case round =>
      rename World => wr
      clear HB HI
      obtain ⟨i, B, S, hi, rfl, hI, hB⟩ := hrel
      have HB := Lib.hid hB
      obtain ⟨hD, hsm, hwl, hby, hqu, hlit, hc0, hc1⟩ := hI
      have HD := Lib.hid hD
      have HP := Lib.hid (And.intro hsm (And.intro hwl (And.intro hby (And.intro hqu (And.intro hlit (And.intro hc0 hc1))))))
      clear hB hD hsm hwl hby hqu hlit hc0 hc1
      by_cases hlt : i < L.length
      · have kk : (i : Int) < (L.length : Int) := by omega
        obtain ⟨a, rfl, ha, hc⟩ := HS.out.act hlt
        obtain ⟨c0, c1, c2, c3⟩ := hc wr HB.out
        have HC : Hid (∀ w', Below w.heap.size w w' → _) := Lib.hid hc
        obtain ⟨qb, cb, hv, hcb, hqb, hsb⟩ := (HBL.out L[i] (List.getElem_mem hlt)).keep HB.out
        have hok := HZ.out L[i] (List.getElem_mem hlt)
        obtain ⟨e, he⟩ : ∃ e, L[i] = e := ⟨_, rfl⟩
        simp only [he] at c0 c1 c2 c3 hv hcb hsb hok HC
        obtain ⟨op, p, t, bv, bb⟩ := e
        have hv' : bv = .slice qb (List.length bb) cb := hv
        subst hv'
        simp only [] at c0 c1 c2 c3 hcb hsb hok HC
        have HSB : Hid (∀ w', Below wr.heap.size wr w' → Sees w' w'.heap.size qb (bb.map u8v)) := Lib.hid (fun w' h => (hsb.keep h).more h.size)
        have HQB := Lib.hid (And.intro hcb hqb)
        have HOK : Hid (p.size < 2305843009213693952 ∧ t.size < 2305843009213693952 ∧ bb.length ≤ 140737488355328) := Lib.hid hok
        clear hc ha hv hcb hqb hsb hok he
        by_cases hx : 2100 < bb.length
        · have k1 : (2100 : Int) < (bb.length : Int) := by omega
          go_wp2_with fail
          go_ret
          exact ⟨rfl, HB.out⟩
        have k1 : ¬ (2100 : Int) < (bb.length : Int) := by omega
        go_wp2_with fail
        clear c0 c1 c2 c3
        refine (count_any _ _ _ _ _ HD.out).mono ?_
        rintro e w2 ⟨rfl, hb⟩
        replace HB := Lib.hid (HB.out.trans (hb.mono HB.out.size))
        replace HD := Lib.hid (HD.out.keep hb)
        replace HSB := Lib.hid (HSB.out _ hb)
        obtain ⟨c0, c1, c2, c3⟩ := HC.out w2 HB.out
        clear hb HC
        have hCNT : -9223372036854775808 ≤ S.count ∧ S.count < 9223372036854775807 := by have := HP.out.2.2.2.2.2; omega
        have HDO := Lib.hid (do_any g (g + 1) B S op p t bb qb cb HOK.out.1 HOK.out.2.1 HOK.out.2.2 HQB.out.1 HQB.out.2 HP.out.1 (by have := HP.out.2.1; omega) hCNT w2 HD.out HSB.out)
        clear hCNT
        go_wp2_with fail
        clear c0 c1 c2 c3
        refine HDO.out.mono ?_
        rintro e w3 ⟨rfl, ha⟩
        replace HB := Lib.hid (HB.out.trans (After.below HD.out ha HG.out))
        obtain ⟨_, hD2, _, _⟩ := ha
        replace HD := Lib.hid hD2
        clear hD2
        clear HDO
        have hlit := do_lit HP.out.2.2.2.2.1 (op, p, t, bb)
        have hl2 := do_lit2 HP.out.2.2.2.2.1 (op, p, t, bb)
        have hsm2 := do_sm HP.out.1 (op, p, t, bb) HOK.out (by have := HP.out.2.1; omega)
        have HNB : Hid ((bytesT (doS S (op, p, t, bb)).1.now : Int) ≤ quota) := Lib.hid (by
          have h3 := HP.out.2.2.1
          have h4 := HP.out.2.2.2.1
          rcases hlit with ⟨h1, _⟩ | ⟨_, h2, h1⟩
          · rw [h1]; exact h3
          · rw [h1]
            show (bytesT (chE S.now (op, p, t, bb)).1 : Int) ≤ quota
            omega)
        have HNI : Hid ((doS S (op, p, t, bb)).1.waits.length ≤ i + 1 ∧ (doS S (op, p, t, bb)).1.quota = quota ∧ 0 ≤ (doS S (op, p, t, bb)).1.count ∧ (doS S (op, p, t, bb)).1.count ≤ ((i + 1 : Nat) : Int)) := Lib.hid (by
          obtain ⟨_, h1, _, h2, _, h3, h4⟩ := HP.out
          rcases hlit with ⟨h5, _⟩ | ⟨_, _, h5⟩
          · rw [h5]; exact ⟨by omega, h2, h3, by omega⟩
          · rw [h5]; simp only [List.length_append, List.length_singleton]; exact ⟨by omega, h2, by omega, by omega⟩)
        have HCC : Hid (((doS S (op, p, t, bb)).1.count = S.count ∧ (doS S (op, p, t, bb)).2 ≠ 0) ∨ ((doS S (op, p, t, bb)).1.count = S.count + 1 ∧ (doS S (op, p, t, bb)).2 = 0)) := Lib.hid (by
          rcases hlit with ⟨h5, h6⟩ | ⟨_, _, h5⟩
          · exact .inl ⟨by rw [h5], h6⟩
          · exact .inr ⟨by rw [h5], by rw [h5]⟩)
        have HL2 := Lib.hid (And.intro hl2 hsm2)
        have HGD : Hid (goodP (doS S (op, p, t, bb)).1.now = true) := Lib.hid HD.out.2.2.1.now
        clear hlit hl2 hsm2
        generalize doS S (op, p, t, bb) = R at *
        obtain ⟨S2, E⟩ := R
        simp only [] at HD HNB HNI HCC HL2 HGD
        have HBYT : Hid (∀ w' v, RdT w' v S2.now → Calls Tryd.prog 19 #[.agg #[v]] w' fun e w2 => e = .returned (.int .i64 (bytesT S2.now : Int)) ∧ Below w'.heap.size w' w2) := Lib.hid (fun w' v h => by
          obtain ⟨C, q, c, rfl, _, h2, _, h4, h5, h6, _, h7, h8, h9, h10⟩ := rdt_parts h HGD.out
          have := tbytes_any C q c (by omega) h2 (by omega) (fun e he => by have := h10 e he; omega) w' h4 h5
          rwa [h7] at this)
        have HGOOD : Hid (∀ w' v, RdT w' v S2.now → Calls Tryd.prog 40 #[.agg #[v]] w' fun e w2 => e = .returned (.bool true) ∧ Below w'.heap.size w' w2) := Lib.hid (fun w' v h => by
          obtain ⟨C, q, c, rfl, _, h2, _, h4, h5, h6, _, h7, h8, h9, h10⟩ := rdt_parts h HGD.out
          have := tgood_any C q c (by omega) h2 (by omega) (fun e he => by have := h10 e he; omega) w' h4 h5
          rwa [h6] at this)
        have kby : ¬ quota < (bytesT S2.now : Int) := by have := HNB.out; omega
        have HIN : Hid (∀ w' B2, DiskAt w' g (g + 1) B2 S2 → QuotaI w' g quota (i + 1) B2 S2) := Lib.hid (fun w' B2 h => ⟨h, HL2.out.2, HNI.out.1, HNB.out, HNI.out.2.1, HL2.out.1, HNI.out.2.2⟩)
        have kwi : IntKind.i64.wrap ((i : Int) + 1) = (i : Int) + 1 := by rw [IntWalk.i64_in _ (by omega)]
        go_wp2_with fail
        refine (now_any _ _ _ _ _ HD.out).mono ?_
        rintro e w4 ⟨⟨v, rfl, hR⟩, hb⟩
        replace HB := Lib.hid (HB.out.trans (hb.mono HB.out.size))
        replace HD := Lib.hid (HD.out.keep hb)
        go_wp2_with fail
        refine (HBYT.out _ _ hR).mono ?_
        rintro e w5 ⟨rfl, hb⟩
        replace HB := Lib.hid (HB.out.trans (hb.mono HB.out.size))
        replace HD := Lib.hid (HD.out.keep hb)
        clear hb hR HBYT
        rcases HCC.out with ⟨hcc, hE⟩ | ⟨hcc, hE⟩
        · have kE1 : (E == 0) = false := by simpa using hE
          have kE2 : (E != 0) = true := by simpa using hE
          have kE3 : (E = 0) = False := eq_false hE
          have kc1 : (S.count == S.count) = true := by simp
          have kc2 : (S.count != S.count) = false := by simp
          go_wp2_with fail
          refine (count_any _ _ _ _ _ HD.out).mono ?_
          rintro e w6 ⟨rfl, hb⟩
          replace HB := Lib.hid (HB.out.trans (hb.mono HB.out.size))
          replace HD := Lib.hid (HD.out.keep hb)
          rw [hcc]
          clear hb
          go_wp2_with fail
          refine (count_any _ _ _ _ _ HD.out).mono ?_
          rintro e w7 ⟨rfl, hb⟩
          replace HB := Lib.hid (HB.out.trans (hb.mono HB.out.size))
          replace HD := Lib.hid (HD.out.keep hb)
          rw [hcc]
          clear hb
          go_wp2_with fail
          refine (now_any _ _ _ _ _ HD.out).mono ?_
          rintro e w8 ⟨⟨v, rfl, hR⟩, hb⟩
          replace HB := Lib.hid (HB.out.trans (hb.mono HB.out.size))
          replace HD := Lib.hid (HD.out.keep hb)
          go_wp2_with fail
          refine (HGOOD.out _ _ hR).mono ?_
          rintro e w9 ⟨rfl, hb⟩
          replace HB := Lib.hid (HB.out.trans (hb.mono HB.out.size))
          replace HD := Lib.hid (HD.out.keep hb)
          have HF := Lib.hid (HIN.out _ _ HD.out)
          clear hb hR HGOOD HIN HD
          go_wp2_with fail
          go_roundw
          case rel => exact ⟨i + 1, _, _, by omega, by go_num, HF.out, HB.out⟩
          case measure => simp [intOf]; omega
        · subst hE
          have kc1 : (S.count + 1 == S.count) = false := by simp; omega
          have kc2 : (S.count + 1 != S.count) = true := by simp; omega
          have kc3 : (S.count + 1 = S.count) = False := eq_false (by omega)
          go_wp2_with fail
          refine (count_any _ _ _ _ _ HD.out).mono ?_
          rintro e w6 ⟨rfl, hb⟩
          replace HB := Lib.hid (HB.out.trans (hb.mono HB.out.size))
          replace HD := Lib.hid (HD.out.keep hb)
          rw [hcc]
          clear hb
          go_wp2_with fail
          refine (count_any _ _ _ _ _ HD.out).mono ?_
          rintro e w7 ⟨rfl, hb⟩
          replace HB := Lib.hid (HB.out.trans (hb.mono HB.out.size))
          replace HD := Lib.hid (HD.out.keep hb)
          rw [hcc]
          clear hb
          go_wp2_with fail
          refine (now_any _ _ _ _ _ HD.out).mono ?_
          rintro e w8 ⟨⟨v, rfl, hR⟩, hb⟩
          replace HB := Lib.hid (HB.out.trans (hb.mono HB.out.size))
          replace HD := Lib.hid (HD.out.keep hb)
          go_wp2_with fail
          refine (HGOOD.out _ _ hR).mono ?_
          rintro e w9 ⟨rfl, hb⟩
          replace HB := Lib.hid (HB.out.trans (hb.mono HB.out.size))
          replace HD := Lib.hid (HD.out.keep hb)
          have HF := Lib.hid (HIN.out _ _ HD.out)
          clear hb hR HGOOD HIN HD
          go_wp2_with fail
          go_roundw
          case rel => exact ⟨i + 1, _, _, by omega, by go_num, HF.out, HB.out⟩
          case measure => simp [intOf]; omega
      · have hil : i = L.length := by omega
        subst hil
        have k0 : ¬ (L.length : Int) < (L.length : Int) := by omega
        go_wp2_with fail
        go_ret
        exact ⟨rfl, HB.out⟩
  · have he : e = .returned (.tuple #[.pointer none, .int .i64 1]) := by
      unfold newP at hn; rwa [if_neg (fun h => hq h.2)] at hn
    subst he
    clear hn hq hb
    go_wp2_with fail
    go_ret
    exact ⟨rfl, HB.out⟩
end Go.Proofs.YtefamkckoikeoaaDoor
namespace Go.Proofs.YtefamkckoikeoaaDoor
open Go.ChangeShapes Go.WideShapes Go.ChangeAt Go.RowKit Go.ChangeMaps
set_option maxRecDepth 100000 in
theorem quota9_lifted (os : Os) (started : os.Started) (H : Type) (enc : TypeId × Value → H) :
    ReturnsInHanded {} Tryd.checked os 8 .any (fun w args => (Rows.diskQuotaSpec.pre enc Tryd.prog Tryd.f8 [] false w args ∧ laidMetH Tryd.prog laidVars w) ∧ sizedMet enc Tryd.prog Tryd.f8 (OpenSpec.ofChange Rows.diskQuotaSpec) false w args)
      (Rows.diskQuotaSpec.post enc Tryd.prog Tryd.f8 false true false false) := by
  refine returnsInHanded_of_change_and (C := Tryd.checked) (X := fun w _ => laidMetH Tryd.prog laidVars w) (fun _ _ _ hh h => h.of_heap hh) own started (by kernel_rfl) Tryd.func8
    (ChangeSpec.witness_shaped (enc := enc) (C := Tryd.checked) (os := os) (X := fun w _ => laidMetH Tryd.prog laidVars w) false (World.laidAll Tryd.prog os laidVars) #[.int .i64 0, .slice none 0 0] 8 (World.laidAll_os _ _ _) (World.shaped_of_ZipB (by kernel_rfl) (by kernel_rfl)) (by kernel_rfl) (by kernel_rfl) (by kernel_rfl) (laid_met os _)) ?_
  intro W base args ds gs before hval0 hW _ hsz0 hL _
  have hval : ∀ (j : Nat) t v, Tryd.f8.params[j]? = some t → args[j]? = some v → Value.okWide Tryd.prog W .any base t v := hval0
  have hW' := hW
  obtain ⟨p, q, hA0, hV, rfl, hfz, hnd⟩ := hW
  have hA : DataW.TrodAll enc Tryd.prog W 0 (fun _ => true) true Tryd.f8.params.toList args.toList ds p := hA0
  have hsz : (DataW.weightsEach Tryd.prog (Tryd.f8.params.toList ++ Rows.diskQuotaSpec.plain.varTypes Tryd.prog) (ds ++ gs)).all (· ≤ reachBytes) = true := hsz0
  rw [Tryd.params8] at hA hval hsz
  obtain ⟨v0, vs0, d0, ds0, p0, g0, hargs, rfl, rfl, h0, r0⟩ := trodAll_cons hA
  obtain ⟨v1, vs1, d1, ds1, p1, g1, rfl, rfl, rfl, h1, r1⟩ := trodAll_cons r0
  obtain ⟨rfl, rfl, rfl⟩ := trodAll_nil r1
  obtain rfl : args = #[v0, v1] := by cases args; simp_all
  obtain ⟨rfl, rfl⟩ := trodVars_none hV
  obtain ⟨a0, rfl, rfl, rfl, m0⟩ := open_int Tryd.underlying3 (hval 0 3 v0 rfl rfl) h0
  have k1 := h1
  have lt1 : ∀ x ∈ p1, x.block < W.heap.size := by obtain ⟨m, hm⟩ := k1; exact DataW.trod_lt m _ _ _ hm
  obtain ⟨l1, q1, c1, rfl, hs1, hB1, hw1⟩ := open_chgs (hval 1 48 v1 rfl rfl) h1
  have z1 : ∀ e ∈ l1, okC e := fun e he => wt_ok (hw1 e he) fun n hn => of_decide_eq_true (List.all_eq_true.1 hsz n (DataW.weights_mem_each (j := 1) rfl rfl n hn))
  clear hA0 hval0
  refine (quota9_any a0 l1 q1 c1 z1 W hs1 hB1).mono fun e W' ⟨he, bel⟩ => ?_
  subst he
  exact ⟨_, rfl, _, _, _, [], _, [], hW', trodAll_mk1 (shut_bool Tryd.underlying4 _), (trodAll_cons_mk (shut_int Tryd.underlying3 m0) (trodAll_cons_mk (Below.trod laidOut (by kernel_rfl) (of_decide_eq_true (by kernel_rfl)) k1 bel lt1) trodAll_mk0)), rfl, bel.frame _, fun h => by cases h⟩
theorem quota9_row : Rows.DiskQuotaSaid :=
  OpenClaim.holds_of_wide 8 Tryd.f8 rfl rfl rfl rfl rfl rfl rfl ⟨rfl, rfl, rfl, rfl, rfl⟩ rfl rfl rfl rfl rfl (by kernel_rfl) Tryd.func8 (by kernel_rfl)
    (of_decide_eq_true (by kernel_rfl)) (by unfold Func.isWrapper; first | (rw [if_pos (by decide +kernel)]; kernel_rfl) | (rw [if_neg (by decide +kernel)]; exact ⟨rfl, rfl⟩))
    (fun os started H enc _ => quota9_lifted os started H enc)
theorem diskQuota_holds : Rows.DiskQuotaCardSaid :=
  Claim7.holds_tied_plain_at .later [] [.data, .pinned] true Rows.diskQuotaCard.stood.harness Rows.diskQuotaCard.stood.looks
    quota9_row (fun _ h => by cases h) (by kernel_rfl) (fun _ h => by cases h) diskQuota_row_tie rfl ⟨rfl, rfl⟩ (by kernel_rfl) rfl
    (fun f fn hf hfn => by
      obtain rfl : f = 8 := Option.some.inj ((show Tryd.prog.funcNamed "tallyman/tallymanlaw9.DiskQuota" = some 8 by kernel_rfl).symm.trans hf) |>.symm
      obtain rfl : fn = Tryd.f8 := (Option.some.inj (Tryd.func8.symm.trans hfn)).symm
      exact ⟨by kernel_rfl, fun j t ht => by
        rw [Tryd.params8] at ht
        have hm : t ∈ [3, 48] := by simpa using Array.mem_of_getElem? ht
        have hall : ([3, 48].all fun u => !Tryd.prog.wantsStandIn u) = true := by kernel_rfl
        exact (show Tryd.prog.wantsStandIn t = false by simpa using List.all_eq_true.1 hall t hm)⟩)
    (by kernel_rfl)
#print axioms diskQuota_holds
end Go.Proofs.YtefamkckoikeoaaDoor
