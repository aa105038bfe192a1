/- Put in one by one, in whatever order, it is the set of all (SetAdds). No condition: every slice of sums, whatever its spare room, every turn; the law returns true and leaves its arguments as they were. -/
import Derived.Test.YtlidoikpfodpeaaDoorBt1
import Derived.Test.YtlidoikpfodpeaaDoorBase1
import Derived.Test.YtlidoikpfodpeaaDoorBsum1
import Derived.Test.YtlidoikpfodpeaaDoorCards
import Derived.Test.YtlidoikpfodpeaaDoorTie
import Derived.ShutString
import Derived.ChangeOld
import Derived.SevenTiedAt
/- The law SetAdds returns true, whatever its sums and its turn. Condition: the two listed variables as laid. -/
namespace Go.Proofs.YtlidoikpfodpeaaDoor
open Go.RowKit
/-- The sums in their turned order, the first i. -/
def rotL (L : List Su) (r i : Nat) : List Su := (List.range i).map fun k => L[(k + r) % L.length]!
theorem rotL_succ (L : List Su) (r i : Nat) : rotL L r (i + 1) = rotL L r i ++ [L[(i + r) % L.length]!] := by unfold rotL; rw [List.range_succ, List.map_append]; rfl
theorem rotL_len (L : List Su) (r i : Nat) : (rotL L r i).length = i := by unfold rotL; simp
theorem eit_srt (A : List Su) (x : Su) : eitU (srt A) [x] = srt (A ++ [x]) := srt_congr fun z => by rw [List.mem_append, List.mem_append, mem_srt]
theorem rot_all {L : List Su} {r : Nat} (h : 0 < L.length) (hr : r < L.length) : srt (rotL L r L.length) = srt L := srt_congr fun z => by
  unfold rotL
  rw [List.mem_map]
  constructor
  · rintro ⟨k, _, rfl⟩
    rw [getElem!_pos L _ (Nat.mod_lt _ h)]
    exact List.getElem_mem _
  · intro hz
    obtain ⟨j, hj, rfl⟩ := List.mem_iff_getElem.1 hz
    have hm : ((j + (L.length - r)) % L.length + r) % L.length = j := by
      rw [Nat.mod_add_mod, show j + (L.length - r) + r = j + L.length by omega, Nat.add_mod_right, Nat.mod_eq_of_lt hj]
    exact ⟨(j + (L.length - r)) % L.length, List.mem_range.2 (Nat.mod_lt _ h), by rw [hm, getElem!_pos L j hj]⟩
theorem u_addR {w : World} {q : Option Addr} {n c : Nat} {L : List Su} {r i : Nat} (h : U w q n c (srt (rotL L r i))) (hn : n ≤ 1000000) : Ans Tryd.prog 8 #[.slice q n c, .agg (encU L[(i + r) % L.length]!).toArray] w (srt (rotL L r (i + 1))) := by
  have := u_add L[(i + r) % L.length]! h hn
  rw [eit_srt, ← rotL_succ] at this
  exact this
set_option maxHeartbeats 16000000 in
set_option maxRecDepth 100000 in
theorem setAdds_any (L : List Su) (qa : Option Addr) (ca : Nat) (turn : Int) (ht : -9223372036854775808 ≤ turn ∧ turn ≤ 9223372036854775807) (w : World) (hl : Laid w) (ha : Sees w w.heap.size qa (rowU L)) :
    Calls Tryd.prog 5 #[.slice qa L.length ca, .int .i64 turn] w fun e w' => e = .returned (.bool true) ∧ Below w.heap.size w w' := by
  have HL := Lib.hid hl
  have HSZ := Lib.hid hl.size
  have HS := Lib.hid ha
  obtain ⟨n, hn⟩ : ∃ n, L.length = n := ⟨_, rfl⟩
  have HSA : Hid (∀ w', Below w.heap.size w w' → L.length = n ∧ Sees w' w'.heap.size qa (rowU L)) := Lib.hid (fun w' h => ⟨hn, (ha.keep h).more h.size⟩)
  have HN := Lib.hid hn
  have HAW := Lib.hid (fun w1 => awake10_any w1)
  rw [hn]
  clear ha hn hl
  go_enter Tryd.func5, Tryd.ntmps5
  go_upto_region 3 with ((with_reducible refine (HAW.out _).mono ?_); rintro e w0 ⟨rfl, h2⟩; have HB := Lib.hid h2; clear h2)
  by_cases h1 : n < 1
  · have k1 : (n : Int) < 1 := by omega
    go_wp2_with fail
    go_ret
    exact ⟨rfl, HB.out⟩
  have k1 : ¬ (n : Int) < 1 := by omega
  by_cases h2 : 60 < n
  · have k2 : (60 : Int) < (n : Int) := by omega
    go_wp2_with fail
    go_ret
    exact ⟨rfl, HB.out⟩
  have k2 : ¬ (60 : Int) < (n : Int) := by omega
  by_cases h3 : turn < 0
  · go_wp2_with fail
    go_ret
    exact ⟨rfl, HB.out⟩
  obtain ⟨t, rfl⟩ : ∃ t : Nat, turn = (t : Int) := ⟨turn.toNat, by omega⟩
  have hrn := run_none_su 26 24 elSet w0
  have HO0 := Lib.hid (OwnU.empty w0 w0.heap.size 24 (Nat.le_refl _))
  have HB0 := Lib.hid ((Below.refl w0.heap.size w0).alloc (Nat.le_refl _) (.cells #[] 24))
  go_wp2_with fail
  clear hrn
  generalize w0.alloc (.cells #[] 24) = w1 at *
  replace HB := Lib.hid (HB.out.trans (HB0.out.mono HB.out.size))
  obtain ⟨r, hr⟩ : ∃ r, r = t % n := ⟨_, rfl⟩
  have hrn : r < n := by rw [hr]; exact Nat.mod_lt _ (by omega)
  have HR := Lib.hid hr
  have HU0 : Hid (U w1 (some ⟨w0.heap.size, 0, none⟩) 0 0 (srt (rotL L r 0))) := Lib.hid ⟨rfl, Nat.le_refl _, fun h => (by cases h), Sees.nil _ _ _⟩
  clear hr HO0 HB0
  go_loopw [5, 6] (fun v5 v6 wr => ∃ (i : Nat) (q : Option Addr) (m c : Nat), i ≤ n ∧ v6 = .int .i64 i ∧ v5 = .slice q m c ∧ U wr q m c (srt (rotL L r i)) ∧ Below w.heap.size w wr) (fun _ v6 _ => n - (intOf v6).toNat)
  case atStart => exact ⟨0, _, 0, 0, by omega, rfl, rfl, HU0.out, HB.out⟩
  case round =>
    clear HU0 HB
    rename_i wr
    obtain ⟨i, q, m, c, hi, rfl, rfl, hu, hB⟩ := hrel
    have HU := Lib.hid hu
    have HB := Lib.hid hB
    have hm1 : m ≤ i := by
      have e := hu.1
      have l := len_srt_le (rotL L r i)
      rw [rotL_len] at l
      omega
    clear hu hB
    by_cases hlt : i < n
    · obtain ⟨p, hp⟩ : ∃ p, p = (i + r) % n := ⟨_, rfl⟩
      have hpn : p < n := by rw [hp]; exact Nat.mod_lt _ (by omega)
      have hpL : p < L.length := by rw [HN.out]; exact hpn
      obtain ⟨a, rfl, _, hc⟩ := Ss.el HS.out hpL
      have HXE : Hid (L[(i + r) % L.length]! = L[p]) := Lib.hid (by rw [HN.out, ← hp]; exact getElem!_pos L p hpL)
      have HADD : Hid (∀ wx, U wx q m c (srt (rotL L r i)) → Ans Tryd.prog 8 #[.slice q m c, .agg (encU L[p]).toArray] wx (srt (rotL L r (i + 1)))) := Lib.hid (fun wx h => by rw [← HXE.out]; exact u_addR h (by omega))
      have HMEM : Hid (L[p] ∈ srt (rotL L r (i + 1))) := Lib.hid (by rw [mem_srt, rotL_succ, HXE.out]; simp)
      generalize L[p] = x at *
      have HC : Hid (∀ w', Below w.heap.size w w' → ∀ j u, (encU x)[j]? = some u → w'.cell? ((a.add (p * 32)).add j) = some u) := Lib.hid hc
      have k3 : (i : Int) < (n : Int) := by omega
      have k4 : (t : Int) % (n : Int) = (r : Int) := by rw [HR.out]; rfl
      have k5 : ((i : Int) + (r : Int)) % (n : Int) = (p : Int) := by rw [hp]; norm_cast
      have k6 : (p : Int) < (n : Int) := by omega
      have k7 : (t : Int).tmod (n : Int) = (r : Int) := by rw [Int.tmod_eq_emod_of_nonneg (by omega)]; exact k4
      have k8 : ((i : Int) + (r : Int)).tmod (n : Int) = (p : Int) := by rw [Int.tmod_eq_emod_of_nonneg (by omega)]; exact k5
      have k9 : ¬ (n : Int) = 0 := by omega
      have HGD : Hid (goodU (srt (rotL L r (i + 1))) = true) := Lib.hid (goodU_of (asc_srt _) (by have l := len_srt_le (rotL L r (i + 1)); rw [rotL_len] at l; omega))
      have HP := Lib.hid hp
      have HHB : Hid ((goodU (srt (rotL L r (i + 1))) && decide (x ∈ srt (rotL L r (i + 1)))) = true) := Lib.hid (by rw [HGD.out, decide_eq_true HMEM.out]; rfl)
      have HC1 := Lib.hid (HC.out wr HB.out)
      have HA1 := Lib.hid (HADD.out wr HU.out)
      have HLN : Hid (∀ (q' : Option Addr) (m' c' : Nat) (wx : World), U wx q' m' c' (srt (rotL L r (i + 1))) → m' ≤ i + 1) := Lib.hid (fun _ _ _ _ h => by have e := h.len; have l := len_srt_le (rotL L r (i + 1)); rw [rotL_len] at l; omega)
      clear hc hp HADD
      have t0 : True := trivial
      go_wp2_with (first
        | (refine wpList_load_su rfl 23 (.tmp 39) rfl _ rfl elArr.2.1 szArr x HC1.out ?_)
        | (refine wpList_load_suOn rfl 23 (.tmp 57) rfl _ rfl elArr.2.1 szArr x HC3.out ?_)
        | (have t1 := t0; clear t0; (with_reducible refine Calls.mono HA1.out ?_); rintro e x1 ⟨⟨q1, n1, c1, rfl, h1⟩, h2⟩; have HU1 := Lib.hid h1; have b1 := HLN.out _ _ _ _ h1; have HB1 := Lib.hid (HB.out.trans (h2.mono HB.out.size)); clear h1 h2)
        | (have t2 := t1; clear t1; (with_reducible refine Calls.mono (u_good HU1.out (by omega) true HGD.out) ?_); rintro e x2 ⟨rfl, h2⟩; have HU2 := Lib.hid (HU1.out.keep h2); have HB2 := Lib.hid (HB1.out.trans (h2.mono HB1.out.size)); have HC3 := Lib.hid (HC.out x2 HB2.out); clear h2)
        | (have t3 := t2; clear t2; (with_reducible refine Calls.mono (u_has HU2.out (by omega) true HHB.out) ?_); rintro e x3 ⟨rfl, h2⟩; have HU3 := Lib.hid (HU2.out.keep h2); have HB3 := Lib.hid (HB2.out.trans (h2.mono HB2.out.size)); clear h2))
      go_roundw
      case rel => exact ⟨i + 1, q1, n1, c1, by omega, by go_num, rfl, HU3.out, HB3.out⟩
      case measure => simp [intOf]; omega
    · have hin : i = n := by omega
      subst hin
      have k3 : ¬ (i : Int) < (i : Int) := by omega
      have HE : Hid (srt (rotL L r i) = srt L) := Lib.hid (by have h := rot_all (L := L) (r := r) (by rw [HN.out]; omega) (by rw [HN.out]; omega); rw [HN.out] at h; exact h)
      have HASC : Hid (goodU (srt (rotL L r i)) = true) := Lib.hid (goodU_of (asc_srt _) (by have l := len_srt_le (rotL L r i); rw [rotL_len] at l; omega))
      have HSB : Hid ((goodU (srt (rotL L r i)) && decide (srt (rotL L r i) = srt L)) = true) := Lib.hid (by rw [HASC.out, decide_eq_true HE.out]; rfl)
      have heq : ∀ w1, (Op.equalIn 10000 24 (.agg (encU (tellU (srt (rotL L r i)))).toArray) (.agg (encU (tellU (srt (rotL L r i)))).toArray)).run Tryd.prog w1 = .ok true w1 := fun w1 => by
        have h := eqIn_su 24 elSum.2.1 (tellU (srt (rotL L r i))) (tellU (srt (rotL L r i))) w1
        rw [decide_eq_true rfl] at h; exact h
      have hgd := gdSum
      have HTL : Hid (tellU (srt (rotL L r i)) = tellU (srt L)) := Lib.hid (by rw [HE.out])
      have HRA : Hid (∀ wx, Below w.heap.size w wx → Ans Tryd.prog 17 #[.slice qa i ca] wx L) := Lib.hid (fun wx h => u_row (HSA.out wx h) (by omega))
      have HOF : Hid (∀ (wx : World) (q' : Option Addr) (m' c' : Nat), U wx q' m' c' L → Ans Tryd.prog 7 #[.slice q' m' c'] wx (srt L)) := Lib.hid (fun wx q' m' c' h => u_of h (by have e := h.len; have e2 := HN.out; omega))
      have HTE : Hid (∀ (wx : World) (q' : Option Addr) (m' c' : Nat), Below w.heap.size w wx → U wx q' m' c' (srt (rotL L r i)) → Calls Tryd.prog 13 #[.slice q' m' c'] wx fun e w' => e = .returned (.agg (encU (tellU (srt (rotL L r i)))).toArray) ∧ Below wx.heap.size wx w') := Lib.hid (fun wx q' m' c' hb h => u_tell (HL.out.keep hb HSZ.out) h (by have e := h.len; have l := len_srt_le (rotL L r i); rw [rotL_len] at l; omega))
      generalize tellU (srt (rotL L r i)) = tt at *
      have t0 : True := trivial
      go_wp2_with (first
        | (have t1 := t0; clear t0; (with_reducible refine Calls.mono (HRA.out wr HB.out) ?_); rintro e x1 ⟨⟨q1, n1, c1, rfl, h1⟩, h2⟩; have HU1 := Lib.hid h1; have HV1 := Lib.hid (HU.out.keep h2); have HB1 := Lib.hid (HB.out.trans (h2.mono HB.out.size)); clear h1 h2)
        | (have t2 := t1; clear t1; (with_reducible refine Calls.mono (HOF.out x1 q1 n1 c1 HU1.out) ?_); rintro e x2 ⟨⟨q2, n2, c2, rfl, h1⟩, h2⟩; have HU2 := Lib.hid h1; have HV2 := Lib.hid (HV1.out.keep h2); have HB2 := Lib.hid (HB1.out.trans (h2.mono HB1.out.size)); clear h1 h2)
        | (have t3 := t2; clear t2; (with_reducible refine Calls.mono (u_same HV2.out HU2.out (by omega) true HSB.out) ?_); rintro e x3 ⟨rfl, h2⟩; have HV3 := Lib.hid (HV2.out.keep h2); have HB3 := Lib.hid (HB2.out.trans (h2.mono HB2.out.size)); clear h2)
        | (have t4 := t3; clear t3; (with_reducible refine Calls.mono (HTE.out x3 q m c HB3.out HV3.out) ?_); rintro e x4 ⟨rfl, h2⟩; have HB4 := Lib.hid (HB3.out.trans (h2.mono HB3.out.size)); clear h2)
        | (have t5 := t4; clear t4; (with_reducible refine Calls.mono (HRA.out x4 HB4.out) ?_); rintro e x5 ⟨⟨q5, n5, c5, rfl, h1⟩, h2⟩; have HU5 := Lib.hid h1; have HB5 := Lib.hid (HB4.out.trans (h2.mono HB4.out.size)); clear h1 h2)
        | (have t6 := t5; clear t5; (with_reducible refine Calls.mono (HOF.out x5 q5 n5 c5 HU5.out) ?_); rintro e x6 ⟨⟨q6, n6, c6, rfl, h1⟩, h2⟩; have HU6 := Lib.hid (h1.eq HE.out.symm); have HB6 := Lib.hid (HB5.out.trans (h2.mono HB5.out.size)); clear h1 h2)
        | (have t7 := t6; clear t6; (with_reducible refine Calls.mono (HTE.out x6 q6 n6 c6 HB6.out HU6.out) ?_); rintro e x7 ⟨rfl, h2⟩; have HB7 := Lib.hid (HB6.out.trans (h2.mono HB6.out.size)); clear h2))
      go_ret
      exact ⟨rfl, HB7.out⟩
end Go.Proofs.YtlidoikpfodpeaaDoor
namespace Go.Proofs.YtlidoikpfodpeaaDoor
open Go.ChangeShapes Go.WideShapes Go.ChangeAt Go.RowKit
set_option maxRecDepth 100000 in
theorem setAdds_lifted (os : Os) (started : os.Started) (H : Type) (enc : TypeId × Value → H) :
    ReturnsInHanded {} Tryd.checked os 5 .any (fun w args => (Rows.setAddsSpec.pre enc Tryd.prog Tryd.f5 [] false w args ∧ laidMetH Tryd.prog laidVars w) ∧ sizedMet enc Tryd.prog Tryd.f5 (OpenSpec.ofChange Rows.setAddsSpec) false w args)
      (Rows.setAddsSpec.post enc Tryd.prog Tryd.f5 false true false false) := by
  refine returnsInHanded_of_change_and (C := Tryd.checked) (X := fun w _ => laidMetH Tryd.prog laidVars w) (fun _ _ _ hh h => h.of_heap hh) own started (by kernel_rfl) Tryd.func5
    (ChangeSpec.witness_shaped (enc := enc) (C := Tryd.checked) (os := os) (X := fun w _ => laidMetH Tryd.prog laidVars w) false (World.doorLaid Tryd.prog 400 os) #[.slice none 0 0, .int .i64 0] 8 rfl (World.shaped_of_RefB (by kernel_rfl) (by kernel_rfl)) (by kernel_rfl) (by kernel_rfl) (by kernel_rfl) (door_met os _)) ?_
  intro W base args ds gs before hval0 hW _ _ hL _
  have hval : ∀ (j : Nat) t v, Tryd.f5.params[j]? = some t → args[j]? = some v → Value.okWide Tryd.prog W .any base t v := hval0
  have hW' := hW
  obtain ⟨p, q, hA0, hV, rfl, hfz, hnd⟩ := hW
  have hA : DataW.TrodAll enc Tryd.prog W 0 (fun _ => true) true Tryd.f5.params.toList args.toList ds p := hA0
  rw [Tryd.params5] at hA hval
  obtain ⟨v0, vs0, d0, ds0, p0, g0, hargs, rfl, rfl, h0, r0⟩ := trodAll_cons hA
  obtain ⟨v1, vs1, d1, ds1, p1, g1, rfl, rfl, rfl, h1, r1⟩ := trodAll_cons r0
  obtain ⟨rfl, rfl, rfl⟩ := trodAll_nil r1
  obtain rfl : args = #[v0, v1] := by cases args; simp_all
  obtain ⟨rfl, rfl⟩ := trodVars_none hV
  have k0 := h0
  have lt0 : ∀ x ∈ p0, x.block < W.heap.size := by obtain ⟨m, hm⟩ := k0; exact DataW.trod_lt m _ _ _ hm
  obtain ⟨l0, q0, c0, rfl, hc0, hq0, hs0⟩ := open_sus (hval 0 36 v0 rfl rfl) h0
  obtain ⟨a1, rfl, rfl, rfl, m1⟩ := open_int Tryd.underlying3 (hval 1 3 v1 rfl rfl) h1
  have b1 := bounds_i64 m1
  clear hA0 hval0
  refine (setAdds_any l0 q0 c0 a1 b1 W (of_laid hL) hs0).mono fun e W' ⟨he, bel⟩ => ?_
  subst he
  exact ⟨_, rfl, _, _, _, [], _, [], hW', trodAll_mk1 (shut_bool Tryd.underlying4 _), (trodAll_cons_mk (Below.trod laidOut (by kernel_rfl) (of_decide_eq_true (by kernel_rfl)) k0 bel lt0) (trodAll_cons_mk (shut_int Tryd.underlying3 m1) trodAll_mk0)), rfl, bel.frame _, fun h => by cases h⟩
theorem setAdds_row : Rows.SetAddsSaid :=
  OpenClaim.holds_of_wide 5 Tryd.f5 rfl rfl rfl rfl rfl rfl rfl ⟨rfl, rfl, rfl, rfl, rfl⟩ rfl rfl rfl rfl rfl (by kernel_rfl) Tryd.func5 (by kernel_rfl)
    (of_decide_eq_true (by kernel_rfl)) (by unfold Func.isWrapper; first | (rw [if_pos (by decide +kernel)]; kernel_rfl) | (rw [if_neg (by decide +kernel)]; exact ⟨rfl, rfl⟩))
    (fun os started H enc _ => setAdds_lifted os started H enc)
theorem setAdds_holds : Rows.SetAddsCardSaid :=
  Claim7.holds_tied_plain_at .later [] [.data, .data] true Rows.setAddsCard.stood.harness Rows.setAddsCard.stood.looks
    setAdds_row (fun _ h => by cases h) (by kernel_rfl) (fun _ h => by cases h) setAdds_row_tie rfl ⟨rfl, rfl⟩ (by kernel_rfl) rfl
    (fun f fn hf hfn => by
      obtain rfl : f = 5 := Option.some.inj ((show Tryd.prog.funcNamed "tallyman/tallymanlaw10.SetAdds" = some 5 by kernel_rfl).symm.trans hf) |>.symm
      obtain rfl : fn = Tryd.f5 := (Option.some.inj (Tryd.func5.symm.trans hfn)).symm
      exact ⟨by kernel_rfl, fun j t ht => by
        rw [Tryd.params5] at ht
        have hm : t ∈ [36, 3] := by simpa using Array.mem_of_getElem? ht
        have hall : ([36, 3].all fun u => !Tryd.prog.wantsStandIn u) = true := by kernel_rfl
        exact (show Tryd.prog.wantsStandIn t = false by simpa using List.all_eq_true.1 hall t hm)⟩)
    (by kernel_rfl)
#print axioms setAdds_holds
end Go.Proofs.YtlidoikpfodpeaaDoor
