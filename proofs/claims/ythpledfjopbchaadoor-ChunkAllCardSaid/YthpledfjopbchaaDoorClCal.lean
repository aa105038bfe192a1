/- All names of some texts are the names of each (ChunkAll): the law returns true. No condition. -/
import Derived.Test.YthpledfjopbchaaDoorBe1
import Derived.Test.YthpledfjopbchaaDoorBb1
import Derived.Test.YthpledfjopbchaaDoorCards
import Derived.Test.YthpledfjopbchaaDoorTie
import Derived.ShutString
import Derived.ChangeOld
import Derived.SevenTiedAt
/- Contract: chunk.All: the names of all. Conditions: at most a hundred texts of at most a thousand bytes; the sums' tables are laid. -/
namespace Go.Proofs.YthpledfjopbchaaDoor
open Go.RowKit
def namesA (L : List (List (BitVec 8))) : List Su := L.flatMap namesU
theorem namesA_take (L : List (List (BitVec 8))) (i : Nat) (h : i < L.length) : namesA (L.take (i + 1)) = namesA (L.take i) ++ namesU L[i] := by
  unfold namesA
  rw [List.take_add_one, List.getElem?_eq_getElem h, List.flatMap_append]; simp
theorem namesA_len (L : List (List (BitVec 8))) (m : Nat) (h : ∀ x ∈ L, (namesU x).length ≤ m) : (namesA L).length ≤ L.length * m := by
  induction L with
  | nil => simp [namesA]
  | cons x L ih =>
    have h1 := h x (List.mem_cons_self ..)
    have h2 := ih fun y hy => h y (List.mem_cons_of_mem _ hy)
    show (namesU x ++ namesA L).length ≤ _
    rw [List.length_append, List.length_cons, Nat.succ_mul]; omega
theorem Ps.at {w : World} {q : Option Addr} {n c : Nat} {L : List (List (BitVec 8))} (h : Ps w (.slice q n c) L) {i : Nat} (hi : i < L.length) :
    ∃ (a : Addr) (u : Value), q = some a ∧ Bs w u L[i] ∧ ∀ w', Below w.heap.size w w' → w'.cell? (a.add i) = some u := by
  obtain ⟨q', c', vs, e, hs, hl, hb⟩ := h
  cases e
  have hi' : i < vs.length := by rw [hl]; exact hi
  obtain ⟨a, rfl, ha, hc⟩ := hs.get (by omega)
  refine ⟨a, vs[i], rfl, hb i _ _ (List.getElem?_eq_getElem hi') (List.getElem?_eq_getElem hi), fun w' hw => ?_⟩
  rw [hw.cell (by rw [add_block]; exact ha)]
  exact hc i _ (List.getElem?_eq_getElem hi')
set_option maxHeartbeats 4000000 in
set_option maxRecDepth 100000 in
theorem all_any (L : List (List (BitVec 8))) (q : Option Addr) (c : Nat) (w : World) (hP : Ps w (.slice q L.length c) L) (hn : L.length ≤ 100) (hx : ∀ x ∈ L, x.length ≤ 1000) (hL : Laid w) :
    Calls Tryd.prog 13 #[.slice q L.length c] w fun e w' => (∃ v, e = .returned v ∧ OwnU w' w.heap.size 24 v (srt (namesA L))) ∧ Below w.heap.size w w' := by
  have HP := Lib.hid hP
  have HX := Lib.hid hx
  have HL := Lib.hid hL
  have HSZ := Lib.hid hL.size
  have HNM : Hid (∀ x ∈ L, (namesU x).length ≤ 1000) := Lib.hid (fun x h => Nat.le_trans (namesU_length x) (hx x h))
  have HTOT : Hid (∀ i, (namesA (L.take i)).length ≤ 100000) := Lib.hid (fun i => by
    have h1 := namesA_len (L.take i) 1000 fun x hx => HNM.out x (List.mem_of_mem_take hx)
    have h2 : (L.take i).length ≤ 100 := by rw [List.length_take]; omega
    have h3 := Nat.mul_le_mul_right 1000 h2
    omega)
  have HNIL := Lib.hid (OwnU.nil w w.heap.size 24)
  clear hP hx hL
  go_enter Tryd.func13, Tryd.ntmps13
  go_upto_region 3 with fail
  go_loopw [3, 8] (fun v vi wr => ∃ j : Nat, j ≤ L.length ∧ vi = .int .i64 j ∧ OwnU wr w.heap.size 24 v (namesA (L.take j)) ∧ Below w.heap.size w wr) (fun _ vi _ => L.length - (intOf vi).toNat)
  case atStart => exact ⟨0, by omega, rfl, HNIL.out, Below.refl _ _⟩
  case round =>
    clear HNIL
    rename_i wr
    obtain ⟨j, hj, rfl, hrow, hB⟩ := hrel
    have HROW := Lib.hid hrow
    have HB := Lib.hid hB
    clear hrow hB
    by_cases hlt : j < L.length
    · obtain ⟨ad, u, rfl, hbs, hcell⟩ := HP.out.at hlt
      have hmem : L[j] ∈ L := List.getElem_mem hlt
      have hxl := HX.out _ hmem
      have HNA := Lib.hid (namesA_take L j hlt)
      have hnm := HNM.out _ hmem
      obtain ⟨x, hx⟩ : ∃ x, x = L[j] := ⟨_, rfl⟩
      rw [← hx] at hbs HNA hxl hnm
      have HBS := Lib.hid hbs
      obtain ⟨qx, cx, rfl, hcx, hqx, hsx⟩ := hbs
      have c1 := hcell wr HB.out
      have HNAMES := Lib.hid (names_any x qx cx wr hcx hqx (by omega) ((hsx.keep HB.out).more HB.out.size) (HL.out.keep HB.out HSZ.out))
      have kk : (j : Int) < (L.length : Int) := by omega
      have HLEN : Hid ((namesA (L.take j)).length + (namesU x).length ≤ 4000000) := Lib.hid (by have := HTOT.out j; omega)
      have HBSZ := Lib.hid HB.out.size
      clear hcell hx hmem hcx hqx hsx hxl hnm
      go_wp2_with (first
        | ((with_reducible refine HNAMES.out.mono ?_); rintro e w4 ⟨⟨v4, rfl, h1⟩, h2⟩; obtain ⟨q4, c4, rfl, hc4, hq4, hs4⟩ := h1.us; have HB4 := Lib.hid h2; have HS4 := Lib.hid hs4; have HQ4 := Lib.hid hq4; have HROW4 := Lib.hid (HROW.out.keep h2); clear h1 h2 hs4 hq4 hc4)
        | (refine wpList_append_su rfl 32 24 elSum (.tmp 12) (.tmp 14) rfl w.heap.size _ (namesA (L.take j)) rfl HROW4.out q4 (namesU x) (namesU x).length c4 w4.heap.size rfl rfl HQ4.out HS4.out HLEN.out (Nat.le_trans HBSZ.out HB4.out.size) ?_; intro v5 w5 h1 h2; have HROW5 := Lib.hid h1; have HB5 := Lib.hid h2; clear h1 h2))
      go_roundw
      case rel => exact ⟨j + 1, by omega, by go_num, by rw [HNA.out]; exact HROW5.out, (HB.out.trans (HB4.out.mono HBSZ.out)).trans HB5.out⟩
      case measure => simp [intOf]; omega
    · have hjl : j = L.length := by omega
      subst hjl
      have kk : ¬ ((L.length : Int) < (L.length : Int)) := by omega
      have hrow := HROW.out
      rw [List.take_length] at hrow
      obtain ⟨q4, c4, rfl, hc4, hq4, hs4⟩ := hrow.us
      have hlen : (namesA L).length ≤ 1000000 := by have := HTOT.out L.length; rw [List.take_length] at this; omega
      have HOF := Lib.hid (setOf_any (namesA L) q4 c4 hlen wr hs4)
      clear hlt hrow hc4 hq4 hs4 hlen HROW
      go_wp2_with ((with_reducible refine HOF.out.mono ?_); rintro e w5 ⟨⟨v5, rfl, h1⟩, h2⟩; have HO5 := Lib.hid h1; have HB5 := Lib.hid h2; clear h1 h2)
      go_ret
      exact ⟨⟨_, rfl, HO5.out.less HB.out.size⟩, HB.out.trans (HB5.out.mono HB.out.size)⟩
end Go.Proofs.YthpledfjopbchaaDoor
/- The law ChunkAll: it answers true. Condition: the arguments read as texts; the sums' tables are laid. -/
namespace Go.Proofs.YthpledfjopbchaaDoor
open Go.RowKit
theorem namesU_few (b : List (BitVec 8)) (h : b.length ≤ 500) : (namesU b).length ≤ 40 := by
  have h1 : (namesU b).length = (endsL plR 0 b).length := by unfold namesU; rw [List.length_map, cutP_length]
  rw [h1]
  by_cases h0 : (endsL plR 0 b).length = 0
  · omega
  · have h2 := endsL_least plR_ok b ((endsL plR 0 b).length - 1) (by omega)
    obtain ⟨k1, k2, _⟩ := endsL_lt plR_ok b ((endsL plR 0 b).length - 1) (by omega)
    have e : plR.mn = 16 := rfl
    rw [e] at h2
    omega
theorem eit_names (X Y : List Su) : eitU (srt X) (srt Y) = srt (X ++ Y) := by
  unfold eitU
  refine srt_congr fun x => ?_
  rw [List.mem_append, List.mem_append, mem_srt, mem_srt]
set_option maxHeartbeats 4000000 in
set_option maxRecDepth 100000 in
theorem chunkAll_any (L : List (List (BitVec 8))) (q : Option Addr) (c : Nat) (w : World) (hP : Ps w (.slice q L.length c) L) (hn : L.length < 9223372036854775808) (hb : ∀ x ∈ L, x.length < 9223372036854775808) (hL : Laid w) :
    Calls Tryd.prog 7 #[.slice q L.length c] w fun e w' => e = .returned (.bool true) ∧ Below w.heap.size w w' := by
  have HP := Lib.hid hP
  have HL := Lib.hid hL
  have HSZ := Lib.hid hL.size
  have HBB := Lib.hid hb
  have HAW := Lib.hid (awake11_any w hL)
  clear hP hL hb
  go_enter Tryd.func7, Tryd.ntmps7
  go_upto_region 3 with ((with_reducible refine HAW.out.mono ?_); rintro e w0 ⟨rfl, h2⟩; have HB0 := Lib.hid h2; clear h2)
  clear HAW
  by_cases h8 : L.length > 8
  · have k1 : (L.length : Int) > 8 := by omega
    go_wp2_with fail
    go_ret
    exact ⟨rfl, HB0.out⟩
  have k1 : ¬ (L.length : Int) > 8 := by omega
  go_upto_region 5 with fail
  refine wp_region_lit ?_
  try simp only [Act.put, List.setIfInBounds_toArray, List.set_cons_zero, List.set_cons_succ]
  refine lp_step (by kernel_rfl) (fun K hK => wp_none_su 36 24 elSet rfl (hK _ _ ?_))
  try simp only [Act.put, List.setIfInBounds_toArray, List.set_cons_zero, List.set_cons_succ]
  refine lp_pure (v := ?_) (by kernel_rfl) ?_ ?_
  rotate_left
  · go_simp; try with_reducible rfl
  try simp only [Act.put, List.setIfInBounds_toArray, List.set_cons_zero, List.set_cons_succ]
  refine wpList_nil ?_
  have HB1 : Hid (Below w.heap.size w (w0.alloc (.cells #[] 24))) := Lib.hid (HB0.out.alloc HB0.out.size _)
  have HU0 : Hid (U (w0.alloc (.cells #[] 24)) (some ⟨w0.heap.size, 0, none⟩) 0 0 []) := Lib.hid ⟨rfl, Nat.le_refl _, fun h => (by cases h), Sees.nil _ _ _⟩
  generalize w0.alloc (.cells #[] 24) = w1 at *
  generalize w0.heap.size = g1 at *
  have HBK := Lib.hid (Below.refl w1.heap.size w1)
  go_upto_region 7 with fail
  go_loopw [3, 4] (fun v vi wr => ∃ j : Nat, j ≤ L.length ∧ vi = .int .i64 j ∧ (∃ q n c, v = .slice q n c ∧ U wr q n c (srt (namesA (L.take j)))) ∧ (∀ x ∈ L.take j, x.length ≤ 500) ∧ Below w.heap.size w wr) (fun _ vi _ => L.length - (intOf vi).toNat)
  case atStart => exact ⟨0, by omega, rfl, ⟨_, _, _, rfl, HU0.out⟩, fun x hx => by simp at hx, HB1.out⟩
  case round =>
    clear HU0 HB1 HBK HB0
    rename_i wr
    obtain ⟨j, hj, rfl, ⟨qs, ns, cs, rfl, hU⟩, hsm, hB⟩ := hrel
    have HU := Lib.hid hU
    have HSM := Lib.hid hsm
    have HB := Lib.hid hB
    clear hU hsm hB
    have HTOT : Hid ((namesA (L.take j)).length ≤ 320) := Lib.hid (by
      have h1 := namesA_len (L.take j) 40 fun x hx => namesU_few x (HSM.out x hx)
      have h2 : (L.take j).length ≤ 8 := by rw [List.length_take]; omega
      have h3 := Nat.mul_le_mul_right 40 h2
      omega)
    have HNS : Hid (ns ≤ 320) := Lib.hid (by have h1 := HU.out.len; have h2 := len_srt_le (namesA (L.take j)); have h3 := HTOT.out; omega)
    by_cases hlt : j < L.length
    · obtain ⟨ad, u, rfl, hbs, hcell⟩ := HP.out.at hlt
      have hmem : L[j] ∈ L := List.getElem_mem hlt
      have hxb := HBB.out _ hmem
      have HNA := Lib.hid (namesA_take L j hlt)
      have HTK : Hid (∀ y, y ∈ L.take (j + 1) ↔ y ∈ L.take j ∨ y = L[j]) := Lib.hid (fun y => by rw [List.take_add_one, List.getElem?_eq_getElem hlt, List.mem_append]; simp)
      obtain ⟨x, hx⟩ : ∃ x, x = L[j] := ⟨_, rfl⟩
      rw [← hx] at hbs HNA HTK hxb
      obtain ⟨qx, cx, rfl, hcx, hqx, hsx⟩ := hbs
      have c1 := hcell wr HB.out
      have kk : (j : Int) < (L.length : Int) := by omega
      by_cases h5 : x.length > 500
      · have k5 : (x.length : Int) > 500 := by omega
        clear hcell hx hmem hcx hqx hsx
        go_wp2_with fail
        go_ret
        exact ⟨rfl, HB.out⟩
      · have k5 : ¬ (x.length : Int) > 500 := by omega
        have HNAMES := Lib.hid (names_any x qx cx wr hcx hqx (by omega) ((hsx.keep HB.out).more HB.out.size) (HL.out.keep HB.out HSZ.out))
        have hnf := namesU_few x (by omega)
        have HNF := Lib.hid hnf
        have HX5 : Hid (x.length ≤ 500) := Lib.hid (by omega)
        have HFIN : Hid (eitU (srt (namesA (L.take j))) (srt (namesU x)) = srt (namesA (L.take (j + 1)))) := Lib.hid (by rw [eit_names, HNA.out])
        clear hcell hx hmem hcx hqx hsx hnf hxb
        go_wp2_with (first
          | ((with_reducible refine HNAMES.out.mono ?_); rintro e w4 ⟨⟨v4, rfl, h1⟩, h2⟩; obtain ⟨q4, n4, c4, rfl, hu4⟩ := U.of h1.us; have HB4 := Lib.hid h2; have HU4 := Lib.hid hu4; have HUS := Lib.hid (HU.out.keep h2); have HN4 : Hid (n4 ≤ 1000000) := Lib.hid (by rw [← hu4.len]; exact Nat.le_trans HNF.out (by decide)); clear h1 h2 hu4)
          | ((with_reducible refine Calls.mono (u_of HU4.out HN4.out) ?_); rintro e w5 ⟨⟨q5, n5, c5, rfl, hu5⟩, h2⟩; have HB5 := Lib.hid h2; have HU5 := Lib.hid hu5; have HUT := Lib.hid (HUS.out.keep h2); have HN5 : Hid (n5 ≤ 1000000) := Lib.hid (by rw [← hu5.len]; exact Nat.le_trans (len_srt_le _) (Nat.le_trans HNF.out (by decide))); clear h2 hu5)
          | ((with_reducible refine Calls.mono (u_either HUT.out HU5.out (Nat.le_trans HNS.out (by decide)) HN5.out) ?_); rintro e w6 ⟨⟨q6, n6, c6, rfl, hu6⟩, h2⟩; have HB6 := Lib.hid h2; have HU6 := Lib.hid (hu6.eq HFIN.out); clear h2 hu6))
        have kll : j < 1000000 := by omega
        go_roundw
        case rel =>
          refine ⟨j + 1, by omega, by go_num, ⟨_, _, _, rfl, HU6.out⟩, fun y hy => ?_, HB.out.trans ((HB4.out.trans ((HB5.out.trans (HB6.out.mono HB5.out.size)).mono HB4.out.size)).mono HB.out.size)⟩
          rcases (HTK.out y).1 hy with h | h
          · exact HSM.out y h
          · rw [h]; exact HX5.out
        case measure => simp [intOf]; omega
    · have hjl : j = L.length := by omega
      subst hjl
      have kk : ¬ ((L.length : Int) < (L.length : Int)) := by omega
      have hU := HU.out
      have hsm := HSM.out
      have htot := HTOT.out
      rw [List.take_length] at hU hsm htot
      have HALL := Lib.hid (all_any L q c wr (hP := HP.out.keep HB.out) (by omega) (fun x hx => Nat.le_trans (hsm x hx) (by decide)) (HL.out.keep HB.out HSZ.out))
      have HUF := Lib.hid hU
      have HLN : Hid ((srt (namesA L)).length ≤ 512) := Lib.hid (by have := len_srt_le (namesA L); omega)
      clear hlt hU hsm htot HU HSM HTOT
      go_wp2_with (first
        | ((with_reducible refine HALL.out.mono ?_); rintro e w4 ⟨⟨v4, rfl, h1⟩, h2⟩; obtain ⟨q4, n4, c4, rfl, hu4⟩ := U.of h1.us; have HB4 := Lib.hid h2; have HU4 := Lib.hid hu4; have HUS := Lib.hid (HUF.out.keep h2); have HN4 : Hid (n4 ≤ 1000000) := Lib.hid (by rw [← hu4.len]; exact Nat.le_trans HLN.out (by decide)); clear h1 h2 hu4)
        | ((with_reducible refine Calls.mono (u_same HU4.out HUS.out HN4.out true (same_true (asc_srt _) HLN.out rfl)) ?_); rintro e w5 ⟨rfl, h2⟩; have HB5 := Lib.hid h2; clear h2))
      go_ret
      exact ⟨rfl, HB.out.trans ((HB4.out.trans (HB5.out.mono HB4.out.size)).mono HB.out.size)⟩
end Go.Proofs.YthpledfjopbchaaDoor
namespace Go.Proofs.YthpledfjopbchaaDoor
open Go.ChangeShapes Go.WideShapes Go.ChangeAt Go.RowKit
set_option maxRecDepth 100000 in
theorem chunkAll_lifted (os : Os) (started : os.Started) (H : Type) (enc : TypeId × Value → H) :
    ReturnsInHanded {} Tryd.checked os 7 .any (fun w args => (Rows.chunkAllSpec.pre enc Tryd.prog Tryd.f7 [] false w args ∧ laidMetH Tryd.prog laidVars w) ∧ sizedMet enc Tryd.prog Tryd.f7 (OpenSpec.ofChange Rows.chunkAllSpec) false w args)
      (Rows.chunkAllSpec.post enc Tryd.prog Tryd.f7 false true false false) := by
  refine returnsInHanded_of_change_and (C := Tryd.checked) (X := fun w _ => laidMetH Tryd.prog laidVars w) (fun _ _ _ hh h => h.of_heap hh) own started (by kernel_rfl) Tryd.func7
    (ChangeSpec.witness_shaped (enc := enc) (C := Tryd.checked) (os := os) (X := fun w _ => laidMetH Tryd.prog laidVars w) false (World.doorLaid Tryd.prog 400 os) #[.slice none 0 0] 8 rfl (World.shaped_of_RefB (by kernel_rfl) (by kernel_rfl)) (by kernel_rfl) (by kernel_rfl) (by kernel_rfl) (door_met os _)) ?_
  intro W base args ds gs before hval0 hW _ _ hL _
  have hval : ∀ (j : Nat) t v, Tryd.f7.params[j]? = some t → args[j]? = some v → Value.okWide Tryd.prog W .any base t v := hval0
  have hW' := hW
  obtain ⟨p, q, hA0, hV, rfl, hfz, hnd⟩ := hW
  have hA : DataW.TrodAll enc Tryd.prog W 0 (fun _ => true) true Tryd.f7.params.toList args.toList ds p := hA0
  rw [Tryd.params7] at hA hval
  obtain ⟨v0, vs0, d0, ds0, p0, g0, hargs, rfl, rfl, h0, r0⟩ := trodAll_cons hA
  obtain ⟨rfl, rfl, rfl⟩ := trodAll_nil r0
  obtain rfl : args = #[v0] := by cases args; simp_all
  obtain ⟨rfl, rfl⟩ := trodVars_none hV
  have k0 := h0
  have lt0 : ∀ x ∈ p0, x.block < W.heap.size := by obtain ⟨m, hm⟩ := k0; exact DataW.trod_lt m _ _ _ hm
  obtain ⟨l0, q0, c0, rfl, hc0, hq0, hm0, hs0⟩ := open_bytess (hval 0 58 v0 rfl rfl) h0
  clear hA0 hval0
  refine (chunkAll_any l0 q0 c0 W hs0 (by have := hm0.1; unfold maxLen at this; omega) (fun x hx => by have := hm0.2 x hx; unfold maxLen at this; omega) (of_laid hL)).mono fun e W' ⟨he, bel⟩ => ?_
  subst he
  exact ⟨_, rfl, _, _, _, [], _, [], hW', trodAll_mk1 (shut_bool Tryd.underlying4 _), (trodAll_cons_mk (Below.trod laidOut (by kernel_rfl) (of_decide_eq_true (by kernel_rfl)) k0 bel lt0) trodAll_mk0), rfl, bel.frame _, fun h => by cases h⟩
theorem chunkAll_row : Rows.ChunkAllSaid :=
  OpenClaim.holds_of_wide 7 Tryd.f7 rfl rfl rfl rfl rfl rfl rfl ⟨rfl, rfl, rfl, rfl, rfl⟩ rfl rfl rfl rfl rfl (by kernel_rfl) Tryd.func7 (by kernel_rfl)
    (of_decide_eq_true (by kernel_rfl)) (by unfold Func.isWrapper; first | (rw [if_pos (by decide +kernel)]; kernel_rfl) | (rw [if_neg (by decide +kernel)]; exact ⟨rfl, rfl⟩))
    (fun os started H enc _ => chunkAll_lifted os started H enc)
theorem chunkAll_holds : Rows.ChunkAllCardSaid :=
  Claim7.holds_tied_plain_at .later [] [.data, .data] true Rows.chunkAllCard.stood.harness Rows.chunkAllCard.stood.looks
    chunkAll_row (fun _ h => by cases h) (by kernel_rfl) (fun _ h => by cases h) chunkAll_row_tie rfl ⟨rfl, rfl⟩ (by kernel_rfl) rfl
    (fun f fn hf hfn => by
      obtain rfl : f = 7 := Option.some.inj ((show Tryd.prog.funcNamed "tallyman/tallymanlaw11.ChunkAll" = some 7 by kernel_rfl).symm.trans hf) |>.symm
      obtain rfl : fn = Tryd.f7 := (Option.some.inj (Tryd.func7.symm.trans hfn)).symm
      exact ⟨by kernel_rfl, fun j t ht => by
        rw [Tryd.params7] at ht
        have hm : t ∈ [58] := by simpa using Array.mem_of_getElem? ht
        have hall : ([58].all fun u => !Tryd.prog.wantsStandIn u) = true := by kernel_rfl
        exact (show Tryd.prog.wantsStandIn t = false by simpa using List.all_eq_true.1 hall t hm)⟩)
    (by kernel_rfl)
#print axioms chunkAll_holds
end Go.Proofs.YthpledfjopbchaaDoor
