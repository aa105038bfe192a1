/- The walk of the law RollSays: it returns true. No condition but that the arguments are of their types. -/
import Derived.Test.YtaeoaaajkcnbkaaAwake
import Derived.OpenShut
namespace Go.Proofs.Ytaeoaaajkcnbkaa
open Go.RowKit
theorem cut_both (a : Option Addr) (n cap f t : Nat) (h1 : f ≤ t) (h2 : t ≤ cap) (w : World) :
    (Instr.slice 31 (.slice a n cap) (some (.int .i64 (f : Int))) (some (.int .i64 (t : Int))) none).run Try.prog w = .ok (.slice (cutQ a cap f) (t - f) (cap - f)) w := by
  obtain ⟨i0, hi, _, hz1, _⟩ := info_parts u8_info
  have he : Try.prog.elem 31 = 5 := by kernel_rfl
  rw [run_slice_lh (ht := by rw [he]; exact Try.underlying31) (h0 := by omega) (h1 := by omega) (h2 := by omega), he]
  simp [sizeOf, typeInfo, hi, hz1, sliced, cutQ]
theorem both_sees {w : World} {B' : Nat} {q : Option Addr} {b : List (BitVec 8)} {c : Nat} (f t : Nat) (h : Sees w B' q (b.map u8v)) (hc : t ≤ c) : Sees w B' (cutQ q c f) (((b.take t).drop f).map u8v) := by
  rw [List.map_drop, List.map_take]
  exact (h.head t).cut (by rw [List.length_take]; omega)
theorem says_quick (n : Int) (b : List (BitVec 8)) (q : Option Addr) (c : Nat) (w : World) (h : 300 < b.length) :
    Calls Try.prog 4 #[.int .i64 n, .slice q b.length c] w fun e w' => e = .returned (.bool true) ∧ Below w.heap.size w w' := by
  have HA := Lib.hid (awake_any w)
  have k1 : (300 : Int) < (b.length : Int) := by omega
  clear h
  go_enter Try.func4, Try.ntmps4
  go_wp2_with fail
  refine HA.out.mono ?_
  rintro e w1 ⟨rfl, hb1⟩
  have HB := Lib.hid hb1
  clear hb1
  go_wp2_with fail
  go_ret
  exact ⟨rfl, HB.out⟩
set_option maxHeartbeats 4000000 in
set_option maxRecDepth 100000 in
theorem says_any (n : Int) (b : List (BitVec 8)) (q : Option Addr) (c : Nat) (w : World) (hs : Sees w w.heap.size q (b.map u8v)) (hc : b.length ≤ c) :
    Calls Try.prog 4 #[.int .i64 n, .slice q b.length c] w fun e w' => e = .returned (.bool true) ∧ Below w.heap.size w w' := by
  by_cases hquick : 300 < b.length
  · exact says_quick n b q c w hquick
  · have hbl : b.length ≤ 300 := by omega
    obtain ⟨m1, m2⟩ := hw_bd n
    have HN := Lib.hid (fun w1 => new_any n w1)
    have HW : Hid ((hw n : Int) = if n < 1 then 1 else if 64 < n then 64 else n) := Lib.hid (by unfold hw; split; · rfl
                                                                                                split <;> omega)
    generalize hw n = m at *
    have HA := Lib.hid (awake_any w)
    have k1 : ¬ (300 : Int) < (b.length : Int) := by omega
    have HS := Lib.hid hs
    have HC := Lib.hid hc
    clear hquick hs hc
    go_enter Try.func4, Try.ntmps4
    go_wp2_with fail
    refine HA.out.mono ?_
    rintro e w1 ⟨rfl, hb1⟩
    have HB1 := Lib.hid hb1
    clear hb1 HA
    go_wp2_with fail
    refine (HN.out w1).mono ?_
    rintro e w2 ⟨rfl, hx2, hb2, hz2⟩
    have hB2 := HB1.out.trans (hb2.mono HB1.out.size)
    have hX2 := hx2
    have hW0 := HB1.out.size
    clear hx2 hb2 hz2 HB1 HN
    generalize w1.heap.size = g at *
    have HX2 := Lib.hid hX2
    have HB2 := Lib.hid hB2
    clear hX2 hB2
    obtain ⟨n1, hn1⟩ : ∃ n1 : Int, n1 = if n < 1 then 1 else n := ⟨_, rfl⟩
    have HN1 := Lib.hid hn1
    clear hn1
    go_upto_if 21 with (fail)
    go_cut [6] (fun v wc => v = .int .i64 n1 ∧ wc = w2)
    case first =>
      by_cases c1 : n < 1
      · have E : Hid ((1 : Int) = n1) := Lib.hid (by have := HN1.out; rw [if_pos c1] at this; omega)
        go_wp2_with fail
        go_meet
        exact ⟨congrArg _ E.out, rfl⟩
      · have E : Hid (n = n1) := Lib.hid (by have := HN1.out; rw [if_neg c1] at this; omega)
        go_wp2_with fail
        go_meet
        exact ⟨congrArg _ E.out, rfl⟩
    case rest =>
      obtain ⟨rfl, rfl⟩ := hcut
      go_upto_if 23 with (fail)
      go_cut [6] (fun v wd => v = .int .i64 (m : Int) ∧ wd = wc)
      case first =>
        by_cases c1 : 64 < n1
        · have E : Hid ((64 : Int) = (m : Int)) := Lib.hid (by have := HN1.out; have := HW.out; omega)
          go_wp2_with fail
          go_meet
          exact ⟨congrArg _ E.out, rfl⟩
        · have E : Hid (n1 = (m : Int)) := Lib.hid (by have := HN1.out; have := HW.out; omega)
          go_wp2_with fail
          go_meet
          exact ⟨congrArg _ E.out, rfl⟩
      case rest =>
        obtain ⟨rfl, rfl⟩ := hcut
        clear HW HN1
        go_wp2_with fail
        have hX3 := HX2.out
        have hB3 := HB2.out
        clear HX2 HB2
        go_loopw [7] (fun i wr => ∃ k : Nat, k ≤ b.length ∧ i = .int .i64 k ∧ WinAt wr g m (b.take k) ∧ Below w.heap.size w wr) (fun i _ => b.length - (intOf i).toNat)
        case atStart => exact ⟨0, by omega, rfl, hX3, hB3⟩
        case round =>
          clear hX3 hB3
          rename_i wr
          obtain ⟨k, hk, rfl, hX, hB⟩ := hrel
          by_cases hlt : k < b.length
          · have HX := Lib.hid hX
            have HB := Lib.hid hB
            have wr1 : IntKind.i64.wrap ((k : Int) + 1) = ((k + 1 : Nat) : Int) := IntWalk.i64_in _ (by omega)
            have HK := Lib.hid (take_at8 b k hlt)
            have hx := at8_of b k hlt
            obtain ⟨t, ht⟩ : ∃ t, t = k + 1 := ⟨_, rfl⟩
            have htl : t ≤ b.length := by omega
            rw [← ht] at wr1 HK
            obtain ⟨z, hz⟩ : ∃ z : Int, z = (t : Int) - (m : Int) := ⟨_, rfl⟩
            have wr2 : IntKind.i64.wrap ((t : Int) - (m : Int)) = z := by rw [hz]; exact IntWalk.i64_in _ (by omega)
            obtain ⟨f, hf⟩ : ∃ f, f = t - m := ⟨_, rfl⟩
            have HTk := Lib.hid ht
            have HZ := Lib.hid hz
            have HF := Lib.hid hf
            clear ht hz hf hX hB
            go_upto_if 35 with (fail)
            go_cut [8] (fun v wd => v = .int .i64 (f : Int) ∧ wd = wr)
            case first =>
              by_cases c1 : t < m
              · have E : Hid ((0 : Int) = (f : Int)) := Lib.hid (by have := HF.out; omega)
                have zn : z < 0 := by have := HZ.out; omega
                go_wp2_with fail
                go_meet
                exact ⟨congrArg _ E.out, rfl⟩
              · have E : Hid (z = (f : Int)) := Lib.hid (by have := HF.out; have := HZ.out; omega)
                have zn : ¬ z < 0 := by have := HZ.out; omega
                go_wp2_with fail
                go_meet
                exact ⟨congrArg _ E.out, rfl⟩
            case rest =>
              obtain ⟨rfl, rfl⟩ := hcut
              have hft : f ≤ t := by have := HF.out; omega
              have hlc := HC.out
              have cS := fun v => cut_both q b.length c f t hft (by omega) v
              have htk : (b.take t).length = t := by rw [List.length_take]; omega
              have hdl : ((b.take t).drop f).length = t - f := by rw [List.length_drop, htk]
              have hlast : lastN m (b.take t) = (b.take t).drop f := by unfold lastN; rw [htk, HF.out]
              have HR := Lib.hid (fun v h => rroll_any ((b.take t).drop f) (cutQ q c f) (c - f) v h (by omega))
              have HO := Lib.hid (fun v h => of_any ((b.take t).drop f) (cutQ q c f) (c - f) v h (by omega))
              have H1 := Lib.hid (fun v h => add_any v g m (b.take k) (at8 b k) m1 m2 h)
              rw [← HK.out] at H1
              have H2 := Lib.hid (fun v h => sum_any v g m (b.take t) h)
              have H3 := Lib.hid (fun v h => len_any v g m (b.take t) h)
              rw [hdl] at HR HO
              rw [htk] at H3
              rw [hlast] at H1 H2
              have ks : decide ((2305843009213693951 : Int) ≤ ((rsum ((b.take t).drop f) : Nat) : Int)) = false := by have := rsum_lt ((b.take t).drop f); rw [decide_eq_false_iff_not]; omega
              have HQ : Hid (∀ v, Sees v v.heap.size q (b.map u8v) → Sees v v.heap.size (cutQ q c f) (((b.take t).drop f).map u8v)) := Lib.hid (fun v h => both_sees f t h (by omega))
              have wr3 : IntKind.i64.wrap ((t : Int) - (f : Int)) = ((min t m : Nat) : Int) := by rw [IntWalk.i64_in _ (by omega)]; have := HF.out; omega
              obtain ⟨ad, rfl, hadb, hcell⟩ := HS.out (by rw [List.length_map]; omega)
              have cx0 := hcell k _ hx
              have HX0 : Hid (∀ v, Below w.heap.size w v → v.cell? (ad.add k) = some (.int .u8 (B (at8 b k)))) := Lib.hid (fun v hv => (hv.cell (by rw [add_block]; exact hadb)).trans cx0)
              generalize rsum ((b.take t).drop f) = s at *
              generalize (b.take t).drop f = D at *
              generalize cutQ (some ad) c f = q1 at *
              generalize t - f = l1 at *
              generalize c - f = c1 at *
              generalize min t m = l2 at *
              generalize at8 b k = x at *
              have hs1 := HQ.out wc ((HS.out.keep HB.out).more HB.out.size)
              have HR1 := Lib.hid (HR.out wc hs1)
              have HG := Lib.hid HX.out.lt
              have HSz := Lib.hid HB.out.size
              clear HR hs1 hlast hdl htk hcell cx0 hadb hlc hft hx
              go_wp2_with fail
              refine HR1.out.mono ?_
              rintro e v1 ⟨rfl, hb1⟩
              have HB1 := Lib.hid (HB.out.trans (hb1.mono HSz.out))
              have HX1 := Lib.hid (HX.out.keep hb1 HG.out)
              have cx := HX0.out v1 HB1.out
              have kl : k < b.length := hlt
              clear hb1 HB HX HG HSz HR1
              go_wp2_with fail
              refine (H1.out v1 HX1.out).mono ?_
              rintro e v2 ⟨rfl, hx2, ho2⟩
              have HB2 := Lib.hid (HB1.out.trans (ho2.below.mono hW0))
              have HX2 := Lib.hid hx2
              have HO2 := Lib.hid (HO.out v2 (HQ.out v2 ((HS.out.keep HB2.out).more HB2.out.size)))
              clear hx2 ho2 HB1 HX1 cx H1 HO
              go_wp2_with fail
              refine (H2.out _ HX2.out).mono ?_
              rintro e v3 ⟨rfl, rfl⟩
              go_wp2_with fail
              refine (H3.out _ HX2.out).mono ?_
              rintro e v3 ⟨rfl, rfl⟩
              go_wp2_with fail
              refine HO2.out.mono ?_
              rintro e v3 ⟨rfl, rfl⟩
              go_wp2_with fail
              go_roundw
              case rel => exact ⟨t, htl, rfl, HX2.out, HB2.out⟩
              case measure => have := HTk.out; simp [intOf]; omega
          · have hkl : k = b.length := by omega
            have HB := Lib.hid hB
            have k3 : ¬ (k : Int) < (b.length : Int) := by omega
            clear hX hB hlt hkl
            go_wp2_with fail
            go_ret
            exact ⟨rfl, HB.out⟩
end Go.Proofs.Ytaeoaaajkcnbkaa
