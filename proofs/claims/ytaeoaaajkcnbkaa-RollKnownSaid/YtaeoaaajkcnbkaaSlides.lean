/- The walk of the law RollSlides: it returns true. No condition but that the arguments are of their types. -/
import Derived.Test.YtaeoaaajkcnbkaaAwake
import Derived.OpenShut
namespace Go.Proofs.Ytaeoaaajkcnbkaa
open Go.RowKit
theorem slides_plain (b : List (BitVec 8)) (h : 2 ≤ b.length) : sl (rsum (b.take (b.length - 1))) (at8 b 0) (at8 b (b.length - 1)) (b.length - 1) = rsum (b.drop 1) := by
  rcases b with _ | ⟨x, t⟩
  · simp at h
  · have hl : 1 ≤ t.length := by simp at h; omega
    have e1 : (x :: t).length - 1 = t.length - 1 + 1 := by simp; omega
    have e2 : (x :: t).take (t.length - 1 + 1) = x :: t.take (t.length - 1) := rfl
    have e3 : (t.take (t.length - 1)).length + 1 = t.length - 1 + 1 := by rw [List.length_take]; omega
    have e4 : at8 (x :: t) (t.length - 1 + 1) = at8 t (t.length - 1) := rfl
    have e5 : t = t.take (t.length - 1) ++ [at8 t (t.length - 1)] := by rw [← take_at8 t _ (by omega), show t.length - 1 + 1 = t.length by omega, List.take_length]
    rw [e1, e2, e4, show at8 (x :: t) 0 = x from rfl, ← e3, sl_rsum, ← e5]
    rfl
theorem hw_in (n : Nat) (h1 : 1 ≤ n) (h2 : n ≤ 64) : hw (n : Int) = n := by unfold hw; rw [if_neg (by omega), if_neg (by omega)]; rfl
set_option maxHeartbeats 1000000 in
set_option maxRecDepth 100000 in
theorem slides_any (b : List (BitVec 8)) (q : Option Addr) (c s o i : Nat) (n : Int) (w : World) (hs : Sees w w.heap.size q (b.map u8v)) (hc : b.length ≤ c) (ho : o < 256) (hi : i < 256)
    (hn : -9223372036854775808 ≤ n ∧ n ≤ 9223372036854775807) :
    Calls Try.prog 5 #[.slice q b.length c, .int .u64 (s : Int), .int .u8 (o : Int), .int .u8 (i : Int), .int .i64 n] w fun e w' => e = .returned (.bool true) ∧ Below w.heap.size w w' := by
  rw [B_ofNat o ho, B_ofNat i hi]
  generalize BitVec.ofNat 8 o = ob
  generalize BitVec.ofNat 8 i = ib
  have HA := Lib.hid (awake_any w)
  have H1 := Lib.hid (fun w1 => slide_any s ob ib n w1)
  have H2 := Lib.hid (fun w1 => rslide_any s ob ib n w1 hn)
  generalize sl s ob ib (hw n) = r at *
  have HS := Lib.hid hs
  clear hs ho hi hn
  by_cases hsmall : b.length < 2
  · have k1 : (b.length : Int) < 2 := by omega
    go_enter Try.func5, Try.ntmps5
    go_wp2_with fail
    refine HA.out.mono ?_
    rintro e w1 ⟨rfl, hb1⟩
    have HB := Lib.hid hb1
    clear hb1
    go_wp2_with (first | ((with_reducible refine (H1.out _).mono ?_); rintro e w2 ⟨rfl, rfl⟩) | ((with_reducible refine (H2.out _).mono ?_); rintro e w2 ⟨rfl, rfl⟩))
    go_ret
    exact ⟨rfl, HB.out⟩
  · by_cases hbig : 65 < b.length
    · have k1 : ¬ (b.length : Int) < 2 := by omega
      have k2 : (65 : Int) < (b.length : Int) := by omega
      go_enter Try.func5, Try.ntmps5
      go_wp2_with fail
      refine HA.out.mono ?_
      rintro e w1 ⟨rfl, hb1⟩
      have HB := Lib.hid hb1
      clear hb1
      go_wp2_with (first | ((with_reducible refine (H1.out _).mono ?_); rintro e w2 ⟨rfl, rfl⟩) | ((with_reducible refine (H2.out _).mono ?_); rintro e w2 ⟨rfl, rfl⟩))
      go_ret
      exact ⟨rfl, HB.out⟩
    · have HP := Lib.hid (slides_plain b (by omega))
      have hw1 := hw_in (b.length - 1) (by omega) (by omega)
      have k1 : ¬ (b.length : Int) < 2 := by omega
      have k2 : ¬ (65 : Int) < (b.length : Int) := by omega
      have k3 : IntKind.i64.wrap ((b.length : Int) - 1) = ((b.length - 1 : Nat) : Int) := by rw [IntWalk.i64_in _ (by omega)]; omega
      have HT : Hid ((b.take (b.length - 1)).length = b.length - 1) := Lib.hid (by rw [List.length_take]; omega)
      have HD : Hid ((b.drop 1).length = b.length - 1) := Lib.hid (by rw [List.length_drop])
      have c1 := fun w1 => cut_to q b.length c (b.length - 1) (by omega) w1
      have c2 : ∀ w1, (Instr.slice 31 (.slice q b.length c) (some (.int .i64 1)) none none).run Try.prog w1 = .ok (.slice (cutQ q c 1) (b.length - 1) (c - 1)) w1 := fun w1 => cut_from q b.length c 1 (by omega) w1
      rw [cutQ_zero] at c1
      have HQ : Hid (∀ w1, Sees w1 w1.heap.size q (b.map u8v) → Sees w1 w1.heap.size (cutQ q c 1) ((b.drop 1).map u8v) ∧ Sees w1 w1.heap.size q ((b.take (b.length - 1)).map u8v)) := Lib.hid (fun w1 h => ⟨by rw [List.map_drop]; exact h.cut (by rw [List.length_map]; exact hc), by rw [List.map_take]; exact h.head _⟩)
      have H3 := Lib.hid (fun w1 h => of_any (b.take (b.length - 1)) q c w1 h (by rw [HT.out]; omega))
      have H4 := Lib.hid (fun w1 h => of_any (b.drop 1) (cutQ q c 1) (c - 1) w1 h (by rw [HD.out]; omega))
      have H5 := Lib.hid (fun w1 => slide_any (rsum (b.take (b.length - 1))) (at8 b 0) (at8 b (b.length - 1)) ((b.length - 1 : Nat) : Int) w1)
      rw [HT.out] at H3
      rw [HD.out] at H4
      rw [hw1, HP.out] at H5
      generalize cutQ q c 1 = q1 at *
      have a0 := at8_of b 0 (by omega)
      have a1 := at8_of b (b.length - 1) (by omega)
      obtain ⟨m, hm⟩ : ∃ m, m = b.length - 1 := ⟨_, rfl⟩
      have m0 : m < b.length := by omega
      have m1 : 0 < b.length := by omega
      rw [← hm] at k3 c1 c2 H3 H4 H5 a1
      rw [← hm] at HQ
      have hpos : 0 < (b.map u8v).length := by rw [List.length_map]; omega
      clear HT HD HP hw1 hm
      generalize rsum (b.take m) = r1 at *
      generalize rsum (b.drop 1) = r2 at *
      go_enter Try.func5, Try.ntmps5
      go_wp2_with fail
      refine HA.out.mono ?_
      rintro e w1 ⟨rfl, hb1⟩
      have HB := Lib.hid hb1
      have hs1 := (HS.out.keep hb1).more hb1.size
      obtain ⟨hq1, hq2⟩ := HQ.out w1.drew ((HS.out.keep hb1.drew).more hb1.drew.size)
      have H3 := Lib.hid (H3.out w1.drew hq2)
      have H4 := Lib.hid (H4.out w1.drew hq1)
      obtain ⟨p, rfl, _, hcell⟩ := hs1 hpos
      have d0 : w1.cell? p = some (.int .u8 (B (at8 b 0))) := hcell 0 _ a0
      have d1 := hcell m _ a1
      clear hb1 hs1 hq1 hq2 hcell hpos
      go_wp2_with (first | ((with_reducible refine (H1.out _).mono ?_); rintro e w2 ⟨rfl, rfl⟩) | ((with_reducible refine (H2.out _).mono ?_); rintro e w2 ⟨rfl, rfl⟩))
      refine wp_region_still_lit (by kernel_rfl) (by kernel_rfl) ?_
      iterate 3 still_step
      still_call (calls_flip H3.out)
      iterate 8 still_step
      still_call (calls_flip (H5.out _))
      iterate 2 still_step
      still_call (calls_flip H4.out)
      iterate 2 still_step
      refine wpStill_nil ?_
      change Exit.then _ _ _ _ w1.drew
      go_wp2_with fail
      go_ret
      exact ⟨rfl, HB.out.drew⟩
end Go.Proofs.Ytaeoaaajkcnbkaa
