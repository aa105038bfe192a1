/- Contracts: errors.Is at a chain of two *Cause over a number. Conditions: as in Eis. -/
import Derived.Test.YtgaphplndpdhaaaFmtEis
namespace Go.Proofs.YtgaphplndpdhaaaFmt
open Go.RowKit Go.Extern.Stop Go.Stop Go.Extern
set_option maxHeartbeats 4000000 in
theorem eis_c2 (f g q : Nat) (t s s2 : ByteArray) (m n n2 c : Int) (b1 b2 : Bool) (w : World) (hs : 1 < w.heap.size) (hg : w.cell? ⟨1, 0, none⟩ = some theErr)
    (hF : IsC w f t m (ofC g)) (hC : IsC w g s n (.iface 26 (.int .i64 c))) (hQ : IsC w q s2 n2 .nilIface) (hnf : f ≠ q) (hne : g ≠ q) (hb1 : (s2.toList == t.toList) = b1) (hb2 : (s2.toList == s.toList) = b2) :
    Calls Tryf.prog 14 #[ofC f, ofC q] w fun e w' => e = .returned (.bool (b1 || b2)) ∧ Below w.heap.size w w' := by
  have h1 := Lib.hid (cis_cause f q t s2 m n2 _ b1 w hs hg hF hQ hb1)
  have h2 := Lib.hid (fun w1 (hb : Below w.heap.size w w1) => cis_cause g q s s2 n n2 _ b2 w1 (Nat.lt_of_lt_of_le hs hb.size) (keepErr hs hg hb) (hC.keep hb) (hQ.keep hb) hb2)
  have HF := Lib.hid hF
  have HC := Lib.hid hC
  have HQ := Lib.hid hQ
  have q1 := eql_other w (ne_ptr hnf) hF hQ
  have HN := Lib.hid hne
  have x15 := ext15
  have tC := typeOfC
  have tE := typeOfE
  have cC := callC
  have cE := callE
  have mC := mComp
  have i1 := hasIsC
  have i2 := noIsE
  have m1 := mIs
  have m2 := mUnwrap
  have u1 := hasUnwrapC
  have u2 := noUnwrapE
  have u3 := noUnwrapsE
  have tt := eql_types 31 26
  have tt2 := fun vx vy => tt vx vy (by decide)
  have ts := eql_types 26 31
  have ts2 := fun vx vy => ts vx vy (by decide)
  clear tt ts
  unfold ofC at *
  clear hb1 hb2 hC hQ hg hF
  cases b1 with
  | true =>
    go_enter Tryf.func14, Tryf.ntmps14
    go_wp2
    refine wp_loop_rounds 1 ?_
    rw [rounds_succ]
    go_wp2_with (go_at_call 69; with_reducible refine h1.out.mono ?_; rintro e w1 ⟨rfl, hb1⟩)
    go_ret
    exact ⟨rfl, hb1⟩
  | false =>
    go_enter Tryf.func14, Tryf.ntmps14
    go_wp2
    refine wp_loop_rounds 3 ?_
    rw [rounds_succ]
    go_wp2_with (first
      | (go_at_call 69; with_reducible refine h1.out.mono ?_; rintro e w1 ⟨rfl, hb1⟩)
      | (go_at_call 13; refine (unwrap_any f t m _ _ (HF.out.keep hb1)).mono ?_; rintro e w2 ⟨rfl, rfl⟩))
    have H2 := Lib.hid (h2.out _ hb1)
    have q2 := eql_other _ (ne_ptr HN.out) (HC.out.keep hb1) (HQ.out.keep hb1)
    clear q1
    cases b2 with
    | true =>
      rw [rounds_succ]
      go_wp2_with (go_at_call 69; with_reducible refine H2.out.mono ?_; rintro e w3 ⟨rfl, hb3⟩)
      go_ret
      exact ⟨rfl, hb1.trans (hb3.mono hb1.size)⟩
    | false =>
      rw [rounds_succ]
      go_wp2_with (first
        | (go_at_call 69; with_reducible refine H2.out.mono ?_; rintro e w3 ⟨rfl, hb3⟩)
        | (go_at_call 13; refine (unwrap_any g s n _ _ ((HC.out.keep hb1).keep hb3)).mono ?_; rintro e w4 ⟨rfl, rfl⟩))
      rw [rounds_succ]
      go_wp2_with fail
      go_ret
      exact ⟨rfl, hb1.trans (hb3.mono hb1.size)⟩
set_option maxHeartbeats 4000000 in
theorem eis_n2 (f g : Nat) (t s : ByteArray) (m n c d : Int) (w : World) (hs : 1 < w.heap.size) (hg : w.cell? ⟨1, 0, none⟩ = some theErr)
    (hF : IsC w f t m (ofC g)) (hC : IsC w g s n (.iface 26 (.int .i64 c))) :
    Calls Tryf.prog 14 #[ofC f, .iface 26 (.int .i64 d)] w fun e w' => e = .returned (.bool (c == d)) ∧ Below w.heap.size w w' := by
  have h1 := Lib.hid (cis_num f d w hs hg)
  have h2 := Lib.hid (fun w1 (hb : Below w.heap.size w w1) => cis_num g d w1 (Nat.lt_of_lt_of_le hs hb.size) (keepErr hs hg hb))
  have HF := Lib.hid hF
  have HC := Lib.hid hC
  have q1 := eql_num c d
  have x15 := ext15
  have tC := typeOfC
  have tE := typeOfE
  have cC := callC
  have cE := callE
  have mC := mComp
  have i1 := hasIsC
  have i2 := noIsE
  have m1 := mIs
  have m2 := mUnwrap
  have u1 := hasUnwrapC
  have u2 := noUnwrapE
  have u3 := noUnwrapsE
  have tt := eql_types 31 26
  have tt2 := fun vx vy => tt vx vy (by decide)
  have ts := eql_types 26 31
  have ts2 := fun vx vy => ts vx vy (by decide)
  clear tt ts
  unfold ofC at *
  clear hC hg hF
  generalize (c == d) = b at *
  cases b with
  | true =>
    go_enter Tryf.func14, Tryf.ntmps14
    go_wp2
    refine wp_loop_rounds 3 ?_
    rw [rounds_succ]
    go_wp2_with (first
      | (go_at_call 69; with_reducible refine h1.out.mono ?_; rintro e w1 ⟨rfl, hb1⟩)
      | (go_at_call 13; refine (unwrap_any f t m _ _ (HF.out.keep hb1)).mono ?_; rintro e w2 ⟨rfl, rfl⟩))
    have H2 := Lib.hid (h2.out _ hb1)
    rw [rounds_succ]
    go_wp2_with (first
      | (go_at_call 69; with_reducible refine H2.out.mono ?_; rintro e w3 ⟨rfl, hb3⟩)
      | (go_at_call 13; refine (unwrap_any g s n _ _ ((HC.out.keep hb1).keep hb3)).mono ?_; rintro e w4 ⟨rfl, rfl⟩))
    rw [rounds_succ]
    go_wp2_with fail
    go_ret
    exact ⟨rfl, hb1.trans (hb3.mono hb1.size)⟩
  | false =>
    go_enter Tryf.func14, Tryf.ntmps14
    go_wp2
    refine wp_loop_rounds 3 ?_
    rw [rounds_succ]
    go_wp2_with (first
      | (go_at_call 69; with_reducible refine h1.out.mono ?_; rintro e w1 ⟨rfl, hb1⟩)
      | (go_at_call 13; refine (unwrap_any f t m _ _ (HF.out.keep hb1)).mono ?_; rintro e w2 ⟨rfl, rfl⟩))
    have H2 := Lib.hid (h2.out _ hb1)
    rw [rounds_succ]
    go_wp2_with (first
      | (go_at_call 69; with_reducible refine H2.out.mono ?_; rintro e w3 ⟨rfl, hb3⟩)
      | (go_at_call 13; refine (unwrap_any g s n _ _ ((HC.out.keep hb1).keep hb3)).mono ?_; rintro e w4 ⟨rfl, rfl⟩))
    rw [rounds_succ]
    go_wp2_with fail
    go_ret
    exact ⟨rfl, hb1.trans (hb3.mono hb1.size)⟩
end Go.Proofs.YtgaphplndpdhaaaFmt
