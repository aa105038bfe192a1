/- errors.Is over the law's chains: a *Cause of a *fmt.wrapError of a *Cause of a number; a *Cause of an *errors.errorString (written by gen_fis.py). Conditions: errors.errorType as laid; the blocks known whole, and apart. -/
import Derived.Test.YtgaphplndpdhaaaFmtEit
import Derived.Test.YtgaphplndpdhaaaFmtFout
namespace Go.Proofs.YtgaphplndpdhaaaFmt
open Go.RowKit Go.Extern.Stop Go.Stop Go.Extern
theorem compS (w : World) : ((ReflectliteType.method fun t => do Rtype.noPackHeld "Comparable" t; pure (.bool (← typeInfo t).comparable)) #[.agg #[.pointer (some ⟨5, 44, none⟩)]]).run Tryf.prog w = .ok (.bool true) w := by kernel_rfl
theorem callS (w : World) : (callFunc 75 #[.agg #[.pointer (some ⟨5, 44, none⟩)]]).run Tryf.prog w = .ok (.value (.bool true)) w := by
  rw [ext74, compS]; rfl
theorem noIsW (v : Value) (xT : TypeId) (w : World) : (Instr.typeAssert (.iface 43 v) xT 64 true).run Tryf.prog w = .ok (.tuple #[.nilIface, .bool false]) w := run_typeAssert_lacksB Tryf.underlying64 (by kernel_rfl) (by kernel_rfl) v xT w
theorem sInfo : (Tryf.prog.info? 44).map (·.comparable) = some true := by kernel_rfl
theorem sSize : (Tryf.prog.info? 46).map (·.size) = some 1 := by kernel_rfl
theorem eql_sameS (a : Addr) (w : World) : (binOp .eql 24 (.iface 44 (.pointer (some a))) (.iface 44 (.pointer (some a)))).run Tryf.prog w = .ok (.bool true) w := by
  obtain ⟨i, hi, hcmp⟩ := Option.map_eq_some_iff.1 sInfo
  obtain ⟨j, hj, _⟩ := Option.map_eq_some_iff.1 sSize
  exact run_eql_iface_ptr_same w a Tryf.underlying24 Tryf.underlying44 hi hcmp hj
set_option maxHeartbeats 1000000 in
theorem cis_str (g : Nat) (p : Addr) (w : World) (hs : 1 < w.heap.size) (hg : w.cell? ⟨1, 0, none⟩ = some theErr) :
    Calls Tryf.prog 69 #[.pointer (some ⟨g, 0, none⟩), .iface 44 (.pointer (some p))] w fun e w' => e = .returned (.bool false) ∧ Below w.heap.size w w' := by
  have hO := Lib.hid (itself_str p w hs hg)
  clear hg
  go_enter Tryf.func69, Tryf.ntmps69
  go_wp2_with (go_at_call 20; with_reducible refine hO.out.mono ?_; rintro e w1 ⟨rfl, hb⟩)
  go_ret
  exact ⟨rfl, hb⟩
set_option maxHeartbeats 1000000 in
theorem cis_held (g q : Nat) (s s2 : ByteArray) (n n2 c : Int) (e : Value) (b : Bool) (w : World) (hs : 1 < w.heap.size) (hg : w.cell? ⟨1, 0, none⟩ = some theErr)
    (hC : IsC w g s n e) (hQ : IsC w q s2 n2 (.iface 26 (.int .i64 c))) (hb : (s2.toList == s.toList) = b) :
    Calls Tryf.prog 69 #[.pointer (some ⟨g, 0, none⟩), ofC q] w fun e w' => e = .returned (.bool false) ∧ Below w.heap.size w w' := by
  have hO := Lib.hid (itself_cause q w hs hg)
  have HC := Lib.hid hC
  have HQ := Lib.hid hQ
  unfold ofC at *
  clear hg hC hQ
  go_enter Tryf.func69, Tryf.ntmps69
  go_upto_region 2 with (go_at_call 20; with_reducible refine hO.out.mono ?_; rintro e w1 ⟨rfl, hb1⟩)
  have c1 := (HC.out.keep hb1).cellv (i := 0) (v := .string s) rfl
  have c2 := (HQ.out.keep hb1).cellv (i := 0) (v := .string s2) rfl
  have c3 := (HQ.out.keep hb1).cellv (i := 2) (v := .iface 26 (.int .i64 c)) rfl
  have HB := Lib.hid hb1
  clear hb1
  cases b with
  | true =>
    go_wp2_with fail
    go_quiet (fail)
    go_wp2_with fail
    go_ret
    exact ⟨rfl, below_drewN HB.out _⟩
  | false =>
    go_wp2_with fail
    go_quiet (fail)
    go_wp2_with fail
    go_ret
    exact ⟨rfl, below_drewN HB.out _⟩
set_option maxHeartbeats 4000000 in
theorem fis_n (f h g : Nat) (t tx s : ByteArray) (m n c d : Int) (w : World) (hs : 1 < w.heap.size) (hg : w.cell? ⟨1, 0, none⟩ = some theErr)
    (hF : IsC w f t m (ofW h)) (hW : IsW w h tx (ofC g)) (hC : IsC w g s n (.iface 26 (.int .i64 c))) :
    Calls Tryf.prog 14 #[ofC f, .iface 26 (.int .i64 d)] w fun e w' => e = .returned (.bool (c == d)) ∧ Below w.heap.size w w' := by
  have h1 := Lib.hid (cis_num f d w hs hg)
  have h2 := Lib.hid (fun w1 (hb : Below w.heap.size w w1) => cis_num g d w1 (Nat.lt_of_lt_of_le hs hb.size) (keepErr hs hg hb))
  have HF := Lib.hid hF
  have HC := Lib.hid hC
  have HW := Lib.hid hW
  have q1 := eql_num c d
  have x15 := ext15
  have tC := typeOfC
  have tE := typeOfE
  have cC := callC
  have cE := callE
  have mC := mComp
  have i1 := hasIsC
  have i2 := noIsE
  have m1 := mIs
  have m2 := mUnwrap
  have u1 := hasUnwrapC
  have u2 := noUnwrapE
  have u3 := noUnwrapsE
  have tt := eql_types 31 26
  have tt2 := fun vx vy => tt vx vy (by decide)
  have ts := eql_types 26 31
  have ts2 := fun vx vy => ts vx vy (by decide)
  clear tt ts
  have tW := typeOfW
  have tS := typeOfS
  have cS := callS
  have i3 := noIsW
  have u4 := hasUnwrapW
  have u5 := noUnwrapS
  have u6 := noUnwrapsS
  have m3 := mUnwrapW
  have tw := fun vx vy => eql_types 43 26 vx vy (by decide)
  have tw2 := fun vx vy => eql_types 43 31 vx vy (by decide)
  have td := fun vx vy => eql_types 31 44 vx vy (by decide)
  unfold ofC at *
  unfold ofW at *
  clear hC hg hF hW
  generalize (c == d) = b at *
  cases b with
  | true =>
    go_enter Tryf.func14, Tryf.ntmps14
    go_wp2
    refine wp_loop_rounds 4 ?_
    rw [rounds_succ]
    go_wp2_with (first
      | (go_at_call 69; with_reducible refine h1.out.mono ?_; rintro e w1 ⟨rfl, hb1⟩)
      | (go_at_call 13; refine (unwrap_any f t m _ _ (HF.out.keep hb1)).mono ?_; rintro e w2 ⟨rfl, rfl⟩))
    have H2 := Lib.hid (h2.out _ hb1)
    rw [rounds_succ]
    go_wp2_with (go_at_call 71; refine (unwrapW_any h tx _ _ (Has.keep HW.out hb1 (Has.lt HW.out))).mono ?_; rintro e w9 ⟨rfl, rfl⟩)
    rw [rounds_succ]
    go_wp2_with (first
      | (go_at_call 69; with_reducible refine H2.out.mono ?_; rintro e w3 ⟨rfl, hb3⟩)
      | (go_at_call 13; refine (unwrap_any g s n _ _ ((HC.out.keep hb1).keep hb3)).mono ?_; rintro e w4 ⟨rfl, rfl⟩))
    rw [rounds_succ]
    go_wp2_with fail
    go_ret
    exact ⟨rfl, hb1.trans (hb3.mono hb1.size)⟩
  | false =>
    go_enter Tryf.func14, Tryf.ntmps14
    go_wp2
    refine wp_loop_rounds 4 ?_
    rw [rounds_succ]
    go_wp2_with (first
      | (go_at_call 69; with_reducible refine h1.out.mono ?_; rintro e w1 ⟨rfl, hb1⟩)
      | (go_at_call 13; refine (unwrap_any f t m _ _ (HF.out.keep hb1)).mono ?_; rintro e w2 ⟨rfl, rfl⟩))
    have H2 := Lib.hid (h2.out _ hb1)
    rw [rounds_succ]
    go_wp2_with (go_at_call 71; refine (unwrapW_any h tx _ _ (Has.keep HW.out hb1 (Has.lt HW.out))).mono ?_; rintro e w9 ⟨rfl, rfl⟩)
    rw [rounds_succ]
    go_wp2_with (first
      | (go_at_call 69; with_reducible refine H2.out.mono ?_; rintro e w3 ⟨rfl, hb3⟩)
      | (go_at_call 13; refine (unwrap_any g s n _ _ ((HC.out.keep hb1).keep hb3)).mono ?_; rintro e w4 ⟨rfl, rfl⟩))
    rw [rounds_succ]
    go_wp2_with fail
    go_ret
    exact ⟨rfl, hb1.trans (hb3.mono hb1.size)⟩
set_option maxHeartbeats 4000000 in
theorem fis_c (f h g q : Nat) (t tx s s2 : ByteArray) (m n n2 c : Int) (b2 : Bool) (w : World) (hs : 1 < w.heap.size) (hg : w.cell? ⟨1, 0, none⟩ = some theErr)
    (hF : IsC w f t m (ofW h)) (hW : IsW w h tx (ofC g)) (hC : IsC w g s n (.iface 26 (.int .i64 c))) (hQ : IsC w q s2 n2 .nilIface) (hnf : f ≠ q) (hne : g ≠ q) (hb1 : (s2.toList == t.toList) = false) (hb2 : (s2.toList == s.toList) = b2) :
    Calls Tryf.prog 14 #[ofC f, ofC q] w fun e w' => e = .returned (.bool b2) ∧ Below w.heap.size w w' := by
  have h1 := Lib.hid (cis_cause f q t s2 m n2 _ false w hs hg hF hQ hb1)
  have h2 := Lib.hid (fun w1 (hb : Below w.heap.size w w1) => cis_cause g q s s2 n n2 _ b2 w1 (Nat.lt_of_lt_of_le hs hb.size) (keepErr hs hg hb) (hC.keep hb) (hQ.keep hb) hb2)
  have HF := Lib.hid hF
  have HC := Lib.hid hC
  have HW := Lib.hid hW
  have HQ := Lib.hid hQ
  have q1 := eql_other w (ne_ptr hnf) hF hQ
  have HN := Lib.hid hne
  have x15 := ext15
  have tC := typeOfC
  have tE := typeOfE
  have cC := callC
  have cE := callE
  have mC := mComp
  have i1 := hasIsC
  have i2 := noIsE
  have m1 := mIs
  have m2 := mUnwrap
  have u1 := hasUnwrapC
  have u2 := noUnwrapE
  have u3 := noUnwrapsE
  have tt := eql_types 31 26
  have tt2 := fun vx vy => tt vx vy (by decide)
  have ts := eql_types 26 31
  have ts2 := fun vx vy => ts vx vy (by decide)
  clear tt ts
  have tW := typeOfW
  have tS := typeOfS
  have cS := callS
  have i3 := noIsW
  have u4 := hasUnwrapW
  have u5 := noUnwrapS
  have u6 := noUnwrapsS
  have m3 := mUnwrapW
  have tw := fun vx vy => eql_types 43 26 vx vy (by decide)
  have tw2 := fun vx vy => eql_types 43 31 vx vy (by decide)
  have td := fun vx vy => eql_types 31 44 vx vy (by decide)
  unfold ofC at *
  unfold ofW at *
  clear hb1 hb2 hC hQ hg hF hW
  go_enter Tryf.func14, Tryf.ntmps14
  go_wp2
  refine wp_loop_rounds 4 ?_
  rw [rounds_succ]
  go_wp2_with (first
    | (go_at_call 69; with_reducible refine h1.out.mono ?_; rintro e w1 ⟨rfl, hb1⟩)
    | (go_at_call 13; refine (unwrap_any f t m _ _ (HF.out.keep hb1)).mono ?_; rintro e w2 ⟨rfl, rfl⟩))
  have H2 := Lib.hid (h2.out _ hb1)
  have q2 := eql_other _ (ne_ptr HN.out) (HC.out.keep hb1) (HQ.out.keep hb1)
  clear q1
  rw [rounds_succ]
  go_wp2_with (go_at_call 71; refine (unwrapW_any h tx _ _ (Has.keep HW.out hb1 (Has.lt HW.out))).mono ?_; rintro e w9 ⟨rfl, rfl⟩)
  cases b2 with
  | true =>
    rw [rounds_succ]
    go_wp2_with (go_at_call 69; with_reducible refine H2.out.mono ?_; rintro e w3 ⟨rfl, hb3⟩)
    go_ret
    exact ⟨rfl, hb1.trans (hb3.mono hb1.size)⟩
  | false =>
    rw [rounds_succ]
    go_wp2_with (first
      | (go_at_call 69; with_reducible refine H2.out.mono ?_; rintro e w3 ⟨rfl, hb3⟩)
      | (go_at_call 13; refine (unwrap_any g s n _ _ ((HC.out.keep hb1).keep hb3)).mono ?_; rintro e w4 ⟨rfl, rfl⟩))
    rw [rounds_succ]
    go_wp2_with fail
    go_ret
    exact ⟨rfl, hb1.trans (hb3.mono hb1.size)⟩
set_option maxHeartbeats 4000000 in
theorem fis_held (f h g q : Nat) (t tx s s2 : ByteArray) (m n n2 c c2 : Int) (b2 : Bool) (w : World) (hs : 1 < w.heap.size) (hg : w.cell? ⟨1, 0, none⟩ = some theErr)
    (hF : IsC w f t m (ofW h)) (hW : IsW w h tx (ofC g)) (hC : IsC w g s n (.iface 26 (.int .i64 c))) (hQ : IsC w q s2 n2 (.iface 26 (.int .i64 c2))) (hnf : f ≠ q) (hne : g ≠ q) (hb1 : (s2.toList == t.toList) = false) (hb2 : (s2.toList == s.toList) = b2) :
    Calls Tryf.prog 14 #[ofC f, ofC q] w fun e w' => e = .returned (.bool false) ∧ Below w.heap.size w w' := by
  have h1 := Lib.hid (cis_held f q t s2 m n2 c2 _ false w hs hg hF hQ hb1)
  have h2 := Lib.hid (fun w1 (hb : Below w.heap.size w w1) => cis_held g q s s2 n n2 c2 _ b2 w1 (Nat.lt_of_lt_of_le hs hb.size) (keepErr hs hg hb) (hC.keep hb) (hQ.keep hb) hb2)
  have HF := Lib.hid hF
  have HC := Lib.hid hC
  have HW := Lib.hid hW
  have HQ := Lib.hid hQ
  have q1 := eql_other w (ne_ptr hnf) hF hQ
  have HN := Lib.hid hne
  have x15 := ext15
  have tC := typeOfC
  have tE := typeOfE
  have cC := callC
  have cE := callE
  have mC := mComp
  have i1 := hasIsC
  have i2 := noIsE
  have m1 := mIs
  have m2 := mUnwrap
  have u1 := hasUnwrapC
  have u2 := noUnwrapE
  have u3 := noUnwrapsE
  have tt := eql_types 31 26
  have tt2 := fun vx vy => tt vx vy (by decide)
  have ts := eql_types 26 31
  have ts2 := fun vx vy => ts vx vy (by decide)
  clear tt ts
  have tW := typeOfW
  have tS := typeOfS
  have cS := callS
  have i3 := noIsW
  have u4 := hasUnwrapW
  have u5 := noUnwrapS
  have u6 := noUnwrapsS
  have m3 := mUnwrapW
  have tw := fun vx vy => eql_types 43 26 vx vy (by decide)
  have tw2 := fun vx vy => eql_types 43 31 vx vy (by decide)
  have td := fun vx vy => eql_types 31 44 vx vy (by decide)
  unfold ofC at *
  unfold ofW at *
  clear hb1 hb2 hC hQ hg hF hW
  go_enter Tryf.func14, Tryf.ntmps14
  go_wp2
  refine wp_loop_rounds 4 ?_
  rw [rounds_succ]
  go_wp2_with (first
    | (go_at_call 69; with_reducible refine h1.out.mono ?_; rintro e w1 ⟨rfl, hb1⟩)
    | (go_at_call 13; refine (unwrap_any f t m _ _ (HF.out.keep hb1)).mono ?_; rintro e w2 ⟨rfl, rfl⟩))
  have H2 := Lib.hid (h2.out _ hb1)
  have q2 := eql_other _ (ne_ptr HN.out) (HC.out.keep hb1) (HQ.out.keep hb1)
  clear q1
  rw [rounds_succ]
  go_wp2_with (go_at_call 71; refine (unwrapW_any h tx _ _ (Has.keep HW.out hb1 (Has.lt HW.out))).mono ?_; rintro e w9 ⟨rfl, rfl⟩)
  rw [rounds_succ]
  go_wp2_with (first
    | (go_at_call 69; with_reducible refine H2.out.mono ?_; rintro e w3 ⟨rfl, hb3⟩)
    | (go_at_call 13; refine (unwrap_any g s n _ _ ((HC.out.keep hb1).keep hb3)).mono ?_; rintro e w4 ⟨rfl, rfl⟩))
  rw [rounds_succ]
  go_wp2_with fail
  go_ret
  exact ⟨rfl, hb1.trans (hb3.mono hb1.size)⟩
set_option maxHeartbeats 4000000 in
theorem fis_s (f p : Nat) (t : ByteArray) (m : Int) (w : World) (hs : 1 < w.heap.size) (hg : w.cell? ⟨1, 0, none⟩ = some theErr)
    (hF : IsC w f t m (ofS p)) :
    Calls Tryf.prog 14 #[ofC f, ofS p] w fun e w' => e = .returned (.bool true) ∧ Below w.heap.size w w' := by
  have h1 := Lib.hid (cis_str f ⟨p, 0, none⟩ w hs hg)
  have HF := Lib.hid hF
  have q1 := eql_sameS
  have x15 := ext15
  have tC := typeOfC
  have tE := typeOfE
  have cC := callC
  have cE := callE
  have mC := mComp
  have i1 := hasIsC
  have i2 := noIsE
  have m1 := mIs
  have m2 := mUnwrap
  have u1 := hasUnwrapC
  have u2 := noUnwrapE
  have u3 := noUnwrapsE
  have tt := eql_types 31 26
  have tt2 := fun vx vy => tt vx vy (by decide)
  have ts := eql_types 26 31
  have ts2 := fun vx vy => ts vx vy (by decide)
  clear tt ts
  have tW := typeOfW
  have tS := typeOfS
  have cS := callS
  have i3 := noIsW
  have u4 := hasUnwrapW
  have u5 := noUnwrapS
  have u6 := noUnwrapsS
  have m3 := mUnwrapW
  have tw := fun vx vy => eql_types 43 26 vx vy (by decide)
  have tw2 := fun vx vy => eql_types 43 31 vx vy (by decide)
  have td := fun vx vy => eql_types 31 44 vx vy (by decide)
  unfold ofC at *
  unfold ofS at *
  clear hg hF
  go_enter Tryf.func14, Tryf.ntmps14
  go_wp2
  refine wp_loop_rounds 2 ?_
  rw [rounds_succ]
  go_wp2_with (first
    | (go_at_call 69; with_reducible refine h1.out.mono ?_; rintro e w1 ⟨rfl, hb1⟩)
    | (go_at_call 13; refine (unwrap_any f t m _ _ (HF.out.keep hb1)).mono ?_; rintro e w2 ⟨rfl, rfl⟩))
  rw [rounds_succ]
  go_wp2_with fail
  go_ret
  exact ⟨rfl, hb1⟩
end Go.Proofs.YtgaphplndpdhaaaFmt
