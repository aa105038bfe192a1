/- Contract: cut.first: where the first piece ends, by a lent window. Conditions: the rule may be; the text lies below the window. -/
import Derived.Test.YthpledfjopbchaaDoorRule
import Derived.Test.YthpledfjopbchaaDoorOrs
namespace Go.Proofs.YthpledfjopbchaaDoor
open Go.RowKit
/-- But for block g, and new blocks, the world is as it was. -/
structure Save (g : Nat) (w w' : World) : Prop where
  os : w'.os = w.os
  tape : w'.tape = w.tape
  output : w'.output = w.output
  size : w.heap.size ≤ w'.heap.size
  block : ∀ k, k < w.heap.size → k ≠ g → w'.heap[k]? = w.heap[k]?
namespace Save
variable {g : Nat} {a b c : World}
theorem refl (g : Nat) (w : World) : Save g w w := ⟨rfl, rfl, rfl, Nat.le_refl _, fun _ _ _ => rfl⟩
theorem trans (h : Save g a b) (k : Save g b c) : Save g a c := ⟨k.os.trans h.os, k.tape.trans h.tape, k.output.trans h.output, Nat.le_trans h.size k.size, fun i hi hg => (k.block i (Nat.lt_of_lt_of_le hi h.size) hg).trans (h.block i hi hg)⟩
theorem of_only (h : Only g a b) : Save g a b := ⟨h.os, h.tape, h.output, Nat.le_of_eq h.size.symm, fun k _ hk => h.block k hk⟩
theorem of_below (h : Below a.heap.size a b) : Save g a b := ⟨h.os, h.tape, h.output, h.size, fun k hk _ => h.block k hk⟩
theorem below {n : Nat} (h : Save g a b) (hn : n ≤ g) (ha : n ≤ a.heap.size) : Below n a b := ⟨h.os, h.tape, h.output, h.size, fun k hk => h.block k (by omega) (by omega)⟩
theorem has (h : Save g a b) {k : Nat} {t : TypeId} {l : List Value} (hk : k ≠ g) (hh : Has a k t l) : Has b k t l := (h.block k hh.lt hk).trans hh
theorem drew (h : Save g a b) : Save g a b.drew := ⟨h.os, h.tape, h.output, h.size, h.block⟩
theorem drewN (h : Save g a b) (n : Nat) : Save g a (b.drewN n) := ⟨h.os, h.tape, h.output, h.size, h.block⟩
end Save
theorem cut_mid (a : Option Addr) (n cap f t : Nat) (h1 : f ≤ t) (h2 : t ≤ cap) (w : World) :
    (Instr.slice 26 (.slice a n cap) (some (.int .i64 (f : Int))) (some (.int .i64 (t : Int))) none).run Tryd.prog w = .ok (.slice (cutQ a cap f) (t - f) (cap - f)) w := by
  obtain ⟨i0, hi, _, hz1, _⟩ := info_parts u8_info
  have he : Tryd.prog.elem 26 = 5 := by kernel_rfl
  rw [run_slice_lh (ht := by rw [he]; exact Tryd.underlying26) (h0 := by omega) (h1 := by omega) (h2 := by omega), he]
  simp [sizeOf, typeInfo, hi, hz1, sliced, cutQ]
/-- A cut between two places reads as it says. -/
theorem Sees.mid {w : World} {g : Nat} {q : Option Addr} {b : List (BitVec 8)} {c f t : Nat} (h : Sees w g q (b.map u8v)) (hc : b.length ≤ c) :
    Sees w g (cutQ q c f) (((b.take t).drop f).map u8v) := by
  have h1 := h.cut (k := f) (cap := c) (by simpa using hc)
  rw [← List.map_drop] at h1
  have h2 := h1.head (t - f)
  rw [← List.map_take, ← List.drop_take] at h2
  exact h2
theorem mid_snoc (b : List (BitVec 8)) (f i : Nat) (hf : f ≤ i) (hi : i < b.length) : (b.take i).drop f ++ [at8 b i] = (b.take (i + 1)).drop f := by
  rw [take_at8 b i hi, List.drop_append_of_le_length (by rw [List.length_take]; omega)]
theorem at8_mid (b : List (BitVec 8)) (f t i : Nat) (h : f + i < t) : at8 ((b.take t).drop f) i = at8 b (f + i) := by
  simp only [at8, List.getD_eq_getElem?_getD, List.getElem?_drop, List.getElem?_take]
  rw [if_pos h]
theorem mid_length (b : List (BitVec 8)) (f t : Nat) (ht : t ≤ b.length) : ((b.take t).drop f).length = t - f := by
  rw [List.length_drop, List.length_take]; omega
theorem mid_nil (b : List (BitVec 8)) (f : Nat) : (b.take f).drop f = [] := List.drop_eq_nil_of_le (by rw [List.length_take]; omega)
/-- The sum that tells. -/
theorem hit_mid (m x d k t : Nat) (b : List (BitVec 8)) (n : Nat) (h1 : d ≤ m) (h2 : m ≤ n) (h3 : n ≤ b.length) : hit ⟨m, x, d, k, t⟩ b n = ((rsum (lastN d ((b.take n).drop (m - d))) &&& k) == t) := by
  rw [lastN_drop d (m - d) _ (by rw [List.length_take]; omega)]
  rfl
def fsOrder : List (Nat × Bool) := [(0, true), (1, true), (3, true), (4, true), (6, true), (7, true), (2, false), (5, true), (8, true)]
set_option maxHeartbeats 2000000 in
set_option maxRecDepth 100000 in
theorem first_any (r : Rl) (hr : r.Ok) (b : List (BitVec 8)) (q : Option Addr) (c g : Nat) (H : List (BitVec 8)) (w : World) (hc : b.length ≤ c) (hl : b.length < 9223372036854775807)
    (hs : Sees w g q (b.map u8v)) (hw : WinAt w g r.wd H) :
    Calls Tryd.prog 60 #[r.val, .pointer (some ⟨g, 0, none⟩), .slice q b.length c] w fun e w' => e = .returned (.int .i64 ((nx r b : Nat) : Int)) ∧ (∃ H', WinAt w' g r.wd H') ∧ Save g w w' := by
  obtain ⟨m, x, d, k, t⟩ := r
  obtain ⟨o1, o2, o3, o4, o5, o6, o7⟩ := hr
  simp only at o1 o2 o3 o4 o5 o6 o7 hw ⊢
  obtain ⟨N, hN⟩ : ∃ N, N = nx ⟨m, x, d, k, t⟩ b := ⟨_, rfl⟩
  have hN2 : scan (hit ⟨m, x, d, k, t⟩ b) (min x b.length) (min x b.length + 1 - m) m = N := hN.symm
  rw [← hN]
  unfold Rl.val ruleV
  simp only
  obtain ⟨T, hT⟩ : ∃ T, T = min x b.length := ⟨_, rfl⟩
  rw [← hT] at hN2
  have hTc : T ≤ c := by omega
  have hTl : T ≤ b.length := by omega
  have hTx : T ≤ 65536 := by omega
  have hmin : (if b.length < x then (b.length : Int) else (x : Int)) = (T : Int) := by split <;> omega
  have HS := Lib.hid hs
  have HW := Lib.hid (show WinAt (w.alloc (.cells (ruleL m x d k t).toArray 77)) g d H from hw.keep ((Below.refl _ _).alloc (Nat.le_refl _) _) hw.lt)
  have HG := Lib.hid hw.lt
  have HC := Lib.hid hc
  have HN := Lib.hid hN2
  have HR := Lib.hid (Has.made' w 77 _ (ruleL m x d k t) rfl)
  have HV := Lib.hid (Save.of_below (g := g) ((Below.refl w.heap.size w).alloc (Nat.le_refl _) (.cells (ruleL m x d k t).toArray 77)))
  unfold ruleL at HW HR HV ⊢
  have hct := cut_to q b.length c T hTc
  rw [cutQ_zero] at hct
  clear hs hw hN hN2 hc hT
  have HTL := Lib.hid hTl
  have HTC := Lib.hid hTc
  have HL := Lib.hid hl
  clear hTl hl
  go_enter Tryd.func60, Tryd.ntmps60
  go_upto_region 2 with (fail)
  try simp only [Int.toNat_natCast]
  clear hct hmin
  generalize w.alloc (.cells #[.int .i64 (m : Int), .int .i64 (x : Int), .int .i64 (d : Int), .int .u64 (k : Int), .int .u64 (t : Int)] 77) = w1 at *
  generalize hp : w.heap.size = p at *
  have HP := Lib.hid hp
  clear hp
  have c0 := HR.out.cellv (i := 0) rfl
  have c1 := HR.out.cellv (i := 1) rfl
  have c2 := HR.out.cellv (i := 2) rfl
  by_cases hm : T < m
  · have k0 : (T : Int) < (m : Int) := by omega
    have HE : Hid (T = N) := Lib.hid (by rw [← HN.out, show T + 1 - m = 0 by omega]; rfl)
    go_wp2_with fail
    go_ret
    exact ⟨by rw [HE.out]; rfl, ⟨_, HW.out⟩, HV.out⟩
  · have k0 : ¬ (T : Int) < (m : Int) := by omega
    have H1 := Lib.hid (reset_any w1 g d H HW.out)
    go_upto_region 5 with ((with_reducible refine H1.out.mono ?_); rintro e w2 ⟨rfl, hx2, hy2⟩; have HX2 := Lib.hid hx2; have HY2 := Lib.hid hy2; clear hx2 hy2)
    have HX := HX2
    have HPG : Hid (p ≠ g) := Lib.hid (by have := HG.out; omega)
    have HR2 := Lib.hid (HY2.out.has HPG.out HR.out)
    have HV2 := Lib.hid (HV.out.trans (Save.of_only HY2.out))
    have c0' := HR2.out.cellv (i := 0) rfl
    have c2' := HR2.out.cellv (i := 2) rfl
    clear c0 c1 c2 HR HW HV H1 k0 HY2 HX2
    have hts := HTL.out
    have htc := HTC.out
    have k1 : IntKind.i64.wrap ((m : Int) - (d : Int)) = ((m - d : Nat) : Int) := by rw [IntWalk.i64_in _ (by omega)]; omega
    have k2 : IntKind.i64.wrap ((m : Int) - 1) = ((m - 1 : Nat) : Int) := by rw [IntWalk.i64_in _ (by omega)]; omega
    have hcm := cut_mid q T c (m - d) (m - 1) (by omega) (by omega)
    have hcf := cut_from q T c (m - 1) (by omega)
    have hmd : Hid (m - d + d = m ∧ m - 1 + 1 = m ∧ m - 1 < T ∧ m - d ≤ m - 1 ∧ m - 1 - (m - d) + 1 = d) := Lib.hid (by omega)
    obtain ⟨n1, hn1⟩ : ∃ n1, n1 = m - 1 - (m - d) := ⟨_, rfl⟩
    obtain ⟨n2, hn2⟩ : ∃ n2, n2 = T - (m - 1) := ⟨_, rfl⟩
    rw [← hn1] at hcm hmd
    rw [← hn2] at hcf
    have HN1 := Lib.hid hn1
    have HN2 := Lib.hid hn2
    have HHIT := Lib.hid (fun n h2 h3 => hit_mid m x d k t b n o3 h2 h3)
    have hsA : Hid (Sees w g (cutQ q c (m - d)) (((b.take (m - 1)).drop (m - d)).map u8v)) := Lib.hid (HS.out.mid HC.out)
    have hsB : Hid (Sees w g (cutQ q c (m - 1)) (((b.take T).drop (m - 1)).map u8v)) := Lib.hid (HS.out.mid HC.out)
    have HM := Lib.hid hm
    have HO := Lib.hid (And.intro o1 (And.intro o2 (And.intro o3 (And.intro o4 o5))))
    have hb1 : n1 < 64 := by have := hmd.out; omega
    have hb2 : n2 ≤ 65536 := by omega
    have HN3 : Hid (n2 + (m - 1) = T) := Lib.hid (by have := hmd.out; omega)
    clear hn1 hn2 hts htc hm HC HS hTx hTc
    generalize m - d = f at *
    generalize m - 1 = m1 at *
    generalize cutQ q c f = qA at *
    generalize cutQ q c m1 = qB at *
    generalize c - f = cA at *
    generalize c - m1 = cB at *
    go_wp2_with fail
    go_loopw [38] (fun vi wr => ∃ j : Nat, j ≤ n1 ∧ vi = .int .i64 j ∧ WinAt wr g d ((b.take (f + j)).drop f) ∧ Has wr p 77 [.int .i64 (m : Int), .int .i64 (x : Int), .int .i64 (d : Int), .int .u64 (k : Int), .int .u64 (t : Int)] ∧ Save g w wr) (fun vi _ => n1 - (intOf vi).toNat)
    case atStart => exact ⟨0, by omega, rfl, by rw [Nat.add_zero, mid_nil]; exact HX.out, HR2.out, HV2.out⟩
    case round =>
      clear HX HR2 HV2 c0' c2' k1 hcm
      rename_i wr
      obtain ⟨j, hj, rfl, hX, hR, hV⟩ := hrel
      have HHR := Lib.hid hR
      have HHV := Lib.hid hV
      by_cases hlt : j < n1
      · obtain ⟨e1, e2, e3, e4, e5⟩ := hmd.out
        have hn1 := HN1.out
        have htl := HTL.out
        have hS2 := hsA.out.keep (hV.below (Nat.le_refl _) (by have := HG.out; have := HP.out; omega))
        have hlen := mid_length b f m1 (by omega)
        obtain ⟨ad, rfl, _, hcell⟩ := hS2.get (by rw [List.length_map, hlen]; omega)
        have cx := hcell j _ (at8_of _ j (by rw [hlen]; omega))
        rw [at8_mid b f m1 j (by omega)] at cx
        have hsn := mid_snoc b f (f + j) (by omega) (by omega)
        have H1 := addw_any wr g d ((b.take (f + j)).drop f) (at8 b (f + j)) HO.out.1 HO.out.2.1 hX
        rw [hsn] at H1
        replace H1 := Lib.hid H1
        generalize rsum (lastN d ((b.take (f + j + 1)).drop f)) = s at *
        generalize at8 b (f + j) = y at *
        have HM2 := Lib.hid (And.intro e1 (And.intro e2 (And.intro e3 (And.intro e4 e5))))
        have HN1' := Lib.hid hn1
        clear hcell hX hS2 hlen hsn hR hV e1 e2 e3 e4 e5 hn1 htl
        go_wp2_with ((with_reducible refine H1.out.mono ?_); rintro e w4 ⟨rfl, hX4, hO4⟩; have HX4 := Lib.hid hX4; have HO4 := Lib.hid hO4; clear hX4 hO4)
        go_roundw
        case rel => exact ⟨j + 1, by omega, by go_num, HX4.out, HO4.out.has HPG.out HHR.out, HHV.out.trans (Save.of_only HO4.out)⟩
        case measure => simp [intOf]; omega
      · have hjn : j = n1 := by omega
        have k0 : ¬ (j : Int) < (n1 : Int) := by omega
        have c0 := HHR.out.cellv (i := 0) rfl
        have HHX := Lib.hid hX
        clear hX hR hV hlt
        subst hjn
        go_wp2_with fail
        go_loopw [9, 10, 52] (fun _ _ vi wr => ∃ i : Nat, i ≤ n2 ∧ vi = .int .i64 i ∧ WinAt wr g d ((b.take (m1 + i)).drop f) ∧ Has wr p 77 [.int .i64 (m : Int), .int .i64 (x : Int), .int .i64 (d : Int), .int .u64 (k : Int), .int .u64 (t : Int)] ∧ Save g w wr ∧ scan (hit ⟨m, x, d, k, t⟩ b) T (T + 1 - (m + i)) (m + i) = N) (fun _ _ vi _ => n2 - (intOf vi).toNat)
        case atStart =>
          refine ⟨0, by omega, rfl, ?_, HHR.out, HHV.out, HN.out⟩
          have e : f + j = m1 + 0 := by have := HN1.out; have := hmd.out; omega
          rw [← e]; exact HHX.out
        case round =>
          clear HHX HHR HHV k0 c0 k2 hcf
          obtain ⟨i, hi, rfl, hX, hR, hV, hsc⟩ := hrel
          have HHR := Lib.hid hR
          have HHV := Lib.hid hV
          by_cases hlt : i < n2
          · obtain ⟨e1, e2, e3, e4, e5⟩ := hmd.out
            have hn3 := HN3.out
            have htl := HTL.out
            have hS2 := hsB.out.keep (hV.below (Nat.le_refl _) (by have := HG.out; have := HP.out; omega))
            have hlen := mid_length b m1 T (by omega)
            obtain ⟨ad, rfl, _, hcell⟩ := hS2.get (by rw [List.length_map, hlen]; omega)
            have cx := hcell i _ (at8_of _ i (by rw [hlen]; omega))
            rw [at8_mid b m1 T i (by omega)] at cx
            have hsn := mid_snoc b f (m1 + i) (by omega) (by omega)
            have H1 := fun v hv => addw_any v g d ((b.take (m1 + i)).drop f) (at8 b (m1 + i)) HO.out.1 HO.out.2.1 hv
            rw [hsn] at H1
            have hh := HHIT.out (m + i) (by omega) (by omega)
            rw [show m + i = m1 + i + 1 by omega] at hh hsc
            have HIT : Hid (m1 + i + 1 ≤ T) := Lib.hid (by omega)
            have hsl : rsum (lastN d ((b.take (m1 + i + 1)).drop f)) < 18446744073709551616 := Nat.lt_trans (rsum_lt _) (by omega)
            replace H1 := Lib.hid H1
            generalize rsum (lastN d ((b.take (m1 + i + 1)).drop f)) = s at *
            generalize at8 b (m1 + i) = y at *
            have HX := Lib.hid hX
            have ka := bits_and_u64_nat s k hsl o6
            have HSC := Lib.hid hsc
            have HNI : Hid (m1 + (i + 1) = m1 + i + 1 ∧ m + (i + 1) = m1 + i + 1 + 1) := Lib.hid (by omega)
            have HMI : Hid (m + i = m1 + i + 1) := Lib.hid (by omega)
            clear hcell hX hS2 hlen hsn hR hV e1 e2 e3 e4 e5 hn3 htl hsc hsl
            by_cases hv : (s &&& k) = t
            · have e1 : (((s &&& k : Nat) : Int) == (t : Int)) = true := by rw [hv]; simp
              have HRES : Hid (m1 + i + 1 = N) := Lib.hid (by rw [← HSC.out, scan_hit _ _ _ HIT.out (by rw [hh, hv]; simp)])
              have kw : IntKind.i64.wrap ((m : Int) + (i : Int)) = ((m1 + i + 1 : Nat) : Int) := by have := HNI.out; rw [IntWalk.i64_in _ (by omega)]; omega
              generalize (s &&& k) = a at *
              clear HSC hh
              go_wp2_with fail
              refine wp_region_ors (fun v => Has v p 77 [.int .i64 (m : Int), .int .i64 (x : Int), .int .i64 (d : Int), .int .u64 (k : Int), .int .u64 (t : Int)]) fsOrder (by kernel_rfl) (by kernel_rfl) (by kernel_rfl) HHR.out.drew ?_
              replace HHR := Lib.hid HHR.out.drew
              replace HHV := Lib.hid HHV.out.drew
              replace HX := Lib.hid HX.out.drew
              clear cx
              generalize wr.drew = wr3 at *
              unfold fsOrder
              simp only [pickOrs, List.getElem?_cons_zero, List.getElem?_cons_succ]
              refine ors_pure (v := ?_) (by kernel_rfl) ?_ ?_
              rotate_left
              · intro w' hv; clear hv; go_simp; try with_reducible rfl
              try simp only [Act.put, List.setIfInBounds_toArray, List.set_cons_zero, List.set_cons_succ]
              refine ors_pure (v := ?_) (by kernel_rfl) ?_ ?_
              rotate_left
              · intro w' hv; clear hv; go_simp; try with_reducible rfl
              try simp only [Act.put, List.setIfInBounds_toArray, List.set_cons_zero, List.set_cons_succ]
              refine ors_pure (v := ?_) (by kernel_rfl) ?_ ?_
              rotate_left
              · intro w' hv; clear hv; go_simp; try with_reducible rfl
              try simp only [Act.put, List.setIfInBounds_toArray, List.set_cons_zero, List.set_cons_succ]
              refine ors_pure (v := ?_) (by kernel_rfl) ?_ ?_
              rotate_left
              · intro w' hv; have cx := Has.cellv (i := 3) hv rfl; clear hv; go_simp; try with_reducible rfl
              try simp only [Act.put, List.setIfInBounds_toArray, List.set_cons_zero, List.set_cons_succ]
              refine ors_pure (v := ?_) (by kernel_rfl) ?_ ?_
              rotate_left
              · intro w' hv; clear hv; go_simp; try with_reducible rfl
              try simp only [Act.put, List.setIfInBounds_toArray, List.set_cons_zero, List.set_cons_succ]
              refine ors_pure (v := ?_) (by kernel_rfl) ?_ ?_
              rotate_left
              · intro w' hv; have cx := Has.cellv (i := 4) hv rfl; clear hv; go_simp; try with_reducible rfl
              try simp only [Act.put, List.setIfInBounds_toArray, List.set_cons_zero, List.set_cons_succ]
              refine ors_step (by kernel_rfl) (fun K hK => ?_)
              go_wp2_with fail
              refine (H1.out wr3 HX.out).mono ?_
              rintro e v1 ⟨rfl, hx1, ho1⟩
              replace HX := Lib.hid hx1
              replace HHR := Lib.hid (ho1.has HPG.out HHR.out)
              replace HHV := Lib.hid (HHV.out.trans (Save.of_only ho1))
              have c0 := HHR.out.cellv (i := 0) rfl
              clear hx1 ho1 H1
              go_wp2_with fail
              refine ⟨HHR.out, ?_⟩
              try simp only [Act.put, List.setIfInBounds_toArray, List.set_cons_zero, List.set_cons_succ]
              refine ors_pure (v := ?_) (by kernel_rfl) ?_ ?_
              rotate_left
              · intro w' hv; clear hv; go_simp; try with_reducible rfl
              try simp only [Act.put, List.setIfInBounds_toArray, List.set_cons_zero, List.set_cons_succ]
              refine ors_pure (v := ?_) (by kernel_rfl) ?_ ?_
              rotate_left
              · intro w' hv; clear hv; go_simp; try with_reducible rfl
              try simp only [Act.put, List.setIfInBounds_toArray, List.set_cons_zero, List.set_cons_succ]
              refine ors_nil ?_
              go_wp2_with fail
              go_ret
              exact ⟨by rw [← HRES.out]; rfl, ⟨_, HX.out⟩, HHV.out⟩
            · have e1 : (((s &&& k : Nat) : Int) == (t : Int)) = false := by rw [beq_eq_false_iff_ne]; omega
              have HRES : Hid (scan (hit ⟨m, x, d, k, t⟩ b) T (T + 1 - (m1 + i + 1 + 1)) (m1 + i + 1 + 1) = N) := Lib.hid (by rw [← HSC.out, scan_miss _ _ _ HIT.out (by rw [hh, beq_eq_false_iff_ne]; exact hv)])
              generalize (s &&& k) = a at *
              clear HSC hh
              go_wp2_with fail
              refine wp_region_ors (fun v => Has v p 77 [.int .i64 (m : Int), .int .i64 (x : Int), .int .i64 (d : Int), .int .u64 (k : Int), .int .u64 (t : Int)]) fsOrder (by kernel_rfl) (by kernel_rfl) (by kernel_rfl) HHR.out.drew ?_
              replace HHR := Lib.hid HHR.out.drew
              replace HHV := Lib.hid HHV.out.drew
              replace HX := Lib.hid HX.out.drew
              clear cx
              generalize wr.drew = wr3 at *
              unfold fsOrder
              simp only [pickOrs, List.getElem?_cons_zero, List.getElem?_cons_succ]
              refine ors_pure (v := ?_) (by kernel_rfl) ?_ ?_
              rotate_left
              · intro w' hv; clear hv; go_simp; try with_reducible rfl
              try simp only [Act.put, List.setIfInBounds_toArray, List.set_cons_zero, List.set_cons_succ]
              refine ors_pure (v := ?_) (by kernel_rfl) ?_ ?_
              rotate_left
              · intro w' hv; clear hv; go_simp; try with_reducible rfl
              try simp only [Act.put, List.setIfInBounds_toArray, List.set_cons_zero, List.set_cons_succ]
              refine ors_pure (v := ?_) (by kernel_rfl) ?_ ?_
              rotate_left
              · intro w' hv; clear hv; go_simp; try with_reducible rfl
              try simp only [Act.put, List.setIfInBounds_toArray, List.set_cons_zero, List.set_cons_succ]
              refine ors_pure (v := ?_) (by kernel_rfl) ?_ ?_
              rotate_left
              · intro w' hv; have cx := Has.cellv (i := 3) hv rfl; clear hv; go_simp; try with_reducible rfl
              try simp only [Act.put, List.setIfInBounds_toArray, List.set_cons_zero, List.set_cons_succ]
              refine ors_pure (v := ?_) (by kernel_rfl) ?_ ?_
              rotate_left
              · intro w' hv; clear hv; go_simp; try with_reducible rfl
              try simp only [Act.put, List.setIfInBounds_toArray, List.set_cons_zero, List.set_cons_succ]
              refine ors_pure (v := ?_) (by kernel_rfl) ?_ ?_
              rotate_left
              · intro w' hv; have cx := Has.cellv (i := 4) hv rfl; clear hv; go_simp; try with_reducible rfl
              try simp only [Act.put, List.setIfInBounds_toArray, List.set_cons_zero, List.set_cons_succ]
              refine ors_step (by kernel_rfl) (fun K hK => ?_)
              go_wp2_with fail
              refine (H1.out wr3 HX.out).mono ?_
              rintro e v1 ⟨rfl, hx1, ho1⟩
              replace HX := Lib.hid hx1
              replace HHR := Lib.hid (ho1.has HPG.out HHR.out)
              replace HHV := Lib.hid (HHV.out.trans (Save.of_only ho1))
              have c0 := HHR.out.cellv (i := 0) rfl
              clear hx1 ho1 H1
              go_wp2_with fail
              refine ⟨HHR.out, ?_⟩
              try simp only [Act.put, List.setIfInBounds_toArray, List.set_cons_zero, List.set_cons_succ]
              refine ors_pure (v := ?_) (by kernel_rfl) ?_ ?_
              rotate_left
              · intro w' hv; clear hv; go_simp; try with_reducible rfl
              try simp only [Act.put, List.setIfInBounds_toArray, List.set_cons_zero, List.set_cons_succ]
              refine ors_pure (v := ?_) (by kernel_rfl) ?_ ?_
              rotate_left
              · intro w' hv; clear hv; go_simp; try with_reducible rfl
              try simp only [Act.put, List.setIfInBounds_toArray, List.set_cons_zero, List.set_cons_succ]
              refine ors_nil ?_
              go_wp2_with fail
              go_roundw
              case rel => exact ⟨i + 1, by omega, by go_num, by rw [HNI.out.1]; exact HX.out, HHR.out, HHV.out, by rw [HNI.out.2]; exact HRES.out⟩
              case measure => simp [intOf]; omega
          · have hin : i = n2 := by omega
            have k0 : ¬ (i : Int) < (n2 : Int) := by omega
            have HE : Hid (T = N) := Lib.hid (by rw [← hsc, scan_end _ _ _ (by have := HN3.out; have := hmd.out; omega)])
            have HX := Lib.hid hX
            clear hlt hX hR hV hsc
            go_wp2_with fail
            go_ret
            exact ⟨by rw [HE.out]; rfl, ⟨_, HX.out⟩, HHV.out⟩
end Go.Proofs.YthpledfjopbchaaDoor
