/- Contract: cut.Ends: where each piece ends. Conditions: a text is of at most a million bytes, and no longer than its room. -/
import Derived.Test.YthpledfjopbchaaDoorNext
namespace Go.Proofs.YthpledfjopbchaaDoor
open Go.RowKit
def i64n (n : Nat) : Value := .int .i64 (n : Int)
theorem int_info : (Tryd.prog.info? 3).map (fun i => (i.zero, i.size, i.bytes)) = some (some (.int .i64 0), 1, 8) := by kernel_rfl
/-- One value is put behind a row that the call owns. -/
theorem wp_add1 {ops : Array Oper} {rest : List Oper} {o : Oper} {a : Act} {Q : Exit → Act → World → Prop} {T LT : TypeId} {z : Value} {by8 : Nat} (hLT : Tryd.prog.underlying LT = some (.slice T)) (hI : (Tryd.prog.info? T).map (fun i => (i.zero, i.size, i.bytes)) = some (some z, 1, by8)) (hz : z.cells.size = 1) (h8 : by8 ≤ 64)
    (hgd : o.guard = none) (sl x : Operand) (ho : o.op = .call { callee := .builtin .append, args := #[sl, x], argTypes := #[LT, LT] }) {w : World} {base : Nat} {v : Value} {xs : List Value} (R : w.ownsRow base T 1 v xs.length xs) (hbase : base ≤ w.heap.size)
    (hs : a.eval sl = v) (g : Nat) (u : Value) (hx : a.eval x = .slice (some ⟨g, 0, none⟩) 1 1) (hc : w.cell? ⟨g, 0, none⟩ = some u) (hu : u.oneCell' = true) (hn : xs.length ≤ 1000000)
    (h : ∀ v' w', w'.ownsRow base T 1 v' (xs ++ [u]).length (xs ++ [u]) → Below base w w' → wpList Tryd.prog ops Q rest (a.put o.dst v') w') : wpList Tryd.prog ops Q (o :: rest) a w := by
  obtain ⟨i0, hi, hz0, hz1, hz2⟩ := info_parts hI
  refine wpList_append_own _ hgd sl x LT ho base T i0 z 1 by8 hLT hi hz0 hz1 hz2 hz (by decide) v xs.length xs hs R ⟨g, 0, none⟩ 1 1 [u] hx rfl ?_ ?_ (by unfold maxLen; omega) ?_ hbase
    fun v' w' ho' hg' _ => h v' w' (by rw [List.length_append]; exact ho') ((Below.refl base w).grown hg' hbase (fun k hk => own_base R k hk))
  · intro j y hj
    cases j with
    | zero => simp at hj; subst hj; simpa [Addr.add] using hc
    | succ j => simp at hj
  · intro y hy; simp at hy; subst hy; exact hu
  · exact Nat.le_trans (Nat.mul_le_mul (show xs.length + 1 ≤ 1000001 by omega) h8) (by decide)
/-- The value v reads as these numbers. -/
def Ns (w : World) (v : Value) (l : List Nat) : Prop := ∃ q c, v = .slice q l.length c ∧ Sees w w.heap.size q (l.map i64n)
theorem Ns.keep {w w' : World} {v : Value} {l : List Nat} (h : Ns w v l) (hb : Below w.heap.size w w') : Ns w' v l := by
  obtain ⟨q, c, h1, h2⟩ := h
  exact ⟨q, c, h1, (h2.keep hb).more hb.size⟩
theorem Ns.nil (w : World) : Ns w (.slice none 0 0) [] := ⟨none, 0, rfl, Sees.nil _ _ _⟩
theorem Ns.own {w : World} {base n : Nat} {v : Value} {l : List Nat} (h : w.ownsRow base 3 1 v n (l.map i64n)) : Ns w v l := by
  have hn : l.length = n := by have := h.1; simpa using this
  subst hn
  rcases h.2 with ⟨rfl, h0⟩ | ⟨g, cap, cur, rfl, hb, hg, h1, _⟩
  · have : l = [] := List.eq_nil_of_length_eq_zero h0
    subst this
    exact Ns.nil w
  · refine ⟨_, cap, rfl, fun _ => ⟨_, rfl, (Array.getElem?_eq_some_iff.1 hg).1, ?_⟩⟩
    exact h.cells (g := g) rfl
/-- A row above the window's block stays when the window turns. -/
theorem own_save {w w' : World} {base n g : Nat} {e : TypeId} {v : Value} {xs : List Value} (h : w.ownsRow base e 1 v n xs) (hs : Save g w w') (hg : g < base) : w'.ownsRow base e 1 v n xs :=
  h.kept (row := some g) ⟨hs.os, hs.tape, hs.output, hs.size, fun k hk hn => hs.block k hk (fun e => hn (by rw [e]))⟩ (by
    rcases h.2 with ⟨rfl, _⟩ | ⟨k, cap, cur, rfl, hb, _⟩
    · exact .inl rfl
    · refine .inr ?_
      simp only [Value.ownBlock, ne_eq, Option.some.injEq]
      omega)
theorem Bs.keepN {w w' : World} {v : Value} {x : List (BitVec 8)} {n : Nat} (h : Bs w v x) (hb : Below n w w') (hn : w.heap.size ≤ n) : Bs w' v x := by
  obtain ⟨q, c, h1, h2, h3, h4⟩ := h
  exact ⟨q, c, h1, h2, h3, (h4.keep (hb.mono hn)).more hb.size⟩
set_option maxHeartbeats 1000000 in
set_option maxRecDepth 100000 in
theorem ends_bad (m x d k t : Int) (h : okI m x d = false) (b : List (BitVec 8)) (q : Option Addr) (c : Nat) (w : World) :
    Calls Tryd.prog 47 #[ruleV m x d k t, .slice q b.length c] w fun e w' => e = .returned (.slice none 0 0) ∧ Below w.heap.size w w' := by
  have HG := Lib.hid (fun w1 => cgood_any m x d k t w1)
  rw [h] at HG
  unfold ruleV ruleL at HG ⊢
  go_enter Tryd.func47, Tryd.ntmps47
  go_wp2_with ((with_reducible refine (HG.out _).mono ?_); rintro e w4 ⟨rfl, hB⟩; have HB := Lib.hid hB; clear hB)
  go_ret
  exact ⟨rfl, ((Below.refl _ _).alloc (Nat.le_refl _) _).trans (HB.out.mono (by simp))⟩
def enOrder : List (Nat × Bool) := [(0, true), (1, true), (2, true), (3, true), (4, true), (5, true), (6, false), (7, true), (8, true)]
set_option maxHeartbeats 2000000 in
set_option maxRecDepth 100000 in
theorem ends_good (r : Rl) (hr : r.Ok) (b : List (BitVec 8)) (q : Option Addr) (c : Nat) (w : World) (hc : b.length ≤ c) (hl : b.length ≤ 1000000) (hs : Sees w w.heap.size q (b.map u8v)) :
    Calls Tryd.prog 47 #[r.val, .slice q b.length c] w fun e w' => ∃ v, e = .returned v ∧ Ns w' v (endsL r 0 b) ∧ Below w.heap.size w w' := by
  have HG := Lib.hid (fun w1 => cgood_any r.mn r.mx r.wd r.mask r.want w1)
  rw [okI_of hr] at HG
  have HF := Lib.hid (fun (b : List (BitVec 8)) (q : Option Addr) c g H v hc hl hs hw => first_any r hr b q c g H v hc hl hs hw)
  have HW := Lib.hid (fun w1 => new_any (r.wd : Int) w1)
  rw [hw_nat r.wd hr.w1 hr.w2] at HW
  have HEN : Hid (∀ o (b : List (BitVec 8)), b.length ≠ 0 → endsL r o b = (o + nx r b) :: endsL r (o + nx r b) (b.drop (nx r b))) := Lib.hid (endsL_cons hr)
  have HPOS : Hid (∀ b : List (BitVec 8), b.length ≠ 0 → 1 ≤ nx r b) := Lib.hid (fun b hb => nx_pos hr hb)
  have HS := Lib.hid hs
  have HC := Lib.hid hc
  have HLN := Lib.hid hl
  have HCT := Lib.hid (fun f hf => cut_from q b.length c f hf)
  have HR := Lib.hid (Has.made' w 77 _ (ruleL r.mn r.mx r.wd r.mask r.want) rfl)
  have HB1 := Lib.hid ((Below.refl w.heap.size w).alloc (Nat.le_refl _) (.cells (ruleL r.mn r.mx r.wd r.mask r.want).toArray 77))
  have HZ : Hid ((w.alloc (.cells (ruleL r.mn r.mx r.wd r.mask r.want).toArray 77)).heap.size = w.heap.size + 1) := Lib.hid (by simp)
  have hz0 : Hid (endsL r 0 b = [] ++ endsL r 0 (b.drop 0)) := Lib.hid rfl
  obtain ⟨L, hL⟩ : ∃ L, L = endsL r 0 b := ⟨_, rfl⟩
  rw [← hL] at hz0 ⊢
  clear hs hc hr hL
  unfold Rl.val at HF ⊢
  unfold ruleV at HG HF ⊢
  unfold ruleL at HG HF HR HB1 HZ ⊢
  go_enter Tryd.func47, Tryd.ntmps47
  go_upto_region 4 with ((with_reducible refine (HG.out _).mono ?_); rintro e w4 ⟨rfl, hB⟩; have HB := Lib.hid hB; clear hB)
  have HB2 := Lib.hid (HB1.out.trans (HB.out.mono HB1.out.size))
  have HR2 := Lib.hid (HR.out.keep HB.out (by have := HZ.out; omega))
  have c2 := HR2.out.cellv (i := 2) rfl
  clear HB HB1 HR HZ HG
  go_upto_region 5 with ((with_reducible refine (HW.out _).mono ?_); rintro e v1 ⟨rfl, hx1, hb1, hz1⟩; have HX1 := Lib.hid hx1; have HBN := Lib.hid hb1; have HZ1 := Lib.hid hz1; clear hx1 hb1 hz1)
  have hg : w.heap.size < w4.heap.size := HR2.out.lt
  have HX := HX1
  have HR3 := Lib.hid (HR2.out.keep HBN.out hg)
  have HB3 := Lib.hid (HB2.out.trans (HBN.out.mono (Nat.le_of_lt hg)))
  have HGT : Hid (w.heap.size < w4.heap.size) := Lib.hid hg
  have HROW := Lib.hid (World.ownsRow_nil v1 (w4.heap.size + 1) 3 1)
  have HBASE : Hid (w4.heap.size + 1 ≤ v1.heap.size) := Lib.hid (by have := HZ1.out; omega)
  clear c2 HR2 HB2 HW HX1 HBN HZ1 hg
  generalize w4.heap.size = g at *
  go_wp2_with fail
  go_loopw [5, 7] (fun v vi wr => ∃ (xs : List Nat) (i : Nat) (H : List (BitVec 8)), i ≤ b.length ∧ vi = .int .i64 i ∧ xs.length ≤ i ∧ L = xs ++ endsL r i (b.drop i) ∧ wr.ownsRow (g + 1) 3 1 v (xs.map i64n).length (xs.map i64n) ∧ WinAt wr g r.wd H ∧ Has wr w.heap.size 77 [.int .i64 (r.mn : Int), .int .i64 (r.mx : Int), .int .i64 (r.wd : Int), .int .u64 (r.mask : Int), .int .u64 (r.want : Int)] ∧ Below w.heap.size w wr ∧ g + 1 ≤ wr.heap.size) (fun _ vi _ => b.length - (intOf vi).toNat)
  case atStart => exact ⟨[], 0, [], by omega, rfl, Nat.le_refl _, hz0.out, HROW.out, HX.out, HR3.out, HB3.out, HBASE.out⟩
  case round =>
    clear HX HR3 HB3 HROW HBASE hz0
    rename_i wr
    obtain ⟨xs, i, H, hi, rfl, hxi, hE, hrow, hX, hR, hB, hbase⟩ := hrel
    have HROW := Lib.hid hrow
    have HR := Lib.hid hR
    have HB := Lib.hid hB
    have HX := Lib.hid hX
    by_cases hlt : i < b.length
    · have HBASE := Lib.hid hbase
      have hdl : (b.drop i).length ≠ 0 := by rw [List.length_drop]; omega
      have he := HEN.out i (b.drop i) hdl
      have hp := HPOS.out (b.drop i) hdl
      have hnl := (nx_le r (b.drop i)).1
      rw [List.length_drop] at hnl
      rw [he, List.drop_drop] at hE
      have hss := (HS.out.cut (k := i) (cap := c) (by rw [List.length_map]; exact HC.out))
      rw [← List.map_drop] at hss
      replace hss : Sees w w.heap.size (cutQ q c i) ((b.drop i).map u8v) := hss
      have HF1 := Lib.hid (fun v hv hw => HF.out (b.drop i) (cutQ q c i) (c - i) g H v (by rw [List.length_drop]; have := HC.out; omega) (by rw [List.length_drop]; omega) hv hw)
      rw [List.length_drop] at HF1
      have hct := HCT.out i (by omega)
      have HSS := Lib.hid hss
      have hkw : IntKind.i64.wrap ((i : Int) + ((nx r (b.drop i) : Nat) : Int)) = ((i + nx r (b.drop i) : Nat) : Int) := by rw [IntWalk.i64_in _ (by omega)]; omega
      have HE := Lib.hid hE
      clear hrow hX hR hB hbase hdl he hss hE
      generalize nx r (b.drop i) = n at *
      generalize cutQ q c i = qi at *
      generalize c - i = ci at *
      obtain ⟨e, he⟩ : ∃ e, e = i + n := ⟨_, rfl⟩
      rw [← he] at hkw HE
      have HNI : Hid (i < e ∧ e ≤ b.length) := Lib.hid (by omega)
      clear he
      clear hp hnl
      go_wp2_with fail
      refine wp_region_ors (fun v => Has v w.heap.size 77 [.int .i64 (r.mn : Int), .int .i64 (r.mx : Int), .int .i64 (r.wd : Int), .int .u64 (r.mask : Int), .int .u64 (r.want : Int)]) enOrder (by kernel_rfl) (by kernel_rfl) (by kernel_rfl) HR.out.drew ?_
      replace HR := Lib.hid HR.out.drew
      replace HB := Lib.hid HB.out.drew
      replace HX := Lib.hid HX.out.drew
      replace HROW : Hid (wr.drew.ownsRow (g + 1) 3 1 _ (xs.map i64n).length (xs.map i64n)) := HROW
      replace HBASE : Hid (g + 1 ≤ wr.drew.heap.size) := HBASE
      generalize wr.drew = w5 at *
      unfold enOrder
      simp only [pickOrs, List.getElem?_cons_zero, List.getElem?_cons_succ]
      refine ors_pure (v := ?_) (by kernel_rfl) ?_ ?_
      rotate_left
      · intro w' hv; clear hv; go_simp; try with_reducible rfl
      try simp only [Act.put, List.setIfInBounds_toArray, List.set_cons_zero, List.set_cons_succ]
      refine ors_pure (by kernel_rfl) (fun w' hv => load_atN 77 (.tmp 2) rfl w.heap.size rfl 77 _ w' hv _ Tryd.underlying77 rfl (by kernel_rfl)) ?_
      try simp only [Act.put, List.setIfInBounds_toArray, List.set_cons_zero, List.set_cons_succ]
      refine ors_pure (v := ?_) (by kernel_rfl) ?_ ?_
      rotate_left
      · intro w' hv; clear hv; go_simp; try with_reducible rfl
      try simp only [Act.put, List.setIfInBounds_toArray, List.set_cons_zero, List.set_cons_succ]
      refine ors_pure (v := ?_) (by kernel_rfl) ?_ ?_
      rotate_left
      · intro w' hv; clear hv; go_simp; try with_reducible rfl
      try simp only [Act.put, List.setIfInBounds_toArray, List.set_cons_zero, List.set_cons_succ]
      refine ors_pure (v := ?_) (by kernel_rfl) ?_ ?_
      rotate_left
      · intro w' hv; clear hv; go_simp; try with_reducible rfl
      try simp only [Act.put, List.setIfInBounds_toArray, List.set_cons_zero, List.set_cons_succ]
      refine ors_pure (v := ?_) (by kernel_rfl) ?_ ?_
      rotate_left
      · intro w' hv; clear hv; go_simp; try with_reducible rfl
      try simp only [Act.put, List.setIfInBounds_toArray, List.set_cons_zero, List.set_cons_succ]
      refine ors_step (by kernel_rfl) (fun K hK => ?_)
      go_wp2_with fail
      refine (HF1.out w5 ((HSS.out.keep HB.out).more (Nat.le_of_lt HGT.out)) HX.out).mono ?_
      rintro e v2 ⟨rfl, ⟨H', hx'⟩, hsv⟩
      have hgt := HGT.out
      have HX2 := Lib.hid hx'
      replace HROW := Lib.hid (own_save HROW.out hsv (Nat.lt_succ_self g))
      have HB4 := Lib.hid (HB.out.trans (hsv.below (n := w.heap.size) (Nat.le_of_lt hgt) (by have := HBASE.out; omega)))
      replace HR := Lib.hid (hsv.has (by omega) HR.out)
      replace HBASE := Lib.hid (Nat.le_trans HBASE.out hsv.size)
      clear hsv hx' hgt HX HB
      go_wp2_with fail
      refine ⟨HR.out, ?_⟩
      try simp only [Act.put, List.setIfInBounds_toArray, List.set_cons_zero, List.set_cons_succ]
      refine ors_pure (v := ?_) (by kernel_rfl) ?_ ?_
      rotate_left
      · intro w' hv; clear hv; go_simp; try with_reducible rfl
      try simp only [Act.put, List.setIfInBounds_toArray, List.set_cons_zero, List.set_cons_succ]
      refine ors_pure (v := ?_) (by kernel_rfl) ?_ ?_
      rotate_left
      · intro w' hv; clear hv; go_simp; try with_reducible rfl
      try simp only [Act.put, List.setIfInBounds_toArray, List.set_cons_zero, List.set_cons_succ]
      refine ors_nil ?_
      have HLEN : Hid ((xs.map i64n).length ≤ 1000000) := Lib.hid (by rw [List.length_map]; have := HLN.out; omega)
      go_wp2_with (refine wp_add1 Tryd.underlying39 int_info rfl (by decide) rfl (.tmp 26) (.tmp 28) rfl (base := g + 1) (HROW.out.alloc (.cells #[.int .i64 (e : Int)] 3)) (by have := HBASE.out; simp; omega) rfl v2.heap.size (.int .i64 (e : Int)) rfl (by simp) rfl HLEN.out ?_; intro v3 w3 h1 h2; have HROW2 := Lib.hid h1; have HB5 := Lib.hid h2; clear h1 h2 HROW)
      go_roundw
      case rel =>
        have hsz : g + 1 ≤ v2.heap.size := HBASE.out
        have hb5 : Below (g + 1) v2 w3 := ((Below.refl (g + 1) v2).alloc hsz _).trans HB5.out
        have hgt := HGT.out
        have hrow := HROW2.out
        rw [show xs.map i64n ++ [Value.int .i64 (e : Int)] = (xs ++ [e]).map i64n by rw [List.map_append]; rfl] at hrow
        exact ⟨xs ++ [e], e, H', HNI.out.2, rfl, by rw [List.length_append, List.length_singleton]; have := HNI.out.1; omega, by rw [HE.out, List.append_assoc]; rfl, hrow, HX2.out.keep hb5 (Nat.lt_succ_self g), HR.out.keep hb5 (by omega), HB4.out.trans (hb5.mono (by omega)), Nat.le_trans hsz hb5.size⟩
      case measure => have := HNI.out; simp [intOf]; omega
    · have hib : i = b.length := by omega
      have k0 : ¬ (i : Int) < (b.length : Int) := by omega
      have HE : Hid (L = xs) := Lib.hid (by rw [hE, endsL_nil r _ _ (by rw [List.length_drop]; omega), List.append_nil])
      clear hrow hX hR hB hbase hE hlt
      go_wp2_with fail
      go_ret
      exact ⟨_, rfl, by rw [HE.out]; exact Ns.own HROW.out, HB.out⟩
end Go.Proofs.YthpledfjopbchaaDoor
