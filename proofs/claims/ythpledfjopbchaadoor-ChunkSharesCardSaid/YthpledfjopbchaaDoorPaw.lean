/- Contract: the law's own awake: true. Condition: the sums' tables are laid. -/
import Derived.Test.YthpledfjopbchaaDoorPgd
namespace Go.Proofs.YthpledfjopbchaaDoor
open Go.RowKit
theorem freeze_newk (w : World) (cs : Array Value) (e : TypeId) (n : Nat) : (w.alloc (.cells cs e)).freeze ⟨w.heap.size, n, none⟩ 1 = w.alloc (.cells cs e (n, n + 1)) := by
  have hm : ∀ (a : Array Obj) (x : Obj) (f : Obj → Obj), (a.push x).modify a.size f = a.push (f x) := by
    intro a x f
    apply Array.ext
    · simp
    · intro i h1 h2
      simp only [Array.getElem_modify, Array.getElem_push]
      by_cases h : a.size = i
      · subst h; simp
      · have hi : i < a.size := by simp at h1; omega
        simp [h, hi]
  unfold World.freeze
  rw [if_neg (by decide)]
  show ({ w.alloc (.cells cs e) with heap := (w.heap.push (.cells cs e)).modify w.heap.size _ } : World) = _
  rw [hm]
  rfl
theorem conv_newk (w : World) (cs : Array Value) (n c : Nat) :
    (convert 26 26 (.slice (some ⟨w.heap.size, 0, none⟩) n c)).run Tryd.prog (w.alloc (.cells cs 5)) =
      .ok (.slice (some ⟨w.heap.size, 0, none⟩) n c) (w.alloc (.cells cs 5 (cs.size, cs.size + 1))) := by
  have hsh : (w.alloc (.cells cs 5)).shape? w.heap.size = some (5, cs.size) := by
    have : (w.alloc (.cells cs 5)).heap[w.heap.size]? = some (.cells cs 5) := heap_alloc_new _ _
    unfold World.shape?
    rw [this]
  have hfr := freeze_newk w cs 5 cs.size
  simp [convert, run_underlying Tryd.underlying26, run_underlying Tryd.underlying5, markStringish, hsh, hfr]
theorem made_seesk (w : World) (x : List (BitVec 8)) (cs : Array Value) (f : Nat × Nat) (hx : cs = (x.map u8v).toArray) :
    Sees (w.alloc (.cells cs 5 f)) (w.heap.size + 1) (some ⟨w.heap.size, 0, none⟩) (x.map u8v) := fun _ =>
  ⟨_, rfl, Nat.lt_succ_self _, fun j u hu => by
    rw [Addr.add_mid, Nat.zero_add]
    exact (cell_of_row _ w.heap.size j cs 5 f (heap_alloc_new w _)).trans (by rw [hx]; simpa using hu)⟩
section
variable {o : Oper} {a : Act} {w : World} {Q : Exit → Act → World → Prop} {K : Act → World → Prop}
/-- Bytes' literal, turned into a slice of its own. -/
theorem wp_convk (x : Operand) (ho : o.op = .convert 26 26 x) (cs : Array Value) (n c : Nat) (hx : a.eval x = .slice (some ⟨w.heap.size, 0, none⟩) n c)
    (h : K (a.put o.dst (.slice (some ⟨w.heap.size, 0, none⟩) n c)) (w.alloc (.cells cs 5 (cs.size, cs.size + 1)))) : o.wp Tryd.prog a (w.alloc (.cells cs 5)) K Q := by
  unfold Oper.wp execOp
  simp only [ho, hx, Sem.run_bind, conv_newk w cs n c, Result.andThen_ok]
  exact h
/-- Bytes' literal. -/
theorem wp_lit8 (n : Nat) (parts : Array (Nat × Operand)) (ho : o.op = .buildSlice 26 n parts) (cs : Array Value) (h0 : n ≠ 0) (h9 : n ≤ 16777216)
    (hf : Instr.fill (fun i => some (i * 1, 1)) ((Array.range (n * 1)).map ((Value.int .u8 0).cells[· % (Value.int .u8 0).cells.size]!)) (parts.map fun (i, x) => (i, a.eval x)).toList = some cs)
    (h : K (a.put o.dst (.slice (some ⟨w.heap.size, 0, none⟩) n n)) (w.alloc (.cells cs 5))) : o.wp Tryd.prog a w K Q := by
  obtain ⟨i8x, hi8, hz8, hs8, _⟩ := info_parts u8_info
  refine wp_buildSlice 26 5 n parts ho cs i8x _ Tryd.underlying26 hi8 hz8 (by rw [hs8]; omega) (by rw [hs8]; omega) ?_ h
  rw [hs8]; exact hf
end
theorem bs_litk (w : World) (x : List (BitVec 8)) (cs : Array Value) (f : Nat × Nat) (hx : cs = (x.map u8v).toArray) (n : Nat) (hn : x.length = n) : Bs (w.alloc (.cells cs 5 f)) (.slice (some ⟨w.heap.size, 0, none⟩) n n) x :=
  ⟨some ⟨w.heap.size, 0, none⟩, n, by rw [hn], by rw [hn]; exact Nat.le_refl _, fun h => (by cases h), (made_seesk w x cs f hx).more (by simp)⟩
def t10 : List (BitVec 8) := [48#8, 49#8, 50#8, 51#8, 52#8, 53#8, 54#8, 55#8, 56#8, 57#8]
def t10v : Array Value := #[.int .u8 48, .int .u8 49, .int .u8 50, .int .u8 51, .int .u8 52, .int .u8 53, .int .u8 54, .int .u8 55, .int .u8 56, .int .u8 57]
theorem t10_eq : t10v = (t10.map u8v).toArray := by kernel_rfl
theorem t10_cut : cutP t10 = [(shaU t10, t10)] := by kernel_rfl
theorem t10_good (v : Value) : goodPc (shaU t10, v, t10) = true := by
  unfold goodPc
  rw [decide_eq_true (show shaU (shaU t10, v, t10).2.2 = (shaU t10, v, t10).1 from rfl)]
  rfl
theorem t10_list : (strB t10).toList = [48, 49, 50, 51, 52, 53, 54, 55, 56, 57] := by kernel_rfl
theorem keys_one {LP : List Pc} {s : Su} {x : List (BitVec 8)} (h : LP.map keyP = [(s, x)]) : ∃ v, LP = [(s, v, x)] := by
  match LP, h with
  | [p], h =>
    obtain ⟨a, v, b⟩ := p
    simp [keyP] at h
    obtain ⟨rfl, rfl⟩ := h
    exact ⟨v, rfl⟩
set_option maxHeartbeats 4000000 in
set_option maxRecDepth 100000 in
theorem awake11_any (w : World) (hL : Laid w) : Calls Tryd.prog 8 #[] w fun e w' => e = .returned (.bool true) ∧ Below w.heap.size w w' := by
  have HL := Lib.hid hL
  have HSZ := Lib.hid hL.size
  have HB0 : Hid (Below w.heap.size w (w.alloc (.cells t10v 5 (10, 11)))) := Lib.hid ((Below.refl _ _).alloc (Nat.le_refl _) _)
  have HC := Lib.hid (ccut_any t10 (some ⟨w.heap.size, 0, none⟩) 10 (w.alloc (.cells t10v 5 (10, 11))) (by decide) (fun h => by cases h) (by decide) ((made_seesk w t10 t10v (10, 11) t10_eq).more (by simp)) (HL.out.keep HB0.out HSZ.out))
  clear hL
  go_enter Tryd.func8, Tryd.ntmps8
  go_upto_region 1 with fail
  refine wp_region_lit ?_
  try simp only [Act.put, List.setIfInBounds_toArray, List.set_cons_zero, List.set_cons_succ]
  refine lp_step (by kernel_rfl) (fun K hK => wp_lit8 10 _ rfl t10v (by decide) (by decide) (by kernel_rfl) (hK _ _ ?_))
  try simp only [Act.put, List.setIfInBounds_toArray, List.set_cons_zero, List.set_cons_succ]
  refine lp_step (by kernel_rfl) (fun K hK => wp_convk (.tmp 2) rfl t10v 10 10 rfl (hK _ _ ?_))
  try simp only [Act.put, List.setIfInBounds_toArray, List.set_cons_zero, List.set_cons_succ]
  refine lp_step (by kernel_rfl) (fun K hK => ?_)
  go_wp2_with fail
  refine Calls.mono (HC.out) ?_
  rintro e w1 ⟨⟨v1, LP, rfl, ⟨q1, c1, rfl, hlc, hq1, hse⟩, hpb, hkey⟩, hB⟩
  rw [t10_cut] at hkey
  obtain ⟨pv, rfl⟩ := keys_one hkey
  have HB1 := Lib.hid (HB0.out.trans (hB.mono HB0.out.size))
  have HSE := Lib.hid hse
  have HPB := Lib.hid (hpb _ (List.mem_singleton.2 rfl))
  clear hkey hB hse hpb HC HB0
  refine hK _ _ ?_
  clear hK
  try simp only [Act.put, List.setIfInBounds_toArray, List.set_cons_zero, List.set_cons_succ]
  refine lp_pure (v := ?_) (by kernel_rfl) ?_ ?_
  rotate_left
  · go_simp; try with_reducible rfl
  try simp only [Act.put, List.setIfInBounds_toArray, List.set_cons_zero, List.set_cons_succ]
  refine wpList_nil ?_
  go_wp2_with fail
  obtain ⟨ad, rfl, hab, hcell⟩ := Sees.pc HSE.out (i := 0) (by simp)
  obtain ⟨qv, cv, hpv, hcv, hqv, hsv⟩ := HPB.out
  simp only [List.getElem_cons_zero] at hcell hpv hcv hsv
  subst hpv
  have e10 : t10.length = 10 := rfl
  rw [e10] at HPB hcell
  have HAB := Lib.hid hab
  have HCL := Lib.hid hcell
  clear hab hcell hcv hqv hsv e10
  refine wp_region_ors (fun w' => Below w1.drew.heap.size w1.drew w') [(0, true), (1, true), (2, true), (3, true), (4, true), (5, true), (6, true), (7, false), (8, true), (9, true), (10, true), (11, true), (12, true), (13, true), (14, true), (15, true), (16, true), (17, true), (18, true), (19, true), (20, true), (21, true), (22, false), (23, false), (24, false), (25, false), (26, true), (27, true), (28, true)] (by kernel_rfl) (by kernel_rfl) (by kernel_rfl) (Below.refl _ _) ?_
  have HB2 := Lib.hid HB1.out.drew
  have HPBD : Hid (Bs w1.drew (.slice qv 10 cv) t10) := Lib.hid HPB.out
  have HCLD : Hid (∀ w', Below w1.drew.heap.size w1.drew w' → ∀ j u, (encP (shaU t10, .slice qv 10 cv, t10))[j]? = some u → w'.cell? (ad.add j) = some u) := Lib.hid (fun w' h j u hu => by have := HCL.out w' ((Below.refl _ _).drew.trans h) j u hu; rw [add_add, Nat.zero_mul, Nat.zero_add] at this; exact this)
  have HC32 : Hid (∀ w', Below w1.drew.heap.size w1.drew w' → w'.cell? ⟨ad.block, ad.off + 32, none⟩ = some (.slice qv 10 cv)) := Lib.hid (fun w' h => HCLD.out w' h 32 _ (encP_b _))
  have HSTR : Hid (∀ w', Below w1.drew.heap.size w1.drew w' → (convert 26 9 (.slice qv 10 cv)).run Tryd.prog w' = .ok (.string (strB t10)) w') := Lib.hid (fun w' h => by obtain ⟨qx, cx, e, _, _, hsx⟩ := HPB.out; cases e; exact str_run t10 qv cv w1.heap.size w' (hsx.keep ((Below.refl _ _).drew.trans h)))
  have HLD := Lib.hid (HL.out.keep HB2.out HSZ.out)
  clear HCL HPB HB1 HL
  generalize w1.drew = wd at *
  simp only [pickOrs, List.getElem?_cons_zero, List.getElem?_cons_succ]
  refine ors_pure (v := ?_) (by kernel_rfl) ?_ ?_
  rotate_left
  · intro w' hv; clear hv; go_simp; try with_reducible rfl
  try simp only [Act.put, List.setIfInBounds_toArray, List.set_cons_zero, List.set_cons_succ]
  refine ors_pure (v := ?_) (by kernel_rfl) ?_ ?_
  rotate_left
  · intro w' hv; clear hv; go_simp; try with_reducible rfl
  try simp only [Act.put, List.setIfInBounds_toArray, List.set_cons_zero, List.set_cons_succ]
  refine ors_pure (v := ?_) (by kernel_rfl) ?_ ?_
  rotate_left
  · intro w' hv; clear hv; go_simp; try with_reducible rfl
  try simp only [Act.put, List.setIfInBounds_toArray, List.set_cons_zero, List.set_cons_succ]
  refine ors_pure (v := ?_) (by kernel_rfl) ?_ ?_
  rotate_left
  · intro w' hv; clear hv; go_simp; try with_reducible rfl
  try simp only [Act.put, List.setIfInBounds_toArray, List.set_cons_zero, List.set_cons_succ]
  refine ors_pure (v := ?_) (by kernel_rfl) ?_ ?_
  rotate_left
  · intro w' hv; clear hv; go_simp; try with_reducible rfl
  try simp only [Act.put, List.setIfInBounds_toArray, List.set_cons_zero, List.set_cons_succ]
  refine ors_pure (v := ?_) (by kernel_rfl) ?_ ?_
  rotate_left
  · intro w' hv; clear hv; go_simp; try with_reducible rfl
  try simp only [Act.put, List.setIfInBounds_toArray, List.set_cons_zero, List.set_cons_succ]
  refine ors_pure (by kernel_rfl) (fun w' hv => load_pc 33 28 elPc (.tmp 10) rfl ad rfl (shaU t10, .slice qv 10 cv, t10) (HCLD.out _ hv)) ?_
  try simp only [Act.put, List.setIfInBounds_toArray, List.set_cons_zero, List.set_cons_succ]
  refine ors_step (by kernel_rfl) (fun K hK => ?_)
  go_wp2_with fail
  refine Calls.mono (pgood_any (shaU t10, .slice qv 10 cv, t10) wd HPBD.out (show (10 : Nat) < 1000000000000 by decide) HLD.out) ?_
  rintro e w2 ⟨rfl, hb⟩
  have HB3 := Lib.hid hb
  clear hb
  rw [t10_good]
  refine hK _ _ ⟨HB3.out, ?_⟩
  clear hK
  try simp only [Act.put, List.setIfInBounds_toArray, List.set_cons_zero, List.set_cons_succ]
  refine ors_pure (v := ?_) (by kernel_rfl) ?_ ?_
  rotate_left
  · intro w' hv; clear hv; go_simp; try with_reducible rfl
  try simp only [Act.put, List.setIfInBounds_toArray, List.set_cons_zero, List.set_cons_succ]
  refine ors_pure (v := ?_) (by kernel_rfl) ?_ ?_
  rotate_left
  · intro w' hv; clear hv; go_simp; try with_reducible rfl
  try simp only [Act.put, List.setIfInBounds_toArray, List.set_cons_zero, List.set_cons_succ]
  refine ors_pure (v := ?_) (by kernel_rfl) ?_ ?_
  rotate_left
  · intro w' hv; clear hv; go_simp; try with_reducible rfl
  try simp only [Act.put, List.setIfInBounds_toArray, List.set_cons_zero, List.set_cons_succ]
  refine ors_pure (v := ?_) (by kernel_rfl) ?_ ?_
  rotate_left
  · intro w' hv; clear hv; go_simp; try with_reducible rfl
  try simp only [Act.put, List.setIfInBounds_toArray, List.set_cons_zero, List.set_cons_succ]
  refine ors_pure (v := ?_) (by kernel_rfl) ?_ ?_
  rotate_left
  · intro w' hv; clear hv; go_simp; try with_reducible rfl
  try simp only [Act.put, List.setIfInBounds_toArray, List.set_cons_zero, List.set_cons_succ]
  refine ors_pure (v := ?_) (by kernel_rfl) ?_ ?_
  rotate_left
  · intro w' hv; have c32 := HC32.out w' hv; clear hv; go_simp; try with_reducible rfl
  try simp only [Act.put, List.setIfInBounds_toArray, List.set_cons_zero, List.set_cons_succ]
  refine ors_pure (v := ?_) (by kernel_rfl) ?_ ?_
  rotate_left
  · intro w' hv; have hst := HSTR.out w' hv; clear hv; go_simp; try with_reducible rfl
  try simp only [Act.put, List.setIfInBounds_toArray, List.set_cons_zero, List.set_cons_succ]
  refine ors_pure (v := ?_) (by kernel_rfl) ?_ ?_
  rotate_left
  · intro w' hv; have ht := t10_list; clear hv; go_simp; try with_reducible rfl
  try simp only [Act.put, List.setIfInBounds_toArray, List.set_cons_zero, List.set_cons_succ]
  refine ors_pure (v := ?_) (by kernel_rfl) ?_ ?_
  rotate_left
  · intro w' hv; clear hv; go_simp; try with_reducible rfl
  try simp only [Act.put, List.setIfInBounds_toArray, List.set_cons_zero, List.set_cons_succ]
  refine ors_pure (v := ?_) (by kernel_rfl) ?_ ?_
  rotate_left
  · intro w' hv; clear hv; go_simp; try with_reducible rfl
  try simp only [Act.put, List.setIfInBounds_toArray, List.set_cons_zero, List.set_cons_succ]
  refine ors_pure (v := ?_) (by kernel_rfl) ?_ ?_
  rotate_left
  · intro w' hv; clear hv; go_simp; try with_reducible rfl
  try simp only [Act.put, List.setIfInBounds_toArray, List.set_cons_zero, List.set_cons_succ]
  refine ors_pure (v := ?_) (by kernel_rfl) ?_ ?_
  rotate_left
  · intro w' hv; clear hv; go_simp; try with_reducible rfl
  try simp only [Act.put, List.setIfInBounds_toArray, List.set_cons_zero, List.set_cons_succ]
  refine ors_pure (v := ?_) (by kernel_rfl) ?_ ?_
  rotate_left
  · intro w' hv; clear hv; go_simp; try with_reducible rfl
  try simp only [Act.put, List.setIfInBounds_toArray, List.set_cons_zero, List.set_cons_succ]
  refine ors_pure (by kernel_rfl) (fun w' hv => load_su 24 (.tmp 25) rfl ad rfl elSum.2.1 szSum (shaU t10) (fun j u hu => HCLD.out _ hv j u (encP_su hu))) ?_
  try simp only [Act.put, List.setIfInBounds_toArray, List.set_cons_zero, List.set_cons_succ]
  refine ors_step (by kernel_rfl) (fun K hK => wp_lit8 10 _ rfl t10v (by decide) (by decide) (by kernel_rfl) (hK _ _ ⟨HB3.out.alloc HB3.out.size _, ?_⟩))
  try simp only [Act.put, List.setIfInBounds_toArray, List.set_cons_zero, List.set_cons_succ]
  refine ors_step (by kernel_rfl) (fun K hK => wp_convk (.tmp 27) rfl t10v 10 10 rfl (hK _ _ ⟨HB3.out.alloc HB3.out.size _, ?_⟩))
  try simp only [Act.put, List.setIfInBounds_toArray, List.set_cons_zero, List.set_cons_succ]
  have HBK : Hid (Bs (w2.alloc (.cells t10v 5 (t10v.size, t10v.size + 1))) (.slice (some ⟨w2.heap.size, 0, none⟩) 10 10) t10) := Lib.hid (bs_litk w2 t10 t10v _ t10_eq 10 rfl)
  replace HB3 := Lib.hid (HB3.out.alloc HB3.out.size (.cells t10v 5 (t10v.size, t10v.size + 1)))
  generalize w2.alloc (.cells t10v 5 (t10v.size, t10v.size + 1)) = w3 at *
  generalize w2.heap.size = g2 at *
  refine ors_step (by kernel_rfl) (fun K hK => wp_one_bs (.tmp 28) rfl (some ⟨g2, 0, none⟩) 10 10 rfl (hK _ _ ⟨HB3.out.alloc HB3.out.size _, ?_⟩))
  try simp only [Act.put, List.setIfInBounds_toArray, List.set_cons_zero, List.set_cons_succ]
  refine ors_step (by kernel_rfl) (fun K hK => ?_)
  go_wp2_with fail
  refine Calls.mono (of_one HBK.out (by decide) (HLD.out.keep HB3.out (Nat.lt_of_lt_of_le HSZ.out HB2.out.size))) ?_
  rintro e w4 ⟨rfl, _, hb⟩
  have HB4 := Lib.hid (HB3.out.trans (hb.mono HB3.out.size))
  clear hb
  refine hK _ _ ⟨HB4.out, ?_⟩
  clear hK
  try simp only [Act.put, List.setIfInBounds_toArray, List.set_cons_zero, List.set_cons_succ]
  refine ors_pure (by kernel_rfl) (fun w' hv => eql_su 24 (.tmp 26) (.tmp 30) _ rfl (shaU t10) (shaU t10) rfl rfl elSum.2.1 gdSumP) ?_
  try simp only [Act.put, List.setIfInBounds_toArray, List.set_cons_zero, List.set_cons_succ]
  simp only [decide_true]
  refine ors_pure (v := ?_) (by kernel_rfl) ?_ ?_
  rotate_left
  · intro w' hv; clear hv; go_simp; try with_reducible rfl
  try simp only [Act.put, List.setIfInBounds_toArray, List.set_cons_zero, List.set_cons_succ]
  refine ors_pure (v := ?_) (by kernel_rfl) ?_ ?_
  rotate_left
  · intro w' hv; clear hv; go_simp; try with_reducible rfl
  try simp only [Act.put, List.setIfInBounds_toArray, List.set_cons_zero]
  refine ors_nil ?_
  go_wp2_with fail
  go_ret
  exact ⟨rfl, HB2.out.trans (HB4.out.mono HB2.out.size)⟩
end Go.Proofs.YthpledfjopbchaaDoor
