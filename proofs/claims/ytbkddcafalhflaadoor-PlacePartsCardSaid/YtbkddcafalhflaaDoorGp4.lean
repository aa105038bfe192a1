/- Contracts: the document's own Word (package tallymanref1). Condition: thirty-two bytes each. -/
import Derived.Test.YtbkddcafalhflaaDoorWord
import Derived.Test.YtbkddcafalhflaaDoorGp1
import Derived.Test.YtbkddcafalhflaaDoorGp2
namespace Go.Proofs.YtbkddcafalhflaaDoor
open Go.RowKit
section
attribute [local go_sem] M_or M_shl8 M_of_B
set_option maxHeartbeats 1000000 in
theorem rword_any (x : List (BitVec 8)) (hx : x.length = 32) (i : Int) (w : World) :
    Calls Tryd.prog 20 #[.agg (x.map u8v).toArray, .int .i64 i] w fun e w' => e = .returned (.int .u64 (M (wordOf x i))) ∧ Below w.heap.size w w' := by
  obtain ⟨cx, hcx⟩ : ∃ cx, cx = x.map u8v := ⟨_, rfl⟩
  rw [← hcx]
  have Hcx := Lib.hid hcx
  have Hx := Lib.hid hx
  clear hcx hx
  have hm0 : (0 : Int) = M 0 := rfl
  by_cases h1 : i < 0
  · have hw : wordOf x i = 0 := if_neg (by omega)
    rw [hw]
    have HM := Lib.hid hm0
    clear hm0 hw
    go_enter Tryd.func20, Tryd.ntmps20
    go_wp2_with fail
    go_loop [5, 6] (fun v j => v = .int .u64 0 ∧ j = .int .i64 7) (fun _ _ => 0)
    case atStart => exact ⟨rfl, rfl⟩
    case round =>
      obtain ⟨rfl, rfl⟩ := hrel
      go_wp2
      go_ret
      exact ⟨congrArg (fun n => Ending.returned (.int .u64 n)) HM.out, (Below.refl _ _).alloc (Nat.le_refl _) _⟩
  by_cases h2 : 4 ≤ i
  · have hw : wordOf x i = 0 := if_neg (by omega)
    rw [hw]
    have HM := Lib.hid hm0
    clear hm0 hw
    go_enter Tryd.func20, Tryd.ntmps20
    go_wp2_with fail
    go_loop [5, 6] (fun v j => v = .int .u64 0 ∧ j = .int .i64 7) (fun _ _ => 0)
    case atStart => exact ⟨rfl, rfl⟩
    case round =>
      obtain ⟨rfl, rfl⟩ := hrel
      go_wp2
      go_ret
      exact ⟨congrArg (fun n => Ending.returned (.int .u64 n)) HM.out, (Below.refl _ _).alloc (Nat.le_refl _) _⟩
  obtain ⟨k, rfl⟩ := Int.eq_ofNat_of_zero_le (show 0 ≤ i by omega)
  have hk4 : k < 4 := by omega
  have hw : wordOf x (k : Int) = wordTo x k 8 := by unfold wordOf; rw [if_pos (by omega)]; simp
  rw [hw]
  have HM := Lib.hid hm0
  clear hm0 hw
  go_enter Tryd.func20, Tryd.ntmps20
  go_wp2_with fail
  generalize hw0 : w.alloc _ = w0
  have hH : Has w0 w.heap.size 32 (x.map u8v) := by subst hw0; rw [← Hcx.out]; exact Has.made' _ _ _ _ rfl
  have hB : Below w.heap.size w w0 := by subst hw0; exact (Below.refl _ _).alloc (Nat.le_refl _) _
  clear hw0
  go_loop [5, 6] (fun v j => ∃ n : Nat, n ≤ 8 ∧ j = .int .i64 (7 - (n : Int)) ∧ v = .int .u64 (M (wordTo x k n))) (fun _ j => (intOf j + 1).toNat)
  case atStart => exact ⟨0, by omega, rfl, congrArg (Value.int .u64) HM.out⟩
  case round =>
    obtain ⟨n, hn, rfl, rfl⟩ := hrel
    by_cases hlt : n < 8
    · have k1 : (0 : Int) ≤ 7 - (n : Int) := by omega
      have hc := hH.cellv (at8_of x (8 * k + (7 - n)) (by rw [Hx.out]; omega))
      have k2 : 8 * (k : Int) + (7 - (n : Int)) < 32 := by omega
      go_wp2
      go_round
      case rel => exact ⟨n + 1, by omega, by go_num, rfl⟩
      case measure => simp [intOf]; omega
    · have : n = 8 := by omega
      subst this
      have k1 : ¬ (0 : Int) ≤ 7 - ((8 : Nat) : Int) := by omega
      go_wp2
      go_ret
      exact ⟨rfl, hB⟩
end
end Go.Proofs.YtbkddcafalhflaaDoor
/- Contract: the document's own Places. Condition: a seed of 64 bits. -/
namespace Go.Proofs.YtbkddcafalhflaaDoor
open Go.RowKit
theorem int_info : (Tryd.prog.info? 3).map (fun i => (i.zero, i.size, i.bytes)) = some (some (.int .i64 0), 1, 8) := by kernel_rfl
theorem wp_add1 {ops : Array Oper} {rest : List Oper} {o : Oper} {a : Act} {Q : Exit → Act → World → Prop} {T LT : TypeId} {z : Value} {by8 : Nat} (hLT : Tryd.prog.underlying LT = some (.slice T)) (hI : (Tryd.prog.info? T).map (fun i => (i.zero, i.size, i.bytes)) = some (some z, 1, by8)) (hz : z.cells.size = 1) (h8 : by8 ≤ 64)
    (hgd : o.guard = none) (sl x : Operand) (ho : o.op = .call { callee := .builtin .append, args := #[sl, x], argTypes := #[LT, LT] }) {w : World} {base : Nat} {v : Value} {xs : List Value} (R : w.ownsRow base T 1 v xs.length xs) (hbase : base ≤ w.heap.size)
    (hs : a.eval sl = v) (g : Nat) (u : Value) (hx : a.eval x = .slice (some ⟨g, 0, none⟩) 1 1) (hc : w.cell? ⟨g, 0, none⟩ = some u) (hu : u.oneCell' = true) (hn : xs.length ≤ 1000000)
    (h : ∀ v' w', w'.ownsRow base T 1 v' (xs ++ [u]).length (xs ++ [u]) → Below base w w' → wpList Tryd.prog ops Q rest (a.put o.dst v') w') : wpList Tryd.prog ops Q (o :: rest) a w := by
  obtain ⟨i0, hi, hz0, hz1, hz2⟩ := info_parts hI
  refine wpList_append_own _ hgd sl x LT ho base T i0 z 1 by8 hLT hi hz0 hz1 hz2 hz (by decide) v xs.length xs hs R ⟨g, 0, none⟩ 1 1 [u] hx rfl ?_ ?_ (by unfold maxLen; omega) ?_ hbase
    fun v' w' ho' hg' _ => h v' w' (by rw [List.length_append]; exact ho') ((Below.refl base w).grown hg' hbase (fun k hk => own_base R k hk))
  · intro j y hj
    cases j with
    | zero => simp at hj; subst hj; simpa [Addr.add] using hc
    | succ j => simp at hj
  · intro y hy; simp at hy; subst hy; exact hu
  · exact Nat.le_trans (Nat.mul_le_mul (show xs.length + 1 ≤ 1000001 by omega) h8) (by decide)
def in64 (n : Int) : Value := .int .i64 n
theorem Ins.own {w : World} {base n : Nat} {v : Value} {l : List Int} (h : w.ownsRow base 3 1 v n (l.map in64)) : Ins w v l := by
  have hn : l.length = n := by have := h.1; simpa using this
  subst hn
  rcases h.2 with ⟨rfl, h0⟩ | ⟨g, cap, cur, rfl, hb, hg, h1, _⟩
  · have : l = [] := List.eq_nil_of_length_eq_zero h0
    subst this
    exact Ins.none w
  · refine ⟨_, cap, rfl, fun _ => ⟨_, rfl, (Array.getElem?_eq_some_iff.1 hg).1, ?_⟩⟩
    exact h.cells (g := g) rfl
theorem seed_take (s k : Nat) (h : k < 8) : (seedL s).take (k + 1) = (seedL s).take k ++ [seedB s k] := by
  unfold seedL
  rw [List.take_succ_eq_append_getElem (by simpa using h)]
  simp
theorem wordR_box (s : Su) (i : Nat) (w : World) : Calls Tryd.prog 20 #[.agg (encU s).toArray, .int .i64 (i : Nat)] w fun e w' => e = .returned (.int .u64 (M (wordOf s.1 (i : Nat)))) ∧ Below w.heap.size w w' := rword_any s.1 s.2 i w
theorem w64_i64 (n : Int) : IntKind.i64.wrap n = wrap64 n := by unfold wrap64; exact IntKind.wrap_i64 n
set_option maxHeartbeats 4000000 in
set_option maxRecDepth 100000 in
theorem rplaces_b (s : Nat) (hs : s < 18446744073709551616) (n : Int) (x : Su) (w w0 : World) (hB : Below w.heap.size w w0) :
    Calls Tryd.prog 12 #[.int .u64 (s : Nat), .int .i64 n, .agg (encU x).toArray] w0 fun e w' => (∃ v, e = .returned v ∧ Ins w' v (places s n x)) ∧ Below w.heap.size w w' := by
  have HSD := Lib.hid hs
  have HB := Lib.hid hB
  clear hs hB
  go_enter Tryd.func12, Tryd.ntmps12
  go_upto_region 0 with fail
  refine wp_region_lit ?_
  try simp only [Act.put, List.setIfInBounds_toArray, List.set_cons_zero, List.set_cons_succ]
  refine lp_step rfl (fun K hK => wp_box_row 32 (.tmp 2) rfl (.agg (encU x).toArray) rfl (hK _ _ ?_))
  try simp only [Act.put, List.setIfInBounds_toArray, List.set_cons_zero, List.set_cons_succ]
  show wpList _ _ _ _ _ (w0.alloc (.cells (encU x).toArray 32))
  have HST : Hid (Below w0.heap.size w0 (w0.alloc (.cells (encU x).toArray 32))) := Lib.hid ((Below.refl _ _).alloc (Nat.le_refl _) _)
  have HX1 : Hid (Has (w0.alloc (.cells (encU x).toArray 32)) w0.heap.size 32 (encU x)) := Lib.hid (Has.made' _ _ _ _ rfl)
  have HGg1 : Hid (w.heap.size ≤ w0.heap.size) := Lib.hid HB.out.size
  replace HB := Lib.hid (HB.out.trans (HST.out.mono HB.out.size))
  clear HST
  generalize w0.alloc (.cells (encU x).toArray 32) = w1 at *
  generalize w0.heap.size = g1 at *
  refine lp_pure rfl (ex_assign _ rfl rfl) ?_
  try simp only [Act.put, List.setIfInBounds_toArray, List.set_cons_zero, List.set_cons_succ]
  refine wpList_nil ?_
  obtain ⟨gd, hgd⟩ : ∃ gd, goodN n = gd := ⟨_, rfl⟩
  have HGD := Lib.hid hgd
  have hcall := goodR14_p n
  rw [hgd] at hcall
  clear hgd
  cases gd
  · go_wp2_with ((with_reducible refine (hcall _).mono ?_); rintro e w8 ⟨rfl, hb8⟩; have HB8 := Lib.hid (HB.out.trans (hb8.mono HB.out.size)); clear hb8)
    go_ret
    exact ⟨⟨_, rfl, by rw [places_none HGD.out]; exact Ins.none _⟩, HB8.out⟩
  go_upto_region 3 with ((with_reducible refine (hcall _).mono ?_); rintro e w8 ⟨rfl, hb8⟩; have HB8 := Lib.hid (HB.out.trans (hb8.mono HB.out.size)); have HX8 := Lib.hid (HX1.out.keepB hb8); clear hb8)
  clear hcall
  replace HX1 := Lib.hid HX8.out
  replace HB := Lib.hid HB8.out
  clear HX8 HB8
  refine wp_region_lit ?_
  try simp only [Act.put, List.setIfInBounds_toArray, List.set_cons_zero, List.set_cons_succ]
  refine lp_step rfl (fun K hK => wp_lit8 1 _ rfl ((t80.map u8v).toArray) (by decide) (by decide) (by kernel_rfl) (hK _ _ ?_))
  try simp only [Act.put, List.setIfInBounds_toArray, List.set_cons_zero, List.set_cons_succ]
  have HO := Lib.hid (OwB.made w8 t80 1 rfl (by decide))
  have HS3 : Hid (Below w8.heap.size w8 (w8.alloc (.cells (t80.map u8v).toArray 5))) := Lib.hid ((Below.refl _ _).alloc (Nat.le_refl _) _)
  have HZ3 : Hid (w8.heap.size ≤ (w8.alloc (.cells (t80.map u8v).toArray 5)).heap.size) := Lib.hid HS3.out.size
  have HX3 := Lib.hid (HX1.out.keepB HS3.out)
  have HXL : Hid (g1 < w8.heap.size) := Lib.hid HX1.out.lt
  have HWZ : Hid (w.heap.size ≤ w8.heap.size) := Lib.hid HB.out.size
  generalize w8.alloc (.cells (t80.map u8v).toArray 5) = w3 at *
  go_wp2_with fail
  go_loopw [7, 8] (fun vb vi wr => ∃ k : Nat, k ≤ 8 ∧ vi = .int .i64 k ∧ OwB wr w8.heap.size vb (t80 ++ (seedL s).take k) ∧ Has wr g1 32 (encU x) ∧ w8.heap.size ≤ wr.heap.size ∧ Below w8.heap.size w8 wr) (fun _ vi _ => 8 - (intOf vi).toNat)
  case atStart => exact ⟨0, by omega, rfl, HO.out, HX3.out, HZ3.out, HS3.out⟩
  case round =>
    clear HO HX3 HZ3 HS3
    rename_i wr
    obtain ⟨k, hk, rfl, ho, hx, hz, hB⟩ := hrel
    have HO := Lib.hid ho
    have HX := Lib.hid hx
    have HBW := Lib.hid hB
    have HZ := Lib.hid hz
    by_cases hk2 : k < 8
    · have HTK := Lib.hid (seed_take s k hk2)
      have hv := seed_byte s k
      have HLX : Hid ((t80 ++ (seedL s).take k).length ≤ 1000) := Lib.hid (by rw [List.length_append, List.length_take, seedL_len]; have : t80.length = 1 := rfl; omega)
      generalize seedB s k = y at *
      have k2 : (k : Int) < 8 := by omega
      have k3 : 8 * (k : Int) < 64 := by omega
      have s0 : (0 : Int) ≤ (s : Int) := by omega
      have s1 : (s : Int) < 18446744073709551616 := by have := HSD.out; omega
      have HOA : Hid (OwB (wr.alloc (.cells #[.int .u8 (B y)] 5)) w8.heap.size _ (t80 ++ (seedL s).take k)) := Lib.hid (ho.alloc _)
      have HXA := Lib.hid (hx.alloc (.cells #[.int .u8 (B y)] 5))
      have HBA := Lib.hid (hB.alloc hz (.cells #[.int .u8 (B y)] 5))
      have HLY := Lib.hid (u8v_lit wr y)
      have HZA : Hid (w8.heap.size ≤ (wr.alloc (.cells #[.int .u8 (B y)] 5)).heap.size) := Lib.hid (by simp; omega)
      generalize hZE : t80 ++ (seedL s).take k = Z at *
      have HZE := Lib.hid hZE
      clear hZE
      clear ho hx hB hz HO
      go_wp2_with (at_builtin; refine wpList_append_seesG rfl _ _ rfl w8.heap.size _ _ _ rfl HOA.out ⟨wr.heap.size, 0, none⟩ [y] 1 rfl HLY.out (by have := HLX.out; simp; omega) HZA.out ?_; intro v3 w3 g1 g2; have HN := Lib.hid (OwB.next g1); have HX3 := Lib.hid (HXA.out.grown (by decide) HOA.out g2); have HB3 := Lib.hid (HBA.out.grown g2 HZA.out (fun k hk => own_base HOA.out k hk)); have HZ3 := Lib.hid (Nat.le_trans HZA.out g2.4); clear g1 g2)
      go_roundw
      case rel => exact ⟨k + 1, by omega, by go_num, by rw [HTK.out, ← List.append_assoc, HZE.out]; exact HN.out, HX3.out, HZ3.out, HB3.out⟩
      case measure => simp [intOf]; omega
    · have hk8 : k = 8 := by omega
      subst hk8
      have hfull : (seedL s).take 8 = seedL s := List.take_of_length_le (by rw [seedL_len]; exact Nat.le_refl _)
      rw [hfull] at HO
      have k2 : ¬ ((8 : Nat) : Int) < 8 := by omega
      clear ho hx hB hz hfull hk2
      go_upto_region 8 with fail
      refine wp_region_lit ?_
      try simp only [Act.put, List.setIfInBounds_toArray, List.set_cons_zero, List.set_cons_succ]
      refine lp_pure rfl (ex_move (.tmp 7) rfl rfl) ?_
      try simp only [Act.put, List.setIfInBounds_toArray, List.set_cons_zero, List.set_cons_succ]
      refine lp_pure rfl (ex_loadR 32 (.tmp 5) rfl ⟨g1, 0, none⟩ rfl (fun _ => by kernel_rfl) (encU x) (by rw [encU_len]; kernel_rfl) (HX.out.part (encU x) 0 (encU_all' x))) ?_
      try simp only [Act.put, List.setIfInBounds_toArray, List.set_cons_zero, List.set_cons_succ]
      refine lp_call rfl 19 #[.tmp 30, .tmp 31] _ rfl #[_, .agg (encU x).toArray] (by kernel_rfl) (fun w => by kernel_rfl) (putSum_any x (t80 ++ seedL s) _ w8.heap.size w8 wr HBW.out HZ.out HO.out (by rw [List.length_append, seedL_len]; decide)) ?_
      rintro e w4 ⟨⟨v4, rfl, ho4⟩, hb4⟩
      refine ⟨v4, rfl, ?_⟩
      try simp only [Act.put, List.setIfInBounds_toArray, List.set_cons_zero, List.set_cons_succ]
      refine lp_call rfl 18 #[.tmp 32] _ rfl #[v4] (by kernel_rfl) (fun w => by kernel_rfl) (rof_ow ho4 (by rw [List.length_append, List.length_append, seedL_len, x.2]; decide)) ?_
      rintro e w5 ⟨rfl, hb5⟩
      refine ⟨_, rfl, ?_⟩
      try simp only [Act.put, List.setIfInBounds_toArray, List.set_cons_zero, List.set_cons_succ]
      have HB5 : Hid (Below w.heap.size w w5) := Lib.hid (HB.out.trans ((hb4.trans (hb5.mono hb4.size)).mono HWZ.out))
      have hps : shaU (t80 ++ seedL s ++ x.1) = placeS s x := rfl
      rw [hps]
      clear hb4 hb5 ho4 HO HX HBW HZ HB hps
      refine lp_step rfl (fun K hK => wp_alloc_row 32 rfl (.agg (encU zS).toArray) (fun w => by kernel_rfl) (hK _ _ ?_))
      try simp only [Act.put, List.setIfInBounds_toArray, List.set_cons_zero, List.set_cons_succ]
      show wpList _ _ _ _ _ (w5.alloc (.cells (encU zS).toArray 32))
      have HS6 : Hid (Below w5.heap.size w5 (w5.alloc (.cells (encU zS).toArray 32))) := Lib.hid ((Below.refl _ _).alloc (Nat.le_refl _) _)
      have HX6 : Hid (Has (w5.alloc (.cells (encU zS).toArray 32)) w5.heap.size 32 (encU zS)) := Lib.hid (Has.made' _ _ _ _ rfl)
      have HB6 := Lib.hid (HB5.out.trans (HS6.out.mono HB5.out.size))
      have HG6 := Lib.hid HB5.out.size
      clear HS6 HB5
      generalize w5.alloc (.cells (encU zS).toArray 32) = w6 at *
      generalize w5.heap.size = g6 at *
      refine wpList_store_row rfl 32 (.tmp 9) (.tmp 33) rfl g6 (encU (placeS s x)).toArray rfl rfl 32 (encU zS).toArray HX6.out (by rw [List.size_toArray, encU_len]; kernel_rfl) (by simp only [List.size_toArray, encU_len]) (encU_all _) ?_
      simp only [Act.put]
      refine wpList_nil ?_
      have HP : Hid (Has (w6.setRow g6 (encU (placeS s x)).toArray) g6 32 (encU (placeS s x))) := Lib.hid (HX6.out.rowl _)
      have HF := Lib.hid (below_row HB6.out HG6.out (encU (placeS s x)).toArray)
      clear HB6 HX6
      generalize w6.setRow g6 (encU (placeS s x)).toArray = w9 at *
      obtain ⟨p, hp1, hp2, rfl⟩ := good_part HGD.out
      have q1 : (3 * (p : Int)) / 3 = p := by omega
      have HLT : Hid (g6 < w9.heap.size) := Lib.hid HP.out.lt
      go_wp2_with fail
      go_loopw [10, 12] (fun vl vi wr => ∃ k : Nat, k ≤ 3 ∧ vi = .int .i64 k ∧ wr.ownsRow w9.heap.size 3 1 vl (((List.range k).map (placeAt s (3 * p) x)).map in64).length (((List.range k).map (placeAt s (3 * p) x)).map in64) ∧ Has wr g6 32 (encU (placeS s x)) ∧ w9.heap.size ≤ wr.heap.size ∧ Below w9.heap.size w9 wr) (fun _ vi _ => 3 - (intOf vi).toNat)
      case atStart => exact ⟨0, by omega, rfl, ⟨rfl, .inl ⟨rfl, rfl⟩⟩, HP.out, Nat.le_refl _, Below.refl _ _⟩
      case round =>
        clear HP
        rename_i wq
        obtain ⟨k, hk, rfl, ho, hx, hz, hB⟩ := hrel
        have HO := Lib.hid ho
        have HX := Lib.hid hx
        have HBW := Lib.hid hB
        have HZ := Lib.hid hz
        clear ho hx hB hz
        by_cases hlt : k < 3
        · have HRS : Hid ((List.range (k + 1)).map (placeAt s (3 * p) x) = (List.range k).map (placeAt s (3 * p) x) ++ [placeAt s (3 * p) x k]) := Lib.hid (by rw [List.range_succ, List.map_append]; rfl)
          have HAT : Hid (placeAt s (3 * p) x k = k * p + M (wordOf (placeS s x).1 k) % p) := Lib.hid (by unfold placeAt; rw [q1])
          have HM : Hid (0 ≤ M (wordOf (placeS s x).1 k)) := Lib.hid (M_nonneg _)
          have HWD := Lib.hid (wordR_box (placeS s x) k)
          have HLN : Hid ((((List.range k).map (placeAt s (3 * p) x)).map in64).length ≤ 1000000) := Lib.hid (by rw [List.length_map, List.length_map, List.length_range]; omega)
          generalize M (wordOf (placeS s x).1 k) = m at *
          generalize hL : (List.range k).map (placeAt s (3 * p) x) = L at *
          have m0 : 0 ≤ m % (p : Int) := Int.emod_nonneg _ (by omega)
          have m1 : m % (p : Int) < p := Int.emod_lt_of_pos _ (by omega)
          have hp0 : ¬ ((p : Int) = 0) := by omega
          have hkp : (k : Int) * p ≤ 2 * 341 := by
            have : k = 0 ∨ k = 1 ∨ k = 2 := by omega
            rcases this with rfl | rfl | rfl <;> simp <;> omega
          have hkp0 : 0 ≤ (k : Int) * p := Int.mul_nonneg (by omega) (by omega)
          have hk3 : (k : Int) < 3 := by omega
          have ew : IntKind.u64.wrap (p : Int) = p := by rw [wrap_u64']; omega
          have em : IntKind.i64.wrap (m % (p : Int)) = m % (p : Int) := by rw [IntKind.wrap_i64]; omega
          have ek : IntKind.i64.wrap ((k : Int) * p) = (k : Int) * p := by rw [IntKind.wrap_i64]; omega
          have ea : IntKind.i64.wrap ((k : Int) * p + m % (p : Int)) = (k : Int) * p + m % (p : Int) := by rw [IntKind.wrap_i64]; omega
          have HE9 : Hid (wrap64 ((k : Int) * p + wrap64 (m.tmod p)) = placeAt s (3 * p) x k) := Lib.hid (by rw [← w64_i64, ← w64_i64, Int.tmod_eq_emod_of_nonneg HM.out, em, ea, HAT.out])
          clear hL
          go_wp2_with (first | (refine wpList_load_row rfl 32 _ rfl g6 rfl 32 _ (0, 0) _ HX.out Tryd.underlying32 rfl (by rw [List.size_toArray, encU_len]; kernel_rfl) ?_) | ((with_reducible refine (HWD.out _).mono ?_); rintro e w7 ⟨rfl, hb7⟩; have HO7 := Lib.hid (own_keep HO.out hb7 (fun k hk => hk)); have HX7 := Lib.hid (HX.out.keepB hb7); have HZ7 := Lib.hid (Nat.le_trans HZ.out hb7.size); have HB7 := Lib.hid (HBW.out.trans (hb7.mono HBW.out.size)); clear hb7) | (at_builtin; refine wp_add1 Tryd.underlying23 int_info rfl (by decide) rfl (.tmp 40) (.tmp 52) rfl (base := w9.heap.size) (HO7.out.alloc _) (by have := HZ7.out; simp; omega) rfl w7.heap.size _ rfl (by simp; rfl) rfl HLN.out ?_; intro v3 w3 h1 h2; have HR3 := Lib.hid h1; have HB3 := Lib.hid h2; clear h1 h2))
          go_roundw
          case rel =>
            have hb3 := ((Below.refl w9.heap.size w7).alloc HZ7.out _).trans HB3.out
            refine ⟨k + 1, by omega, by go_num, ?_, HX7.out.keep hb3 HLT.out, Nat.le_trans HZ7.out hb3.size, HB7.out.trans hb3⟩
            rw [HRS.out, ← HE9.out, List.map_append]
            exact HR3.out
          case measure => simp [intOf]; omega
        · have : k = 3 := by omega
          subst this
          have k1 : ¬ ((3 : Nat) : Int) < 3 := by omega
          go_wp2_with fail
          go_ret
          refine ⟨⟨_, rfl, ?_⟩, HF.out.trans (HBW.out.mono HF.out.size)⟩
          have hpl : places s (3 * p) x = (List.range 3).map (placeAt s (3 * p) x) := if_pos HGD.out
          rw [hpl]
          exact Ins.own HO.out
theorem rplaces_any (s : Nat) (hs : s < 18446744073709551616) (n : Int) (x : Su) (w : World) :
    Calls Tryd.prog 12 #[.int .u64 (s : Nat), .int .i64 n, .agg (encU x).toArray] w fun e w' => (∃ v, e = .returned v ∧ Ins w' v (places s n x)) ∧ Below w.heap.size w w' := rplaces_b s hs n x w w (Below.refl _ _)
end Go.Proofs.YtbkddcafalhflaaDoor
/- Contract: the document's own Level. No condition. -/
namespace Go.Proofs.YtbkddcafalhflaaDoor
open Go.RowKit
/-- How the loop goes on: so many are told, so many may be told yet. -/
theorem lv_step (v k : Nat) (h : v % 2 = 0) : lvN v (k + 1) = lvN (v / 2) k + 1 := by
  show (if v % 2 = 0 then lvN (v / 2) k + 1 else 0) = _
  rw [if_pos h]
theorem lv_stop (v k : Nat) (h : ¬ v % 2 = 0) : lvN v (k + 1) = 0 := by
  show (if v % 2 = 0 then lvN (v / 2) k + 1 else 0) = _
  rw [if_neg h]
set_option maxHeartbeats 4000000 in
set_option maxRecDepth 100000 in
theorem rlevel_b (x : Su) (w w0 : World) (hB : Below w.heap.size w w0) :
    Calls Tryd.prog 13 #[.agg (encU x).toArray] w0 fun e w' => e = .returned (.int .i64 (levelN x : Nat)) ∧ Below w.heap.size w w' := by
  have HB := Lib.hid hB
  clear hB
  go_enter Tryd.func13, Tryd.ntmps13
  go_upto_region 0 with fail
  refine wp_region_lit ?_
  try simp only [Act.put, List.setIfInBounds_toArray, List.set_cons_zero, List.set_cons_succ]
  refine lp_step rfl (fun K hK => wp_box_row 32 (.tmp 0) rfl (.agg (encU x).toArray) rfl (hK _ _ ?_))
  try simp only [Act.put, List.setIfInBounds_toArray, List.set_cons_zero, List.set_cons_succ]
  show wpList _ _ _ _ _ (w0.alloc (.cells (encU x).toArray 32))
  have HST : Hid (Below w0.heap.size w0 (w0.alloc (.cells (encU x).toArray 32))) := Lib.hid ((Below.refl _ _).alloc (Nat.le_refl _) _)
  have HX1 : Hid (Has (w0.alloc (.cells (encU x).toArray 32)) w0.heap.size 32 (encU x)) := Lib.hid (Has.made' _ _ _ _ rfl)
  have HGg1 : Hid (w.heap.size ≤ w0.heap.size) := Lib.hid HB.out.size
  replace HB := Lib.hid (HB.out.trans (HST.out.mono HB.out.size))
  clear HST
  generalize w0.alloc (.cells (encU x).toArray 32) = w1 at *
  generalize w0.heap.size = g1 at *
  refine lp_pure rfl (ex_assign _ rfl rfl) ?_
  try simp only [Act.put, List.setIfInBounds_toArray, List.set_cons_zero, List.set_cons_succ]
  refine wpList_nil ?_
  go_upto_region 1 with fail
  refine wp_region_lit ?_
  try simp only [Act.put, List.setIfInBounds_toArray, List.set_cons_zero, List.set_cons_succ]
  refine lp_step rfl (fun K hK => wp_lit8 1 _ rfl ((t76.map u8v).toArray) (by decide) (by decide) (by kernel_rfl) (hK _ _ ?_))
  try simp only [Act.put, List.setIfInBounds_toArray, List.set_cons_zero, List.set_cons_succ]
  have HO := Lib.hid (OwB.made w1 t76 1 rfl (by decide))
  have HS3 : Hid (Below w1.heap.size w1 (w1.alloc (.cells (t76.map u8v).toArray 5))) := Lib.hid ((Below.refl _ _).alloc (Nat.le_refl _) _)
  have HZ3 : Hid (w1.heap.size ≤ (w1.alloc (.cells (t76.map u8v).toArray 5)).heap.size) := Lib.hid HS3.out.size
  have HX3 := Lib.hid (HX1.out.keepB HS3.out)
  generalize w1.alloc (.cells (t76.map u8v).toArray 5) = w3 at *
  refine lp_pure rfl (ex_loadR 32 (.tmp 1) rfl ⟨g1, 0, none⟩ rfl (fun _ => by kernel_rfl) (encU x) (by rw [encU_len]; kernel_rfl) (HX3.out.part (encU x) 0 (encU_all' x))) ?_
  try simp only [Act.put, List.setIfInBounds_toArray, List.set_cons_zero, List.set_cons_succ]
  refine lp_call rfl 19 #[.tmp 5, .tmp 6] _ rfl #[.slice (some ⟨w1.heap.size, 0, none⟩) 1 1, .agg (encU x).toArray] (by kernel_rfl) (fun w => by kernel_rfl) (putSum_any x t76 _ w1.heap.size w1 w3 HS3.out HZ3.out HO.out (by decide)) ?_
  rintro e w4 ⟨⟨v4, rfl, ho4⟩, hb4⟩
  refine ⟨v4, rfl, ?_⟩
  try simp only [Act.put, List.setIfInBounds_toArray, List.set_cons_zero, List.set_cons_succ]
  refine lp_call rfl 18 #[.tmp 7] _ rfl #[v4] (by kernel_rfl) (fun w => by kernel_rfl) (rof_ow ho4 (by rw [List.length_append, x.2]; decide)) ?_
  rintro e w5 ⟨rfl, hb5⟩
  refine ⟨_, rfl, ?_⟩
  try simp only [Act.put, List.setIfInBounds_toArray, List.set_cons_zero, List.set_cons_succ]
  refine lp_call rfl 20 #[.tmp 8, _] _ rfl #[.agg (encU (shaU (t76 ++ x.1))).toArray, .int .i64 3] (by kernel_rfl) (fun w => by kernel_rfl) (rword_any (shaU (t76 ++ x.1)).1 (shaU (t76 ++ x.1)).2 3 _) ?_
  rintro e w6 ⟨rfl, hb6⟩
  refine ⟨_, rfl, ?_⟩
  try simp only [Act.put, List.setIfInBounds_toArray, List.set_cons_zero, List.set_cons_succ]
  have HB6 : Hid (Below w.heap.size w w6) := Lib.hid ((HB.out.trans ((hb4.trans (hb5.mono hb4.size)).mono HB.out.size)).trans (hb6.mono (Nat.le_trans HB.out.size (Nat.le_trans hb4.size hb5.size))))
  clear hb4 hb5 hb6 ho4 HO HX3 HS3 HZ3 HB
  have HLV : Hid (lvN (levelW x).toNat 9 = levelN x) := Lib.hid rfl
  have HVB : Hid ((levelW x).toNat < 18446744073709551616) := Lib.hid (levelW x).isLt
  have hmv : M (wordOf (shaU (t76 ++ x.1)).1 3) = ((levelW x).toNat : Int) := rfl
  rw [hmv]
  generalize (levelW x).toNat = v0 at *
  clear hmv
  refine lp_pure rfl (ex_assign (.tmp 9) rfl rfl) ?_
  try simp only [Act.put, List.setIfInBounds_toArray, List.set_cons_zero, List.set_cons_succ]
  refine wpList_nil ?_
  go_wp2_with fail
  go_loop [3, 4] (fun vv vn => ∃ k v : Nat, k ≤ 9 ∧ vv = .int .u64 v ∧ vn = .int .i64 k ∧ v < 18446744073709551616 ∧ lvN v (9 - k) + k = levelN x) (fun _ vn => 9 - (intOf vn).toNat)
  case atStart => exact ⟨0, v0, by omega, rfl, rfl, HVB.out, HLV.out⟩
  case round =>
    obtain ⟨k, v, hk, rfl, rfl, hv, hl⟩ := hrel
    by_cases hlt : k < 9
    · have k1 : (k : Int) < 9 := by omega
      by_cases hz : v % 2 = 0
      · have HST := Lib.hid (lv_step v (8 - k) hz)
        have hl2 := hl
        rw [show 9 - k = (8 - k) + 1 by omega, HST.out] at hl2
        have HL2 := Lib.hid hl2
        have z1 : ((v : Int) % 2 == 0) = true := by simp; omega
        have v0' : (0 : Int) ≤ v := by omega
        clear hl hl2 hz
        go_wp2_with fail
        go_round
        case rel => exact ⟨k + 1, v / 2, by omega, by go_num, by go_num, by omega, by rw [show 9 - (k + 1) = 8 - k by omega]; have := HL2.out; omega⟩
        case measure => simp [intOf]; omega
      · have HST := Lib.hid (lv_stop v (8 - k) hz)
        have hl2 := hl
        rw [show 9 - k = (8 - k) + 1 by omega, HST.out] at hl2
        have z1 : ((v : Int) % 2 == 0) = false := by simp; omega
        have HKE : Hid (k = levelN x) := Lib.hid (by omega)
        clear hl hl2 hz
        go_wp2_with fail
        go_ret
        exact ⟨by rw [← HKE.out]; rfl, HB6.out⟩
    · have hk9 : k = 9 := by omega
      subst hk9
      have HKE : Hid (9 = levelN x) := Lib.hid (by have : lvN v (9 - 9) = 0 := rfl; omega)
      have k1 : ¬ ((9 : Nat) : Int) < 9 := by omega
      clear hl
      go_wp2_with fail
      go_ret
      exact ⟨by rw [← HKE.out]; rfl, HB6.out⟩
theorem rlevel_any (x : Su) (w : World) :
    Calls Tryd.prog 13 #[.agg (encU x).toArray] w fun e w' => e = .returned (.int .i64 (levelN x : Nat)) ∧ Below w.heap.size w w' := rlevel_b x w w (Below.refl _ _)
end Go.Proofs.YtbkddcafalhflaaDoor
