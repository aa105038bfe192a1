/- Contracts: chunk.Cut, the pieces of bytes with their sums. Conditions: at most a million bytes, no longer than their room; the sums' tables are laid. -/
import Derived.Test.YthpledfjopbchaaDoorPc
import Derived.Test.YthpledfjopbchaaDoorOf
import Derived.Test.YthpledfjopbchaaDoorRule
import Derived.Test.YthpledfjopbchaaDoorCuto
import Derived.Test.YthpledfjopbchaaDoorUp
import Derived.Test.YthpledfjopbchaaDoorRturn
namespace Go.Proofs.YthpledfjopbchaaDoor
open Go.RowKit
/-- The plain rule. -/
def plR : Rl := ⟨16, 128, 8, 31, 7⟩
theorem plR_ok : plR.Ok := by constructor <;> decide
def shaU (x : List (BitVec 8)) : Su := ⟨sha x, sha_length _⟩
/-- The pieces, each with its sum. -/
def cutP (b : List (BitVec 8)) : List (Su × List (BitVec 8)) := (pieces b (endsL plR 0 b)).map fun x => (shaU x, x)
theorem cutP_length (b : List (BitVec 8)) : (cutP b).length = (endsL plR 0 b).length := by unfold cutP; rw [List.length_map, pieces_length]
def keyP (p : Pc) : Su × List (BitVec 8) := (p.1, p.2.2)
theorem elPc : ElP 33 28 := ⟨Tryd.underlying33, ⟨_, Tryd.underlying28⟩, by kernel_rfl⟩
/-- The thirty-three cells of none. -/
def zPc : Array Value := Array.replicate 32 (Value.int .u8 0) ++ #[Value.slice none 0 0]
theorem made_runP (n : Nat) (hn : n ≤ 1000000) (w : World) :
    (Instr.makeSlice 33 (.int .i64 0) (.int .i64 (n : Int))).run Tryd.prog w = .ok (.slice (some ⟨w.heap.size, 0, none⟩) 0 n) (w.alloc (.cells (madeCells zPc (n * 33)) 28)) := by
  obtain ⟨i0, hi, hz0, hz1, hz2⟩ := info_parts elPc.2.2
  have := run_make (P := Tryd.prog) w 33 28 i0 _ elPc.1 hi hz0 .i64 .i64 0 n (by omega) (by omega) (by rw [hz2]; omega) (by omega)
  rw [hz1, show (Value.agg (Array.replicate 32 (Value.int .u8 0) ++ #[Value.slice none 0 0])).cells = zPc from rfl] at this
  simpa using this
theorem of_one {w : World} {v : Value} {x : List (BitVec 8)} (h : Bs w v x) (hx : x.length ≤ 1000000) (hL : Laid w) :
    Calls Tryd.prog 9 #[.slice (some ⟨w.heap.size, 0, none⟩) 1 1] (w.alloc (.cells #[v] 26)) fun e w' => e = .returned (.agg (encU (shaU x)).toArray) ∧ Below (w.alloc (.cells #[v] 26)).heap.size (w.alloc (.cells #[v] 26)) w' ∧ Below w.heap.size w w' := by
  obtain ⟨q, c, rfl, hc, _, hs⟩ := h
  have hb : Below w.heap.size w (w.alloc (.cells #[.slice q x.length c] 26)) := (Below.refl _ _).alloc (Nat.le_refl _) _
  have hP : Parts (w.alloc (.cells #[.slice q x.length c] 26)) (w.alloc (.cells #[.slice q x.length c] 26)).heap.size (some ⟨w.heap.size, 0, none⟩) [x] := fun i hi => by
    obtain rfl : i = 0 := by simpa using hi
    refine ⟨⟨w.heap.size, 0, none⟩, q, c, rfl, by simp, ?_, hc, (hs.keep hb).more hb.size⟩
    rw [add_lit', Nat.zero_add]
    exact (Has.made' w 26 #[.slice q x.length c] [.slice q x.length c] rfl).cellv rfl
  have h := of_any [x] _ 1 _ hP (by simp) (by simp; omega) (hL.keep hb hL.size)
  refine Calls.mono h ?_
  rintro e w' ⟨rfl, h2⟩
  have e : ([x] : List (List (BitVec 8))).flatten = x := by simp
  rw [e]
  exact ⟨rfl, h2, hb.trans (h2.mono hb.size)⟩
theorem built_pc (s : Su) (q : Option Addr) (n c : Nat) (x : List (BitVec 8)) : Tryd.prog.built 28 [(0, .agg (encU s).toArray), (1, .slice q n c)] = some (encP (s, .slice q n c, x)).toArray := by
  obtain ⟨l, hl⟩ := s
  unfold encP encU
  match l, hl with
  | [a0, a1, a2, a3, a4, a5, a6, a7, a8, a9, b0, b1, b2, b3, b4, b5, b6, b7, b8, b9, c0, c1, c2, c3, c4, c5, c6, c7, c8, c9, d0, d1], _ => show _ = _; kernel_rfl
theorem build_cells {o : Oper} {ev : Operand → Value} {w : World} (E : TypeId) (parts : Array (Nat × Operand)) (ho : o.op = .build E parts) (cs : Array Value) (l : List (Nat × Value)) (hl : (parts.map fun (i, x) => (i, ev x)).toList = l) (hb : Tryd.prog.built E l = some cs) :
    (execOp ev o).run Tryd.prog w = .ok (.value (.agg cs)) w := by
  unfold execOp
  simp only [ho, Sem.run_bind, run_build w E _ cs (by rw [hl]; exact hb), Result.andThen_ok]
  rfl
theorem slT_infoP : (Tryd.prog.info? 26).map (fun i => (i.zero, i.size, i.bytes)) = some (some (.slice none 0 0), 1, 24) := by kernel_rfl
section
variable {o : Oper} {a : Act} {w : World} {Q : Exit → Act → World → Prop} {K : Act → World → Prop}
/-- A row of one slice of bytes. -/
theorem wp_one_bs (x : Operand) (ho : o.op = .buildSlice 58 1 #[(0, x)]) (q : Option Addr) (n c : Nat) (hx : a.eval x = .slice q n c)
    (h : K (a.put o.dst (.slice (some ⟨w.heap.size, 0, none⟩) 1 1)) (w.alloc (.cells #[.slice q n c] 26))) : o.wp Tryd.prog a w K Q := by
  obtain ⟨i0, hi, hz0, hz1, hz2⟩ := info_parts slT_infoP
  refine wp_buildSlice 58 26 1 _ ho #[.slice q n c] i0 _ Tryd.underlying58 hi hz0 (by rw [hz1]; omega) (by rw [hz1]; omega) ?_ h
  rw [hz1]
  simp only [List.map_toArray, List.map_cons, List.map_nil, hx]
  kernel_rfl
end
set_option maxHeartbeats 4000000 in
set_option maxRecDepth 100000 in
theorem ccut_any (b : List (BitVec 8)) (q : Option Addr) (c : Nat) (w : World) (hc : b.length ≤ c) (hq : q = none → c = 0) (hl : b.length ≤ 1000000) (hs : Sees w w.heap.size q (b.map u8v)) (hL : Laid w) :
    Calls Tryd.prog 12 #[.slice q b.length c] w fun e w' => (∃ v L, e = .returned v ∧ PcV w' v L ∧ Pcb w' L ∧ L.map keyP = cutP b) ∧ Below w.heap.size w w' := by
  have HPL := Lib.hid (fun w1 => plain_any w1)
  have HPA : Hid (∀ v, Below w.heap.size w v → Calls Tryd.prog 31 #[ruleV 16 128 8 31 7, .slice q b.length c] v fun e w' => ∃ u, e = .returned u ∧ Ps w' u (pieces b (endsL plR 0 b)) ∧ Below v.heap.size v w') := Lib.hid (fun v (hb : Below w.heap.size w v) => parts_good plR plR_ok b q c v hc hq hl ((hs.keep hb).more hb.size))
  have HLT : Hid ((pieces b (endsL plR 0 b)).length ≤ 1000000) := Lib.hid (by rw [pieces_length]; exact Nat.le_trans (endsL_count plR_ok b) hl)
  have HPC : Hid (∀ x ∈ pieces b (endsL plR 0 b), x.length ≤ 1000000) := Lib.hid (fun x hx => by
    unfold pieces at hx
    obtain ⟨i, hi, rfl⟩ := List.mem_map.1 hx
    have hi' : i < (endsL plR 0 b).length := by simpa using hi
    obtain ⟨k1, k2, _⟩ := endsL_lt plR_ok b i hi'
    rw [piece_length _ _ _ (by rw [getD_at _ i hi']; exact k2), getD_at _ i hi']
    omega)
  have HCP : Hid (cutP b = (pieces b (endsL plR 0 b)).map fun x => (shaU x, x)) := Lib.hid rfl
  have HL := Lib.hid hL
  have HSZ := Lib.hid hL.size
  generalize pieces b (endsL plR 0 b) = X at *
  clear hs hL
  unfold ruleV ruleL at HPL HPA
  go_enter Tryd.func12, Tryd.ntmps12
  go_upto_region 2 with (first | ((with_reducible refine (HPL.out _).mono ?_); rintro e w3 ⟨rfl, hB⟩; have HB3 := Lib.hid hB; clear hB) | ((with_reducible refine (HPA.out _ HB3.out).mono ?_); rintro e w4 ⟨v4, rfl, ⟨q5, c5, vs, rfl, hse, hvl, hvs⟩, hB⟩; have HB4 := Lib.hid (HB3.out.trans (hB.mono HB3.out.size)); have HSE := Lib.hid hse; have HVL := Lib.hid hvl; have HVS := Lib.hid hvs; clear hB hse hvl hvs))
  clear HPL HPA HB3
  have hmk := made_runP X.length HLT.out w4
  have HA := Lib.hid ((Below.refl w4.heap.size w4).alloc (Nat.le_refl _) (.cells (madeCells zPc (X.length * 33)) 28))
  have HROW : Hid (OwnP (w4.alloc (.cells (madeCells zPc (X.length * 33)) 28)) w4.heap.size 28 (.slice (some ⟨w4.heap.size, 0, none⟩) 0 X.length) []) := Lib.hid (World.ownsRow_made w4 _ X.length (Nat.le_refl _) (by have := HLT.out; unfold maxLen; omega) (size_madeCells _ _))
  go_upto_region 4 with fail
  clear hmk
  generalize w4.alloc (.cells (madeCells zPc (X.length * 33)) 28) = w6 at *
  go_loopw [4, 15] (fun v vi wr => ∃ (j : Nat) (L : List Pc), j ≤ X.length ∧ L.length = j ∧ vi = .int .i64 j ∧ OwnP wr w4.heap.size 28 v L ∧ Pcb w4 L ∧ L.map keyP = (cutP b).take j ∧ Below w4.heap.size w4 wr) (fun _ vi _ => X.length - (intOf vi).toNat)
  case atStart => exact ⟨0, [], by omega, rfl, rfl, HROW.out, fun p hp => by (cases hp), rfl, HA.out⟩
  case round =>
    clear HROW HA
    rename_i wr
    obtain ⟨j, L, hj, hLl, rfl, hrow, hpb, hkey, hB⟩ := hrel
    have HROW := Lib.hid hrow
    have HB := Lib.hid hB
    have HPB := Lib.hid hpb
    have HKEY := Lib.hid hkey
    clear hrow hB hpb hkey
    have HLn := Lib.hid hLl
    clear hLl
    by_cases hlt : j < X.length
    · have hvj : j < vs.length := by rw [HVL.out]; exact hlt
      obtain ⟨x, hx⟩ : ∃ x, x = X[j] := ⟨_, rfl⟩
      have hbs4 := HVS.out j vs[j] X[j] (List.getElem?_eq_getElem hvj) (List.getElem?_eq_getElem hlt)
      rw [← hx] at hbs4
      have hxl := HPC.out X[j] (List.getElem_mem hlt)
      rw [← hx] at hxl
      obtain ⟨ad, rfl, hab, hcell⟩ := (HSE.out.keep HB.out).get (by rw [HVL.out]; omega)
      have cx := hcell j vs[j] (List.getElem?_eq_getElem hvj)
      obtain ⟨u, hu⟩ : ∃ u, u = vs[j] := ⟨_, rfl⟩
      rw [← hu] at cx hbs4
      have hbs := hbs4.keep HB.out
      have HOF := Lib.hid (of_one hbs hxl (HL.out.keep (HB4.out.trans (HB.out.mono HB4.out.size)) HSZ.out))
      have HBS4 := Lib.hid hbs4
      obtain ⟨qx, cx', rfl, _, _, _⟩ := hbs4
      have HBD := Lib.hid (built_pc (shaU x) qx x.length cx' x)
      have HXJ : Hid ((cutP b).take (j + 1) = (cutP b).take j ++ [(shaU x, x)]) := Lib.hid (by
        rw [HCP.out, ← List.map_take, ← List.map_take, List.take_add_one, List.getElem?_eq_getElem hlt, ← hx]
        simp)
      have HX1 := Lib.hid hxl
      clear hbs hcell hx hu hxl hab
      have hjj : (j : Int) < (X.length : Int) := by omega
      have HLEN : Hid (L.length + 1 ≤ 2000000) := Lib.hid (by have := HLn.out; have := HLT.out; omega)
      have HONE : Hid (∀ v ∈ rowP [(shaU x, Value.slice qx x.length cx', x)], v.oneCell' = true) := Lib.hid (by
        refine rowP_ones (w := w4) (fun p hp => ?_)
        rw [List.mem_singleton.1 hp]; exact HBS4.out)
      have hll : j < 1000000 := by have := HLT.out; omega
      go_upto_region 6 with fail
      refine wp_region_lit ?_
      try simp only [Act.put, List.setIfInBounds_toArray, List.set_cons_zero, List.set_cons_succ]
      refine lp_pure (v := ?_) (by kernel_rfl) ?_ ?_
      rotate_left
      · go_simp; try with_reducible rfl
      try simp only [Act.put, List.setIfInBounds_toArray, List.set_cons_zero, List.set_cons_succ]
      refine lp_pure (v := ?_) (by kernel_rfl) ?_ ?_
      rotate_left
      · go_simp; try with_reducible rfl
      try simp only [Act.put, List.setIfInBounds_toArray, List.set_cons_zero, List.set_cons_succ]
      refine lp_step (by kernel_rfl) (fun K hK => wp_one_bs (.tmp 20) rfl qx x.length cx' rfl (hK _ _ ?_))
      try simp only [Act.put, List.setIfInBounds_toArray, List.set_cons_zero, List.set_cons_succ]
      refine lp_step (by kernel_rfl) (fun K hK => ?_)
      go_wp2_with fail
      refine Calls.mono HOF.out ?_
      rintro e w7 ⟨rfl, _, hB7⟩
      have HB7 := Lib.hid hB7
      clear hB7
      refine hK _ _ ?_
      clear hK
      try simp only [Act.put, List.setIfInBounds_toArray, List.set_cons_zero, List.set_cons_succ]
      refine lp_pure (v := ?_) (by kernel_rfl) ?_ ?_
      rotate_left
      · go_simp; try with_reducible rfl
      try simp only [Act.put, List.setIfInBounds_toArray, List.set_cons_zero, List.set_cons_succ]
      refine lp_pure (by kernel_rfl) (build_cells 28 _ rfl (encP (shaU x, .slice qx x.length cx', x)).toArray [(0, .agg (encU (shaU x)).toArray), (1, .slice qx x.length cx')] (by kernel_rfl) HBD.out) ?_
      try simp only [Act.put, List.setIfInBounds_toArray, List.set_cons_zero, List.set_cons_succ]
      refine wpList_one_pc rfl 33 28 elPc (.tmp 24) rfl (shaU x, .slice qx x.length cx', x) rfl ?_
      try simp only [Act.put, List.setIfInBounds_toArray, List.set_cons_zero, List.set_cons_succ]
      refine wpList_append_pc rfl 33 28 elPc (.tmp 19) (.tmp 25) rfl w4.heap.size _ L rfl ((HROW.out.keep HB7.out).keep ((Below.refl _ _).alloc (Nat.le_refl _) _)) (some ⟨w7.heap.size, 0, none⟩) [(shaU x, .slice qx x.length cx', x)] 1 1 (w7.heap.size + 1) rfl rfl (fun h => by cases h) (Has.pc (Has.made' _ _ _ _ rfl) (by omega)) HONE.out HLEN.out (by have := HB.out.size; have := HB7.out.size; simp; omega) ?_
      intro v8 w8 h1 h2
      have HROW2 := Lib.hid h1
      have HB8 := Lib.hid h2
      clear h1 h2
      try simp only [Act.put, List.setIfInBounds_toArray, List.set_cons_zero, List.set_cons_succ]
      refine lp_pure (v := ?_) (by kernel_rfl) ?_ ?_
      rotate_left
      · go_simp; try with_reducible rfl
      try simp only [Act.put, List.setIfInBounds_toArray, List.set_cons_zero, List.set_cons_succ]
      refine wpList_nil ?_
      go_wp2_with fail
      go_roundw
      case rel =>
        refine ⟨j + 1, L ++ [(shaU x, .slice qx x.length cx', x)], by omega, by rw [List.length_append, HLn.out]; rfl, by go_num, HROW2.out, fun p hp => ?_, ?_, ?_⟩
        · rcases List.mem_append.1 hp with h | h
          · exact HPB.out p h
          · rw [List.mem_singleton.1 h]; exact HBS4.out
        · rw [List.map_append, HKEY.out, HXJ.out]; rfl
        · exact (HB.out.trans (HB7.out.mono HB.out.size)).trans (((Below.refl _ _).alloc (Nat.le_trans HB.out.size HB7.out.size) _).trans HB8.out)
      case measure => simp [intOf]; omega
    · have hjl : j = X.length := by omega
      subst hjl
      have k3 : ¬ ((X.length : Int) < (X.length : Int)) := by omega
      have HPV := Lib.hid HROW.out.pc
      clear hlt
      go_wp2_with fail
      go_ret
      refine ⟨⟨_, rfl, L, HPV.out, HPB.out.keep HB.out, ?_⟩, HB4.out.trans (HB.out.mono HB4.out.size)⟩
      rw [HKEY.out, List.take_of_length_le (by rw [HCP.out, List.length_map]; exact Nat.le_refl _)]
end Go.Proofs.YthpledfjopbchaaDoor
