/- The examples of sets answer as told (SetKnown): the law returns true. No condition. -/
import Derived.Test.YtlidoikpfodpeaaDoorBt1
import Derived.Lib.AppendZerosOnto
import Derived.Test.YtlidoikpfodpeaaDoorBsum1
import Derived.Test.YtlidoikpfodpeaaDoorCards
import Derived.Test.YtlidoikpfodpeaaDoorTie
import Derived.ShutString
import Derived.ChangeOld
import Derived.SevenTiedAt
/- The law SetKnown: it returns true. Condition: the two listed variables as laid. -/
namespace Go.Proofs.YtlidoikpfodpeaaDoor
open Go.RowKit
theorem u_nil (w : World) : U w none 0 0 [] := ⟨rfl, Nat.le_refl _, fun _ => rfl, Sees.nil _ _ _⟩
theorem u8_infoK : (Tryd.prog.info? 5).map (fun i => (i.zero, i.size, i.bytes)) = some (some (.int .u8 0), 1, 1) := by kernel_rfl
/-- A one, and thirty-one noughts behind it. -/
theorem wp_zeros {o : Oper} {a : Act} {w : World} {K : Act → World → Prop} {Q : Exit → Act → World → Prop} (s x : Operand) (ho : o.op = .call { callee := .builtin .append, args := #[s, x], argTypes := #[35, 3] })
    (g : Nat) (hs : a.eval s = .slice (some ⟨g, 0, none⟩) 1 1) (hx : a.eval x = .int .i64 31) (hg : Has w g 5 [.int .u8 1])
    (h : ∀ q c w', Sees w' w'.heap.size q (z31.map u8v) → Below w.heap.size w w' → 32 ≤ c → K (a.put o.dst (.slice q 32 c)) w') : o.wp Tryd.prog a w K Q := by
  obtain ⟨i0, hi, hz0, hz1, hz2⟩ := info_parts u8_infoK
  have hold : (Builtin.firstCells i0.size 1 (.slice (some ⟨g, 0, none⟩) 1 1)).run Tryd.prog w.drew = .ok #[.int .u8 1] w.drew := by
    have h1 := run_loadCells_list (P := Tryd.prog) w.drew ⟨g, 0, none⟩ [.int .u8 1] (fun j u hu => by rw [add_lit', Nat.zero_add]; exact hg.cellv hu)
    rw [hz1]
    simpa [Builtin.firstCells] using h1
  have hn : Builtin.nextslicecap (1 + 31) 1 * i0.bytes ≤ 281474976710656 := by rw [hz2]; decide
  have hrun := Lib.run_append_grow_zeros (P := Tryd.prog) w 35 3 o.type 5 i0 (.int .u8 0) .i64 .i64 Tryd.underlying35 Tryd.underlying3 hi hz0 (some ⟨g, 0, none⟩) 1 1 [.int .u8 1] hold 31 (by decide) (by rw [hz1]; decide) (by decide) (by decide) (by rw [hz2]; decide) hn
  have hge := grownCap_ge w (1 + 31) 1 5
  unfold Oper.wp execOp
  simp only [ho, resolve, invoke, builtin, Sem.run_bind, Sem.run_pure, Result.andThen_ok, List.map_toArray, List.map_cons, List.map_nil, hs, hx]
  have hrun' : (Builtin.append_ #[35, 3] o.type #[.slice (some ⟨g, 0, none⟩) 1 1, .int .i64 31]).run Tryd.prog w = _ := hrun
  rw [hrun']
  refine h _ _ _ (fun _ => ⟨_, rfl, by simp, fun j u hu => ?_⟩) (((Below.refl w.heap.size w).drew).alloc (Nat.le_refl _) _) hge
  rw [add_lit', Nat.zero_add]
  have hnew := heap_alloc_new w.drew (.cells ([Value.int .u8 1].toArray ++ Builtin.zeroCells (Value.int .u8 0).cells 31 ++ Builtin.zeroCells (Value.int .u8 0).cells (grownCap w (1 + 31) 1 5 - (1 + 31))) 5)
  have hc := cell_of_row _ w.drew.heap.size j _ 5 (0, 0) hnew
  refine hc.trans ?_
  have hj := (List.getElem?_eq_some_iff.1 hu).1
  have e1 : ([Value.int .u8 1].toArray ++ Builtin.zeroCells (Value.int .u8 0).cells 31) = (z31.map u8v).toArray := by kernel_rfl
  rw [e1, Array.getElem?_append_left (by simpa using hj)]
  simpa using hu
theorem wp_lit8 {o : Oper} {a : Act} {w : World} {K : Act → World → Prop} {Q : Exit → Act → World → Prop} (ho : o.op = .buildSlice 35 1 #[(0, .const (.int .u8 1))])
    (h : K (a.put o.dst (.slice (some ⟨w.heap.size, 0, none⟩) 1 1)) (w.alloc (.cells #[.int .u8 1] 5))) : o.wp Tryd.prog a w K Q := by
  obtain ⟨i0, hi, hz0, hz1, hz2⟩ := info_parts u8_infoK
  refine wp_buildSlice 35 5 1 _ ho #[.int .u8 1] i0 _ Tryd.underlying35 hi hz0 (by rw [hz1]; omega) (by rw [hz1]; omega) ?_ h
  rw [hz1]
  kernel_rfl
theorem wp_lit35 {o : Oper} {a : Act} {w : World} {K : Act → World → Prop} {Q : Exit → Act → World → Prop} (x : Operand) (ho : o.op = .buildSlice 59 1 #[(0, x)]) (q : Option Addr) (c : Nat) (hx : a.eval x = .slice q 32 c)
    (h : K (a.put o.dst (.slice (some ⟨w.heap.size, 0, none⟩) 1 1)) (w.alloc (.cells #[.slice q 32 c] 35))) : o.wp Tryd.prog a w K Q := by
  obtain ⟨i0, hi, hz0, hz1, hz2⟩ := info_parts slT_info
  refine wp_buildSlice 59 35 1 _ ho #[.slice q 32 c] i0 _ Tryd.underlying59 hi hz0 (by rw [hz1]; omega) (by rw [hz1]; omega) ?_ h
  rw [hz1]
  simp only [List.map_toArray, List.map_cons, List.map_nil, hx]
  kernel_rfl
theorem hof0 (w : World) (hl : Laid w) : Calls Tryd.prog 14 #[.slice none 0 0] w fun e w' => e = .returned (.agg (encU (tellU [])).toArray) ∧ Below w.heap.size w w' :=
  of_any [] none 0 w (fun i hi => absurd hi (Nat.not_lt_zero _)) (by decide) (by decide) hl
theorem parts_one (w : World) (q : Option Addr) (c : Nat) (hs : Sees w w.heap.size q (z31.map u8v)) (hc : 32 ≤ c) : Parts (w.alloc (.cells #[.slice q 32 c] 35)) (w.alloc (.cells #[.slice q 32 c] 35)).heap.size (some ⟨w.heap.size, 0, none⟩) [z31] := fun i hi => by
  obtain rfl : i = 0 := by simpa using hi
  have hb : Below w.heap.size w (w.alloc (.cells #[.slice q 32 c] 35)) := (Below.refl _ _).alloc (Nat.le_refl _) _
  refine ⟨⟨w.heap.size, 0, none⟩, q, c, rfl, by simp, ?_, hc, (hs.keep hb).more hb.size⟩
  rw [add_lit', Nat.zero_add]
  exact (Has.made' w 35 #[.slice q 32 c] [.slice q 32 c] rfl).cellv rfl
theorem hof1 (w : World) (hl : Laid w) (q : Option Addr) (c : Nat) (hp : Parts w w.heap.size q [z31]) : Calls Tryd.prog 14 #[.slice q 1 c] w fun e w' => e = .returned (.agg (encU (tellU [s1])).toArray) ∧ Below w.heap.size w w' := by
  have h := of_any [z31] q c w hp (by decide) (by decide) hl
  have e : (encU (tellU [s1])).toArray = ((sha ([z31] : List (List (BitVec 8))).flatten).map u8v).toArray := by rw [tell_1]; rfl
  rw [e]
  exact h
set_option maxHeartbeats 32000000 in
set_option maxRecDepth 100000 in
theorem setKnown_any (w : World) (hl : Laid w) : Calls Tryd.prog 3 #[] w fun e w' => e = .returned (.bool true) ∧ Below w.heap.size w w' := by
  have HL := Lib.hid hl
  have HSZ := Lib.hid hl.size
  have HAW := Lib.hid (fun w1 => awake10_any w1)
  clear hl
  go_enter Tryd.func3, Tryd.ntmps3
  go_upto_region 3 with ((with_reducible refine (HAW.out _).mono ?_); rintro e w0 ⟨rfl, h2⟩; have HB := Lib.hid h2; clear h2)
  refine wp_region_lit ?_
  try simp only [Act.put, List.setIfInBounds_toArray, List.set_cons_zero, List.set_cons_succ]
  refine lp_pure (by kernel_rfl) (build_su 24 _ rfl s2 [(0, .int .u8 2)] (by kernel_rfl) b2) ?_
  try simp only [Act.put, List.setIfInBounds_toArray, List.set_cons_zero, List.set_cons_succ]
  refine lp_pure (by kernel_rfl) (build_su 24 _ rfl s1 [(0, .int .u8 1)] (by kernel_rfl) b1) ?_
  try simp only [Act.put, List.setIfInBounds_toArray, List.set_cons_zero, List.set_cons_succ]
  refine lp_step (by kernel_rfl) (fun K hK => wp_lit_su 26 24 elSet 2 _ rfl [s2, s1] rfl (by decide) (by decide) (by kernel_rfl) (hK _ _ ?_))
  try simp only [Act.put, List.setIfInBounds_toArray, List.set_cons_zero, List.set_cons_succ]
  have hb : Below w0.heap.size w0 (w0.alloc (.cells (rowU [s2, s1]).toArray 24)) := (Below.refl _ _).alloc (Nat.le_refl _) _
  have hu : U (w0.alloc (.cells (rowU [s2, s1]).toArray 24)) (some ⟨w0.heap.size, 0, none⟩) 2 2 [s2, s1] := ⟨rfl, Nat.le_refl _, fun h => (by cases h), Sees.of_has (Has.made' w0 _ _ _ rfl) (by simp)⟩
  have Ubad := Lib.hid hu
  clear hu
  generalize hg : w0.heap.size = gy1 at Ubad ⊢
  generalize w0.alloc (.cells (rowU [s2, s1]).toArray 24) = y1 at *
  have HGX := Lib.hid hg
  clear hg HGX
  replace HB := Lib.hid (HB.out.trans (hb.mono HB.out.size))
  clear hb
  refine lp_pure (v := ?_) (by kernel_rfl) ?_ ?_
  rotate_left
  · go_simp; try with_reducible rfl
  try simp only [Act.put, List.setIfInBounds_toArray, List.set_cons_zero, List.set_cons_succ]
  refine wpList_nil ?_
  go_wp2_with fail
  have HNIL := Lib.hid (OwnU.nil y1 y1.heap.size 24)
  have HLB : Hid (Below y1.heap.size y1 y1) := Lib.hid (Below.refl _ _)
  obtain ⟨wl, hwl⟩ : ∃ wl, wl = y1 := ⟨_, rfl⟩
  have HNIL2 : Hid (OwnU wl y1.heap.size 24 (.slice none 0 0) []) := Lib.hid (by rw [hwl]; exact HNIL.out)
  have HLB2 : Hid (Below y1.heap.size y1 wl) := Lib.hid (by rw [hwl]; exact HLB.out)
  rw [← hwl]
  clear hwl HNIL HLB
  go_loopw [2, 3] (fun v2 v3 wr => ∃ i : Nat, i ≤ 512 ∧ v3 = .int .i64 i ∧ OwnU wr y1.heap.size 24 v2 (k512 i) ∧ Below y1.heap.size y1 wr) (fun _ v3 _ => 512 - (intOf v3).toNat)
  case atStart => exact ⟨0, by omega, rfl, HNIL2.out, HLB2.out⟩
  case round =>
    clear HNIL2 HLB2
    rename_i wr
    obtain ⟨i, hi, rfl, hrow, hB⟩ := hrel
    have HROW := Lib.hid hrow
    have HBI := Lib.hid hB
    clear hrow hB
    by_cases hlt : i < 512
    · have k1 : (i : Int) < 512 := by omega
      have hks := k512_succ i
      have h3 : IntKind.u8.wrap ((i / 256 : Nat) : Int) = B (BitVec.ofNat 8 (i / 256)) := by rw [IntKind.wrap_u8', B_of]; omega
      have h4 : IntKind.u8.wrap (i : Int) = B (BitVec.ofNat 8 i) := by rw [IntKind.wrap_u8', B_of]; omega
      generalize BitVec.ofNat 8 (i / 256) = p1 at hks h3
      generalize BitVec.ofNat 8 i = p2 at hks h4
      obtain ⟨d, hd⟩ : ∃ d : Nat, d = i / 256 := ⟨_, rfl⟩
      rw [← hd] at h3
      have hdl : d < 256 := by omega
      have k2 : (i : Int).tdiv 256 = (d : Int) := by rw [Int.tdiv_eq_ediv_of_nonneg (by omega), hd]; rfl
      have k5 : IntKind.i64.wrap (d : Int) = (d : Int) := IntWalk.i64_in _ (by omega)
      have HKS := Lib.hid hks
      clear hks hd
      have HLEN : Hid ((k512 i).length + 1 ≤ 4000000) := Lib.hid (by rw [k512_len]; omega)
      have HBZ := Lib.hid HBI.out.size
      go_wp2_with (first
        | (refine wpList_one_su rfl 25 24 elSum (.tmp 21) rfl (su2 p1 p2) rfl ?_)
        | (refine wpList_append_su rfl 25 24 elSum (.tmp 15) (.tmp 22) rfl y1.heap.size _ (k512 i) rfl (World.ownsRow.alloc HROW.out _) (some ⟨wr.heap.size, 0, none⟩) [su2 p1 p2] 1 1 (wr.heap.size + 1) rfl rfl (fun h => by cases h) (Ss.one (Has.made' wr _ _ _ rfl) (Nat.lt_succ_self _)) HLEN.out (by have := HBZ.out; simp; omega) ?_; intro v3 w3 h1 h2; have HO := Lib.hid h1; have HB3 := Lib.hid h2; clear h1 h2))
      go_roundw
      case rel => exact ⟨i + 1, by omega, by go_num, by rw [HKS.out]; exact HO.out, (HBI.out.alloc HBZ.out _).trans HB3.out⟩
      case measure => simp [intOf]; omega
    · have hi5 : i = 512 := by omega
      subst hi5
      have k1 : ¬ ((512 : Nat) : Int) < 512 := by omega
      obtain ⟨qK, nK, cK, rfl, hK⟩ := U.of HROW.out.us
      have UK := Lib.hid hK
      have hb := HBI.out
      clear hK HROW HBI hlt
      replace Ubad := Lib.hid (Ubad.out.keep hb)
      replace HB := Lib.hid (HB.out.trans (hb.mono HB.out.size))
      clear hb
      have k9 : (512 : Int) < 512 → False := fun h => by omega
      go_upto_region 9 with fail
      refine wp_region_lit ?_
      try simp only [Act.put, List.setIfInBounds_toArray, List.set_cons_zero, List.set_cons_succ]
      refine lp_pure (v := ?_) (by kernel_rfl) ?_ ?_
      rotate_left
      · go_simp; try with_reducible rfl
      try simp only [Act.put, List.setIfInBounds_toArray, List.set_cons_zero, List.set_cons_succ]
      refine lp_step (by kernel_rfl) (fun K hK => ?_)
      go_wp2_with fail
      refine Calls.mono (u_of UK.out (by have e := UK.out.len; rw [k512_len] at e; omega)) ?_
      rintro e y2 ⟨⟨qUF, nUF, cUF, rfl, h1⟩, hb⟩
      replace Ubad := Lib.hid (Ubad.out.keep hb)
      replace UK := Lib.hid (UK.out.keep hb)
      replace HB := Lib.hid (HB.out.trans (hb.mono HB.out.size))
      clear hb
      have UF := Lib.hid (h1.eq K_srt)
      clear h1
      refine hK _ _ ?_
      clear hK
      try simp only [Act.put, List.setIfInBounds_toArray, List.set_cons_zero, List.set_cons_succ]
      clear UK
      refine lp_pure (v := ?_) (by kernel_rfl) ?_ ?_
      rotate_left
      · go_simp; try with_reducible rfl
      try simp only [Act.put, List.setIfInBounds_toArray, List.set_cons_zero, List.set_cons_succ]
      refine wpList_nil ?_
      go_upto_region 10 with fail
      refine wp_region_lit ?_
      try simp only [Act.put, List.setIfInBounds_toArray, List.set_cons_zero, List.set_cons_succ]
      obtain rfl : nUF = 512 := by have e := UF.out.len; rw [K_len] at e; exact e.symm
      refine lp_pure (v := ?_) (by kernel_rfl) ?_ ?_
      rotate_left
      · go_simp; try with_reducible rfl
      try simp only [Act.put, List.setIfInBounds_toArray, List.set_cons_zero, List.set_cons_succ]
      refine lp_pure (by kernel_rfl) (build_su 24 _ rfl (su1 9) [(0, .int .u8 9)] (by kernel_rfl) b9) ?_
      try simp only [Act.put, List.setIfInBounds_toArray, List.set_cons_zero, List.set_cons_succ]
      refine lp_step (by kernel_rfl) (fun K hK => ?_)
      go_wp2_with fail
      refine Calls.mono (u_add (su1 9) UF.out (by decide)) ?_
      rintro e y3 ⟨⟨qUM, nUM, cUM, rfl, h1⟩, hb⟩
      replace Ubad := Lib.hid (Ubad.out.keep hb)
      replace UF := Lib.hid (UF.out.keep hb)
      replace HB := Lib.hid (HB.out.trans (hb.mono HB.out.size))
      clear hb
      have UM := Lib.hid h1
      clear h1
      refine hK _ _ ?_
      clear hK
      try simp only [Act.put, List.setIfInBounds_toArray, List.set_cons_zero, List.set_cons_succ]
      refine lp_pure (v := ?_) (by kernel_rfl) ?_ ?_
      rotate_left
      · go_simp; try with_reducible rfl
      try simp only [Act.put, List.setIfInBounds_toArray, List.set_cons_zero, List.set_cons_succ]
      obtain rfl : nUM = 513 := by have e := UM.out.len; rw [show (eitU kAll [su1 9]).length = 513 from Kmore_len] at e; exact e.symm
      refine wpList_nil ?_
      go_upto_region 11 with fail
      refine wp_region_lit ?_
      try simp only [Act.put, List.setIfInBounds_toArray, List.set_cons_zero, List.set_cons_succ]
      refine lp_pure (v := ?_) (by kernel_rfl) ?_ ?_
      rotate_left
      · go_simp; try with_reducible rfl
      try simp only [Act.put, List.setIfInBounds_toArray, List.set_cons_zero, List.set_cons_succ]
      refine lp_step (by kernel_rfl) (fun K hK => ?_)
      go_wp2_with fail
      refine Calls.mono (u_good Ubad.out (by decide) false bad_good) ?_
      rintro e y4 ⟨rfl, hb⟩
      replace Ubad := Lib.hid (Ubad.out.keep hb)
      replace UF := Lib.hid (UF.out.keep hb)
      replace UM := Lib.hid (UM.out.keep hb)
      replace HB := Lib.hid (HB.out.trans (hb.mono HB.out.size))
      clear hb
      refine hK _ _ ?_
      clear hK
      try simp only [Act.put, List.setIfInBounds_toArray, List.set_cons_zero, List.set_cons_succ]
      refine lp_pure (v := ?_) (by kernel_rfl) ?_ ?_
      rotate_left
      · go_simp; try with_reducible rfl
      try simp only [Act.put, List.setIfInBounds_toArray, List.set_cons_zero, List.set_cons_succ]
      refine lp_pure (v := ?_) (by kernel_rfl) ?_ ?_
      rotate_left
      · go_simp; try with_reducible rfl
      try simp only [Act.put, List.setIfInBounds_toArray, List.set_cons_zero, List.set_cons_succ]
      refine lp_pure (v := ?_) (by kernel_rfl) ?_ ?_
      rotate_left
      · go_simp; try with_reducible rfl
      try simp only [Act.put, List.setIfInBounds_toArray, List.set_cons_zero, List.set_cons_succ]
      refine lp_pure (by kernel_rfl) (build_su 24 _ rfl s1 [(0, .int .u8 1)] (by kernel_rfl) b1) ?_
      try simp only [Act.put, List.setIfInBounds_toArray, List.set_cons_zero, List.set_cons_succ]
      refine lp_step (by kernel_rfl) (fun K hK => ?_)
      go_wp2_with fail
      refine Calls.mono (u_has Ubad.out (by decide) false has_b) ?_
      rintro e y5 ⟨rfl, hb⟩
      replace Ubad := Lib.hid (Ubad.out.keep hb)
      replace UF := Lib.hid (UF.out.keep hb)
      replace UM := Lib.hid (UM.out.keep hb)
      replace HB := Lib.hid (HB.out.trans (hb.mono HB.out.size))
      clear hb
      refine hK _ _ ?_
      clear hK
      try simp only [Act.put, List.setIfInBounds_toArray, List.set_cons_zero, List.set_cons_succ]
      refine lp_pure (v := ?_) (by kernel_rfl) ?_ ?_
      rotate_left
      · go_simp; try with_reducible rfl
      try simp only [Act.put, List.setIfInBounds_toArray, List.set_cons_zero, List.set_cons_succ]
      refine lp_pure (v := ?_) (by kernel_rfl) ?_ ?_
      rotate_left
      · go_simp; try with_reducible rfl
      try simp only [Act.put, List.setIfInBounds_toArray, List.set_cons_zero, List.set_cons_succ]
      refine lp_pure (v := ?_) (by kernel_rfl) ?_ ?_
      rotate_left
      · go_simp; try with_reducible rfl
      try simp only [Act.put, List.setIfInBounds_toArray, List.set_cons_zero, List.set_cons_succ]
      refine lp_pure (v := ?_) (by kernel_rfl) ?_ ?_
      rotate_left
      · go_simp; try with_reducible rfl
      try simp only [Act.put, List.setIfInBounds_toArray, List.set_cons_zero, List.set_cons_succ]
      refine lp_pure (v := ?_) (by kernel_rfl) ?_ ?_
      rotate_left
      · go_simp; try with_reducible rfl
      try simp only [Act.put, List.setIfInBounds_toArray, List.set_cons_zero, List.set_cons_succ]
      refine lp_step (by kernel_rfl) (fun K hK => ?_)
      go_wp2_with fail
      refine Calls.mono (u_same Ubad.out Ubad.out (by decide) false same_b) ?_
      rintro e y6 ⟨rfl, hb⟩
      replace Ubad := Lib.hid (Ubad.out.keep hb)
      replace UF := Lib.hid (UF.out.keep hb)
      replace UM := Lib.hid (UM.out.keep hb)
      replace HB := Lib.hid (HB.out.trans (hb.mono HB.out.size))
      clear hb
      refine hK _ _ ?_
      clear hK
      try simp only [Act.put, List.setIfInBounds_toArray, List.set_cons_zero, List.set_cons_succ]
      refine lp_pure (v := ?_) (by kernel_rfl) ?_ ?_
      rotate_left
      · go_simp; try with_reducible rfl
      try simp only [Act.put, List.setIfInBounds_toArray, List.set_cons_zero, List.set_cons_succ]
      refine lp_pure (v := ?_) (by kernel_rfl) ?_ ?_
      rotate_left
      · go_simp; try with_reducible rfl
      try simp only [Act.put, List.setIfInBounds_toArray, List.set_cons_zero, List.set_cons_succ]
      refine lp_pure (v := ?_) (by kernel_rfl) ?_ ?_
      rotate_left
      · go_simp; try with_reducible rfl
      try simp only [Act.put, List.setIfInBounds_toArray, List.set_cons_zero, List.set_cons_succ]
      refine lp_pure (v := ?_) (by kernel_rfl) ?_ ?_
      rotate_left
      · go_simp; try with_reducible rfl
      try simp only [Act.put, List.setIfInBounds_toArray, List.set_cons_zero, List.set_cons_succ]
      refine lp_step (by kernel_rfl) (fun K hK => ?_)
      go_wp2_with fail
      refine Calls.mono (u_minus Ubad.out (u_nil _) (by decide) (by decide)) ?_
      rintro e y7 ⟨⟨qU4, nU4, cU4, rfl, h1⟩, hb⟩
      replace Ubad := Lib.hid (Ubad.out.keep hb)
      replace UF := Lib.hid (UF.out.keep hb)
      replace UM := Lib.hid (UM.out.keep hb)
      replace HB := Lib.hid (HB.out.trans (hb.mono HB.out.size))
      clear hb
      have U4 := Lib.hid (h1.eq bad_min)
      clear h1
      refine hK _ _ ?_
      clear hK
      try simp only [Act.put, List.setIfInBounds_toArray, List.set_cons_zero, List.set_cons_succ]
      obtain rfl : nU4 = 2 := by have e := U4.out.len; rw [show ([s1, s2] : List Su).length = 2 from rfl] at e; exact e.symm
      refine lp_pure (by kernel_rfl) (build_su 24 _ rfl s1 [(0, .int .u8 1)] (by kernel_rfl) b1) ?_
      try simp only [Act.put, List.setIfInBounds_toArray, List.set_cons_zero, List.set_cons_succ]
      refine lp_pure (by kernel_rfl) (build_su 24 _ rfl s2 [(0, .int .u8 2)] (by kernel_rfl) b2) ?_
      try simp only [Act.put, List.setIfInBounds_toArray, List.set_cons_zero, List.set_cons_succ]
      refine lp_step (by kernel_rfl) (fun K hK => wp_lit_su 25 24 elSum 2 _ rfl [s1, s2] rfl (by decide) (by decide) (by kernel_rfl) (hK _ _ ?_))
      try simp only [Act.put, List.setIfInBounds_toArray, List.set_cons_zero, List.set_cons_succ]
      have hb : Below y7.heap.size y7 (y7.alloc (.cells (rowU [s1, s2]).toArray 24)) := (Below.refl _ _).alloc (Nat.le_refl _) _
      have hu : U (y7.alloc (.cells (rowU [s1, s2]).toArray 24)) (some ⟨y7.heap.size, 0, none⟩) 2 2 [s1, s2] := ⟨rfl, Nat.le_refl _, fun h => (by cases h), Sees.of_has (Has.made' y7 _ _ _ rfl) (by simp)⟩
      have UL := Lib.hid hu
      clear hu
      generalize hg : y7.heap.size = gy8 at UL ⊢
      generalize y7.alloc (.cells (rowU [s1, s2]).toArray 24) = y8 at *
      have HGX := Lib.hid hg
      clear hg HGX
      replace Ubad := Lib.hid (Ubad.out.keep hb)
      replace UF := Lib.hid (UF.out.keep hb)
      replace UM := Lib.hid (UM.out.keep hb)
      replace U4 := Lib.hid (U4.out.keep hb)
      replace HB := Lib.hid (HB.out.trans (hb.mono HB.out.size))
      clear hb
      refine lp_step (by kernel_rfl) (fun K hK => ?_)
      go_wp2_with fail
      refine Calls.mono (u_of UL.out (by decide)) ?_
      rintro e y9 ⟨⟨qU5, nU5, cU5, rfl, h1⟩, hb⟩
      replace Ubad := Lib.hid (Ubad.out.keep hb)
      replace UF := Lib.hid (UF.out.keep hb)
      replace UM := Lib.hid (UM.out.keep hb)
      replace U4 := Lib.hid (U4.out.keep hb)
      replace UL := Lib.hid (UL.out.keep hb)
      replace HB := Lib.hid (HB.out.trans (hb.mono HB.out.size))
      clear hb
      have U5 := Lib.hid (h1.eq ok_srt)
      clear h1
      refine hK _ _ ?_
      clear hK
      try simp only [Act.put, List.setIfInBounds_toArray, List.set_cons_zero, List.set_cons_succ]
      refine lp_step (by kernel_rfl) (fun K hK => ?_)
      go_wp2_with fail
      refine Calls.mono (u_same U4.out U5.out (by decide) true same_12) ?_
      rintro e y10 ⟨rfl, hb⟩
      replace Ubad := Lib.hid (Ubad.out.keep hb)
      replace UF := Lib.hid (UF.out.keep hb)
      replace UM := Lib.hid (UM.out.keep hb)
      replace U4 := Lib.hid (U4.out.keep hb)
      replace UL := Lib.hid (UL.out.keep hb)
      replace U5 := Lib.hid (U5.out.keep hb)
      replace HB := Lib.hid (HB.out.trans (hb.mono HB.out.size))
      clear hb
      refine hK _ _ ?_
      clear hK
      try simp only [Act.put, List.setIfInBounds_toArray, List.set_cons_zero, List.set_cons_succ]
      refine lp_pure (v := ?_) (by kernel_rfl) ?_ ?_
      rotate_left
      · go_simp; try with_reducible rfl
      try simp only [Act.put, List.setIfInBounds_toArray, List.set_cons_zero, List.set_cons_succ]
      clear U4
      clear U5
      clear UL
      clear Ubad
      refine lp_pure (v := ?_) (by kernel_rfl) ?_ ?_
      rotate_left
      · go_simp; try with_reducible rfl
      try simp only [Act.put, List.setIfInBounds_toArray, List.set_cons_zero, List.set_cons_succ]
      refine lp_pure (v := ?_) (by kernel_rfl) ?_ ?_
      rotate_left
      · go_simp; try with_reducible rfl
      try simp only [Act.put, List.setIfInBounds_toArray, List.set_cons_zero, List.set_cons_succ]
      refine lp_step (by kernel_rfl) (fun K hK => ?_)
      go_wp2_with fail
      refine Calls.mono (u_good UF.out (by decide) true K_good) ?_
      rintro e y11 ⟨rfl, hb⟩
      replace UF := Lib.hid (UF.out.keep hb)
      replace UM := Lib.hid (UM.out.keep hb)
      replace HB := Lib.hid (HB.out.trans (hb.mono HB.out.size))
      clear hb
      refine hK _ _ ?_
      clear hK
      try simp only [Act.put, List.setIfInBounds_toArray, List.set_cons_zero, List.set_cons_succ]
      refine lp_pure (v := ?_) (by kernel_rfl) ?_ ?_
      rotate_left
      · go_simp; try with_reducible rfl
      try simp only [Act.put, List.setIfInBounds_toArray, List.set_cons_zero, List.set_cons_succ]
      refine lp_pure (v := ?_) (by kernel_rfl) ?_ ?_
      rotate_left
      · go_simp; try with_reducible rfl
      try simp only [Act.put, List.setIfInBounds_toArray, List.set_cons_zero, List.set_cons_succ]
      refine lp_pure (v := ?_) (by kernel_rfl) ?_ ?_
      rotate_left
      · go_simp; try with_reducible rfl
      try simp only [Act.put, List.setIfInBounds_toArray, List.set_cons_zero, List.set_cons_succ]
      refine lp_pure (v := ?_) (by kernel_rfl) ?_ ?_
      rotate_left
      · go_simp; try with_reducible rfl
      try simp only [Act.put, List.setIfInBounds_toArray, List.set_cons_zero, List.set_cons_succ]
      refine lp_pure (v := ?_) (by kernel_rfl) ?_ ?_
      rotate_left
      · go_simp; try with_reducible rfl
      try simp only [Act.put, List.setIfInBounds_toArray, List.set_cons_zero, List.set_cons_succ]
      refine lp_pure (v := ?_) (by kernel_rfl) ?_ ?_
      rotate_left
      · go_simp; try with_reducible rfl
      try simp only [Act.put, List.setIfInBounds_toArray, List.set_cons_zero, List.set_cons_succ]
      refine lp_pure (v := ?_) (by kernel_rfl) ?_ ?_
      rotate_left
      · go_simp; try with_reducible rfl
      try simp only [Act.put, List.setIfInBounds_toArray, List.set_cons_zero, List.set_cons_succ]
      refine lp_pure (v := ?_) (by kernel_rfl) ?_ ?_
      rotate_left
      · go_simp; try with_reducible rfl
      try simp only [Act.put, List.setIfInBounds_toArray, List.set_cons_zero, List.set_cons_succ]
      refine lp_step (by kernel_rfl) (fun K hK => ?_)
      go_wp2_with fail
      refine Calls.mono (u_good UM.out (by decide) false Kmore_bad) ?_
      rintro e y12 ⟨rfl, hb⟩
      replace UF := Lib.hid (UF.out.keep hb)
      replace UM := Lib.hid (UM.out.keep hb)
      replace HB := Lib.hid (HB.out.trans (hb.mono HB.out.size))
      clear hb
      refine hK _ _ ?_
      clear hK
      try simp only [Act.put, List.setIfInBounds_toArray, List.set_cons_zero, List.set_cons_succ]
      refine lp_pure (v := ?_) (by kernel_rfl) ?_ ?_
      rotate_left
      · go_simp; try with_reducible rfl
      try simp only [Act.put, List.setIfInBounds_toArray, List.set_cons_zero, List.set_cons_succ]
      refine lp_pure (v := ?_) (by kernel_rfl) ?_ ?_
      rotate_left
      · go_simp; try with_reducible rfl
      try simp only [Act.put, List.setIfInBounds_toArray, List.set_cons_zero, List.set_cons_succ]
      refine lp_pure (v := ?_) (by kernel_rfl) ?_ ?_
      rotate_left
      · go_simp; try with_reducible rfl
      try simp only [Act.put, List.setIfInBounds_toArray, List.set_cons_zero, List.set_cons_succ]
      refine lp_pure (v := ?_) (by kernel_rfl) ?_ ?_
      rotate_left
      · go_simp; try with_reducible rfl
      try simp only [Act.put, List.setIfInBounds_toArray, List.set_cons_zero, List.set_cons_succ]
      refine lp_pure (by kernel_rfl) (build_su 24 _ rfl (su2 1 3) [(0, .int .u8 1), (1, .int .u8 3)] (by kernel_rfl) b13) ?_
      try simp only [Act.put, List.setIfInBounds_toArray, List.set_cons_zero, List.set_cons_succ]
      refine lp_step (by kernel_rfl) (fun K hK => ?_)
      go_wp2_with fail
      refine Calls.mono (u_add (su2 1 3) UF.out (by decide)) ?_
      rintro e y13 ⟨⟨qU6, nU6, cU6, rfl, h1⟩, hb⟩
      replace UF := Lib.hid (UF.out.keep hb)
      replace UM := Lib.hid (UM.out.keep hb)
      replace HB := Lib.hid (HB.out.trans (hb.mono HB.out.size))
      clear hb
      have U6 := Lib.hid (h1.eq K_add)
      clear h1
      refine hK _ _ ?_
      clear hK
      try simp only [Act.put, List.setIfInBounds_toArray, List.set_cons_zero, List.set_cons_succ]
      obtain rfl : nU6 = 512 := by have e := U6.out.len; rw [K_len] at e; exact e.symm
      refine lp_pure (v := ?_) (by kernel_rfl) ?_ ?_
      rotate_left
      · go_simp; try with_reducible rfl
      try simp only [Act.put, List.setIfInBounds_toArray, List.set_cons_zero, List.set_cons_succ]
      refine lp_step (by kernel_rfl) (fun K hK => ?_)
      go_wp2_with fail
      refine Calls.mono (u_same U6.out UF.out (by decide) true same_K) ?_
      rintro e y14 ⟨rfl, hb⟩
      replace UF := Lib.hid (UF.out.keep hb)
      replace UM := Lib.hid (UM.out.keep hb)
      replace U6 := Lib.hid (U6.out.keep hb)
      replace HB := Lib.hid (HB.out.trans (hb.mono HB.out.size))
      clear hb
      refine hK _ _ ?_
      clear hK
      try simp only [Act.put, List.setIfInBounds_toArray, List.set_cons_zero, List.set_cons_succ]
      refine lp_pure (v := ?_) (by kernel_rfl) ?_ ?_
      rotate_left
      · go_simp; try with_reducible rfl
      try simp only [Act.put, List.setIfInBounds_toArray, List.set_cons_zero, List.set_cons_succ]
      clear U6
      refine lp_pure (v := ?_) (by kernel_rfl) ?_ ?_
      rotate_left
      · go_simp; try with_reducible rfl
      try simp only [Act.put, List.setIfInBounds_toArray, List.set_cons_zero, List.set_cons_succ]
      refine lp_pure (v := ?_) (by kernel_rfl) ?_ ?_
      rotate_left
      · go_simp; try with_reducible rfl
      try simp only [Act.put, List.setIfInBounds_toArray, List.set_cons_zero, List.set_cons_succ]
      refine lp_pure (by kernel_rfl) (build_su 24 _ rfl (su2 1 255) [(0, .int .u8 1), (1, .int .u8 255)] (by kernel_rfl) b1255) ?_
      try simp only [Act.put, List.setIfInBounds_toArray, List.set_cons_zero, List.set_cons_succ]
      refine lp_step (by kernel_rfl) (fun K hK => ?_)
      go_wp2_with fail
      refine Calls.mono (u_has UF.out (by decide) true has_t) ?_
      rintro e y15 ⟨rfl, hb⟩
      replace UF := Lib.hid (UF.out.keep hb)
      replace UM := Lib.hid (UM.out.keep hb)
      replace HB := Lib.hid (HB.out.trans (hb.mono HB.out.size))
      clear hb
      refine hK _ _ ?_
      clear hK
      try simp only [Act.put, List.setIfInBounds_toArray, List.set_cons_zero, List.set_cons_succ]
      refine lp_pure (v := ?_) (by kernel_rfl) ?_ ?_
      rotate_left
      · go_simp; try with_reducible rfl
      try simp only [Act.put, List.setIfInBounds_toArray, List.set_cons_zero, List.set_cons_succ]
      refine lp_pure (v := ?_) (by kernel_rfl) ?_ ?_
      rotate_left
      · go_simp; try with_reducible rfl
      try simp only [Act.put, List.setIfInBounds_toArray, List.set_cons_zero, List.set_cons_succ]
      refine lp_pure (v := ?_) (by kernel_rfl) ?_ ?_
      rotate_left
      · go_simp; try with_reducible rfl
      try simp only [Act.put, List.setIfInBounds_toArray, List.set_cons_zero, List.set_cons_succ]
      refine lp_pure (by kernel_rfl) (build_su 24 _ rfl (su1 9) [(0, .int .u8 9)] (by kernel_rfl) b9) ?_
      try simp only [Act.put, List.setIfInBounds_toArray, List.set_cons_zero, List.set_cons_succ]
      refine lp_step (by kernel_rfl) (fun K hK => ?_)
      go_wp2_with fail
      refine Calls.mono (u_has UF.out (by decide) false has_f) ?_
      rintro e y16 ⟨rfl, hb⟩
      replace UF := Lib.hid (UF.out.keep hb)
      replace UM := Lib.hid (UM.out.keep hb)
      replace HB := Lib.hid (HB.out.trans (hb.mono HB.out.size))
      clear hb
      refine hK _ _ ?_
      clear hK
      try simp only [Act.put, List.setIfInBounds_toArray, List.set_cons_zero, List.set_cons_succ]
      refine lp_pure (v := ?_) (by kernel_rfl) ?_ ?_
      rotate_left
      · go_simp; try with_reducible rfl
      try simp only [Act.put, List.setIfInBounds_toArray, List.set_cons_zero, List.set_cons_succ]
      refine lp_pure (v := ?_) (by kernel_rfl) ?_ ?_
      rotate_left
      · go_simp; try with_reducible rfl
      try simp only [Act.put, List.setIfInBounds_toArray, List.set_cons_zero, List.set_cons_succ]
      refine lp_pure (v := ?_) (by kernel_rfl) ?_ ?_
      rotate_left
      · go_simp; try with_reducible rfl
      try simp only [Act.put, List.setIfInBounds_toArray, List.set_cons_zero, List.set_cons_succ]
      refine lp_step (by kernel_rfl) (fun K hK => ?_)
      go_wp2_with fail
      refine Calls.mono (u_good (u_nil _) (by decide) true nil_good) ?_
      rintro e y17 ⟨rfl, hb⟩
      replace UF := Lib.hid (UF.out.keep hb)
      replace UM := Lib.hid (UM.out.keep hb)
      replace HB := Lib.hid (HB.out.trans (hb.mono HB.out.size))
      clear hb
      refine hK _ _ ?_
      clear hK
      try simp only [Act.put, List.setIfInBounds_toArray, List.set_cons_zero, List.set_cons_succ]
      refine lp_pure (v := ?_) (by kernel_rfl) ?_ ?_
      rotate_left
      · go_simp; try with_reducible rfl
      try simp only [Act.put, List.setIfInBounds_toArray, List.set_cons_zero, List.set_cons_succ]
      refine lp_pure (v := ?_) (by kernel_rfl) ?_ ?_
      rotate_left
      · go_simp; try with_reducible rfl
      try simp only [Act.put, List.setIfInBounds_toArray, List.set_cons_zero, List.set_cons_succ]
      refine lp_step (by kernel_rfl) (fun K hK => ?_)
      go_wp2_with fail
      refine Calls.mono (u_tell (HL.out.keep HB.out HSZ.out) (u_nil _) (by decide)) ?_
      rintro e y18 ⟨rfl, hb⟩
      replace UF := Lib.hid (UF.out.keep hb)
      replace UM := Lib.hid (UM.out.keep hb)
      replace HB := Lib.hid (HB.out.trans (hb.mono HB.out.size))
      clear hb
      refine hK _ _ ?_
      clear hK
      try simp only [Act.put, List.setIfInBounds_toArray, List.set_cons_zero, List.set_cons_succ]
      refine lp_step (by kernel_rfl) (fun K hK => ?_)
      go_wp2_with fail
      refine Calls.mono (hof0 y18 (HL.out.keep HB.out HSZ.out)) ?_
      rintro e y19 ⟨rfl, hb⟩
      replace UF := Lib.hid (UF.out.keep hb)
      replace UM := Lib.hid (UM.out.keep hb)
      replace HB := Lib.hid (HB.out.trans (hb.mono HB.out.size))
      clear hb
      refine hK _ _ ?_
      clear hK
      try simp only [Act.put, List.setIfInBounds_toArray, List.set_cons_zero, List.set_cons_succ]
      refine lp_pure (v := .bool true) (by kernel_rfl) ((eql_su 24 (.tmp 89) (.tmp 90) _ rfl (tellU []) (tellU []) rfl rfl elSum.2.1 gdSum).trans (by rw [decide_eq_true rfl])) ?_
      try simp only [Act.put, List.setIfInBounds_toArray, List.set_cons_zero, List.set_cons_succ]
      refine lp_pure (v := ?_) (by kernel_rfl) ?_ ?_
      rotate_left
      · go_simp; try with_reducible rfl
      try simp only [Act.put, List.setIfInBounds_toArray, List.set_cons_zero, List.set_cons_succ]
      refine lp_pure (v := ?_) (by kernel_rfl) ?_ ?_
      rotate_left
      · go_simp; try with_reducible rfl
      try simp only [Act.put, List.setIfInBounds_toArray, List.set_cons_zero, List.set_cons_succ]
      refine lp_pure (by kernel_rfl) (build_su 24 _ rfl s1 [(0, .int .u8 1)] (by kernel_rfl) b1) ?_
      try simp only [Act.put, List.setIfInBounds_toArray, List.set_cons_zero, List.set_cons_succ]
      refine lp_step (by kernel_rfl) (fun K hK => wp_one_su 25 24 elSum _ rfl s1 rfl (hK _ _ ?_))
      try simp only [Act.put, List.setIfInBounds_toArray, List.set_cons_zero, List.set_cons_succ]
      have hb : Below y19.heap.size y19 (y19.alloc (.cells (encU s1).toArray 24)) := (Below.refl _ _).alloc (Nat.le_refl _) _
      have hu : U (y19.alloc (.cells (encU s1).toArray 24)) (some ⟨y19.heap.size, 0, none⟩) 1 1 [s1] := ⟨rfl, Nat.le_refl _, fun h => (by cases h), Ss.one (Has.made' y19 _ _ _ rfl) (by simp)⟩
      have U7 := Lib.hid hu
      clear hu
      generalize hg : y19.heap.size = gy20 at U7 ⊢
      generalize y19.alloc (.cells (encU s1).toArray 24) = y20 at *
      have HGX := Lib.hid hg
      clear hg HGX
      replace UF := Lib.hid (UF.out.keep hb)
      replace UM := Lib.hid (UM.out.keep hb)
      replace HB := Lib.hid (HB.out.trans (hb.mono HB.out.size))
      clear hb
      refine lp_step (by kernel_rfl) (fun K hK => ?_)
      go_wp2_with fail
      refine Calls.mono (u_of U7.out (by decide)) ?_
      rintro e y21 ⟨⟨qU8, nU8, cU8, rfl, h1⟩, hb⟩
      replace UF := Lib.hid (UF.out.keep hb)
      replace UM := Lib.hid (UM.out.keep hb)
      replace U7 := Lib.hid (U7.out.keep hb)
      replace HB := Lib.hid (HB.out.trans (hb.mono HB.out.size))
      clear hb
      have U8 := Lib.hid (h1.eq (show srt [s1] = [s1] from rfl))
      clear h1
      refine hK _ _ ?_
      clear hK
      try simp only [Act.put, List.setIfInBounds_toArray, List.set_cons_zero, List.set_cons_succ]
      obtain rfl : nU8 = 1 := by have e := U8.out.len; rw [show ([s1] : List Su).length = 1 from rfl] at e; exact e.symm
      refine lp_step (by kernel_rfl) (fun K hK => ?_)
      go_wp2_with fail
      refine Calls.mono (u_tell (HL.out.keep HB.out HSZ.out) U8.out (by decide)) ?_
      rintro e y22 ⟨rfl, hb⟩
      replace UF := Lib.hid (UF.out.keep hb)
      replace UM := Lib.hid (UM.out.keep hb)
      replace U7 := Lib.hid (U7.out.keep hb)
      replace U8 := Lib.hid (U8.out.keep hb)
      replace HB := Lib.hid (HB.out.trans (hb.mono HB.out.size))
      clear hb
      refine hK _ _ ?_
      clear hK
      try simp only [Act.put, List.setIfInBounds_toArray, List.set_cons_zero, List.set_cons_succ]
      clear U7
      clear U8
      refine lp_step (by kernel_rfl) (fun K hK => wp_lit8 rfl (hK _ _ ?_))
      try simp only [Act.put, List.setIfInBounds_toArray, List.set_cons_zero, List.set_cons_succ]
      have hb : Below y22.heap.size y22 (y22.alloc (.cells #[.int .u8 1] 5)) := (Below.refl _ _).alloc (Nat.le_refl _) _
      have HX1 : Hid (Has (y22.alloc (.cells #[.int .u8 1] 5)) y22.heap.size 5 [.int .u8 1]) := Lib.hid (Has.made' _ _ _ _ rfl)
      generalize hg : y22.heap.size = g1 at HX1 ⊢
      generalize y22.alloc (.cells #[.int .u8 1] 5) = y23 at *
      clear hg
      replace UF := Lib.hid (UF.out.keep hb)
      replace UM := Lib.hid (UM.out.keep hb)
      replace HB := Lib.hid (HB.out.trans (hb.mono HB.out.size))
      clear hb
      refine lp_step (by kernel_rfl) (fun K hK => wp_zeros (.tmp 98) (.const (.int .i64 31)) rfl g1 rfl rfl HX1.out fun q3 c3 y24 hs hb hc => hK _ _ ?_)
      try simp only [Act.put, List.setIfInBounds_toArray, List.set_cons_zero, List.set_cons_succ]
      have HS3 := Lib.hid hs
      have HC3 := Lib.hid hc
      clear hs hc HX1
      replace UF := Lib.hid (UF.out.keep hb)
      replace UM := Lib.hid (UM.out.keep hb)
      replace HB := Lib.hid (HB.out.trans (hb.mono HB.out.size))
      clear hb
      refine lp_step (by kernel_rfl) (fun K hK => wp_lit35 (.tmp 99) rfl q3 c3 rfl (hK _ _ ?_))
      try simp only [Act.put, List.setIfInBounds_toArray, List.set_cons_zero, List.set_cons_succ]
      have hb : Below y24.heap.size y24 (y24.alloc (.cells #[.slice q3 32 c3] 35)) := (Below.refl _ _).alloc (Nat.le_refl _) _
      have HP3 := Lib.hid (parts_one y24 q3 c3 HS3.out HC3.out)
      generalize hg : y24.heap.size = g2 at HP3 ⊢
      generalize y24.alloc (.cells #[.slice q3 32 c3] 35) = y25 at *
      clear hg
      replace UF := Lib.hid (UF.out.keep hb)
      replace UM := Lib.hid (UM.out.keep hb)
      replace HB := Lib.hid (HB.out.trans (hb.mono HB.out.size))
      clear hb
      refine lp_step (by kernel_rfl) (fun K hK => ?_)
      go_wp2_with fail
      refine Calls.mono (hof1 y25 (HL.out.keep HB.out HSZ.out) _ _ HP3.out) ?_
      rintro e y26 ⟨rfl, hb⟩
      replace UF := Lib.hid (UF.out.keep hb)
      replace UM := Lib.hid (UM.out.keep hb)
      replace HB := Lib.hid (HB.out.trans (hb.mono HB.out.size))
      clear hb
      refine hK _ _ ?_
      clear hK
      try simp only [Act.put, List.setIfInBounds_toArray, List.set_cons_zero, List.set_cons_succ]
      refine lp_pure (v := .bool true) (by kernel_rfl) ((eql_su 24 (.tmp 97) (.tmp 101) _ rfl (tellU [s1]) (tellU [s1]) rfl rfl elSum.2.1 gdSum).trans (by rw [decide_eq_true rfl])) ?_
      try simp only [Act.put, List.setIfInBounds_toArray, List.set_cons_zero, List.set_cons_succ]
      refine lp_pure (v := ?_) (by kernel_rfl) ?_ ?_
      rotate_left
      · go_simp; try with_reducible rfl
      try simp only [Act.put, List.setIfInBounds_toArray, List.set_cons_zero, List.set_cons_succ]
      refine lp_pure (v := ?_) (by kernel_rfl) ?_ ?_
      rotate_left
      · go_simp; try with_reducible rfl
      try simp only [Act.put, List.setIfInBounds_toArray, List.set_cons_zero, List.set_cons_succ]
      refine lp_pure (v := ?_) (by kernel_rfl) ?_ ?_
      rotate_left
      · go_simp; try with_reducible rfl
      try simp only [Act.put, List.setIfInBounds_toArray, List.set_cons_zero, List.set_cons_succ]
      refine lp_pure (v := ?_) (by kernel_rfl) ?_ ?_
      rotate_left
      · go_simp; try with_reducible rfl
      try simp only [Act.put, List.setIfInBounds_toArray, List.set_cons_zero, List.set_cons_succ]
      refine lp_step (by kernel_rfl) (fun K hK => ?_)
      go_wp2_with fail
      refine Calls.mono (u_both UF.out UM.out (by decide) (by decide)) ?_
      rintro e y27 ⟨⟨qU9, nU9, cU9, rfl, h1⟩, hb⟩
      replace UF := Lib.hid (UF.out.keep hb)
      replace UM := Lib.hid (UM.out.keep hb)
      replace HB := Lib.hid (HB.out.trans (hb.mono HB.out.size))
      clear hb
      have U9 := Lib.hid (h1.eq K_both)
      clear h1
      refine hK _ _ ?_
      clear hK
      try simp only [Act.put, List.setIfInBounds_toArray, List.set_cons_zero, List.set_cons_succ]
      obtain rfl : nU9 = 512 := by have e := U9.out.len; rw [K_len] at e; exact e.symm
      refine lp_pure (v := ?_) (by kernel_rfl) ?_ ?_
      rotate_left
      · go_simp; try with_reducible rfl
      try simp only [Act.put, List.setIfInBounds_toArray, List.set_cons_zero, List.set_cons_succ]
      refine lp_pure (v := ?_) (by kernel_rfl) ?_ ?_
      rotate_left
      · go_simp; try with_reducible rfl
      try simp only [Act.put, List.setIfInBounds_toArray, List.set_cons_zero, List.set_cons_succ]
      refine lp_pure (v := ?_) (by kernel_rfl) ?_ ?_
      rotate_left
      · go_simp; try with_reducible rfl
      try simp only [Act.put, List.setIfInBounds_toArray, List.set_cons_zero, List.set_cons_succ]
      clear U9
      refine lp_pure (v := ?_) (by kernel_rfl) ?_ ?_
      rotate_left
      · go_simp; try with_reducible rfl
      try simp only [Act.put, List.setIfInBounds_toArray, List.set_cons_zero, List.set_cons_succ]
      refine lp_pure (v := ?_) (by kernel_rfl) ?_ ?_
      rotate_left
      · go_simp; try with_reducible rfl
      try simp only [Act.put, List.setIfInBounds_toArray, List.set_cons_zero, List.set_cons_succ]
      refine lp_pure (v := ?_) (by kernel_rfl) ?_ ?_
      rotate_left
      · go_simp; try with_reducible rfl
      try simp only [Act.put, List.setIfInBounds_toArray, List.set_cons_zero, List.set_cons_succ]
      refine lp_step (by kernel_rfl) (fun K hK => ?_)
      go_wp2_with fail
      refine Calls.mono (u_either UF.out UM.out (by decide) (by decide)) ?_
      rintro e y28 ⟨⟨qUa, nUa, cUa, rfl, h1⟩, hb⟩
      replace UF := Lib.hid (UF.out.keep hb)
      replace UM := Lib.hid (UM.out.keep hb)
      replace HB := Lib.hid (HB.out.trans (hb.mono HB.out.size))
      clear hb
      have Ua := Lib.hid (h1.eq K_either)
      clear h1
      refine hK _ _ ?_
      clear hK
      try simp only [Act.put, List.setIfInBounds_toArray, List.set_cons_zero, List.set_cons_succ]
      obtain rfl : nUa = 513 := by have e := Ua.out.len; rw [Kmore_len] at e; exact e.symm
      refine lp_pure (v := ?_) (by kernel_rfl) ?_ ?_
      rotate_left
      · go_simp; try with_reducible rfl
      try simp only [Act.put, List.setIfInBounds_toArray, List.set_cons_zero, List.set_cons_succ]
      refine lp_pure (v := ?_) (by kernel_rfl) ?_ ?_
      rotate_left
      · go_simp; try with_reducible rfl
      try simp only [Act.put, List.setIfInBounds_toArray, List.set_cons_zero, List.set_cons_succ]
      refine lp_pure (v := ?_) (by kernel_rfl) ?_ ?_
      rotate_left
      · go_simp; try with_reducible rfl
      try simp only [Act.put, List.setIfInBounds_toArray, List.set_cons_zero, List.set_cons_succ]
      refine lp_pure (v := ?_) (by kernel_rfl) ?_ ?_
      rotate_left
      · go_simp; try with_reducible rfl
      try simp only [Act.put, List.setIfInBounds_toArray, List.set_cons_zero]
      refine wpList_nil ?_
      go_wp2_with fail
      go_ret
      exact ⟨rfl, HB.out⟩
end Go.Proofs.YtlidoikpfodpeaaDoor
namespace Go.Proofs.YtlidoikpfodpeaaDoor
open Go.ChangeShapes Go.WideShapes Go.ChangeAt Go.RowKit
set_option maxRecDepth 100000 in
theorem setKnown_lifted (os : Os) (started : os.Started) (H : Type) (enc : TypeId × Value → H) :
    ReturnsInHanded {} Tryd.checked os 3 .any (fun w args => (Rows.setKnownSpec.pre enc Tryd.prog Tryd.f3 [] false w args ∧ laidMetH Tryd.prog laidVars w) ∧ sizedMet enc Tryd.prog Tryd.f3 (OpenSpec.ofChange Rows.setKnownSpec) false w args)
      (Rows.setKnownSpec.post enc Tryd.prog Tryd.f3 false true false false) := by
  refine returnsInHanded_of_change_and (C := Tryd.checked) (X := fun w _ => laidMetH Tryd.prog laidVars w) (fun _ _ _ hh h => h.of_heap hh) own started (by kernel_rfl) Tryd.func3
    (ChangeSpec.witness_shaped (enc := enc) (C := Tryd.checked) (os := os) (X := fun w _ => laidMetH Tryd.prog laidVars w) false (World.doorLaid Tryd.prog 400 os) #[] 8 rfl (World.shaped_of_RefB (by kernel_rfl) (by kernel_rfl)) (by kernel_rfl) (by kernel_rfl) (by kernel_rfl) (door_met os _)) ?_
  intro W base args ds gs before hval0 hW _ _ hL _
  have hval : ∀ (j : Nat) t v, Tryd.f3.params[j]? = some t → args[j]? = some v → Value.okWide Tryd.prog W .any base t v := hval0
  have hW' := hW
  obtain ⟨p, q, hA0, hV, rfl, hfz, hnd⟩ := hW
  have hA : DataW.TrodAll enc Tryd.prog W 0 (fun _ => true) true Tryd.f3.params.toList args.toList ds p := hA0
  rw [Tryd.params3] at hA hval
  obtain ⟨h1, rfl, rfl⟩ := trodAll_nil hA
  obtain rfl : args = #[] := by cases args; simp_all
  obtain ⟨rfl, rfl⟩ := trodVars_none hV
  clear hA0 hval0
  refine (setKnown_any W (of_laid hL)).mono fun e W' ⟨he, bel⟩ => ?_
  subst he
  exact ⟨_, rfl, _, _, _, [], _, [], hW', trodAll_mk1 (shut_bool Tryd.underlying4 _), trodAll_mk0, rfl, bel.frame _, fun h => by cases h⟩
theorem setKnown_row : Rows.SetKnownSaid :=
  OpenClaim.holds_of_wide 3 Tryd.f3 rfl rfl rfl rfl rfl rfl rfl ⟨rfl, rfl, rfl, rfl, rfl⟩ rfl rfl rfl rfl rfl (by kernel_rfl) Tryd.func3 (by kernel_rfl)
    (of_decide_eq_true (by kernel_rfl)) (by unfold Func.isWrapper; first | (rw [if_pos (by decide +kernel)]; kernel_rfl) | (rw [if_neg (by decide +kernel)]; exact ⟨rfl, rfl⟩))
    (fun os started H enc _ => setKnown_lifted os started H enc)
theorem setKnown_holds : Rows.SetKnownCardSaid :=
  Claim7.holds_tied_plain_at .later [] [.data, .data] true Rows.setKnownCard.stood.harness Rows.setKnownCard.stood.looks
    setKnown_row (fun _ h => by cases h) (by kernel_rfl) (fun _ h => by cases h) setKnown_row_tie rfl ⟨rfl, rfl⟩ (by kernel_rfl) rfl
    (fun f fn hf hfn => by
      obtain rfl : f = 3 := Option.some.inj ((show Tryd.prog.funcNamed "tallyman/tallymanlaw10.SetKnown" = some 3 by kernel_rfl).symm.trans hf) |>.symm
      obtain rfl : fn = Tryd.f3 := (Option.some.inj (Tryd.func3.symm.trans hfn)).symm
      exact ⟨by kernel_rfl, fun j t ht => by
        rw [Tryd.params3] at ht
        simp at ht⟩)
    (by kernel_rfl)
#print axioms setKnown_holds
end Go.Proofs.YtlidoikpfodpeaaDoor
