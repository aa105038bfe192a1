/- The walk of the law SumSays: it returns true. Conditions: the variables as laid; the slices read as lists of bytes. -/
import Derived.Test.YtgaphplndpdhaaaDoorRof
import Derived.Test.YtgaphplndpdhaaaDoorRparse
import Derived.Test.YtgaphplndpdhaaaDoorAwake
import Derived.Test.YtgaphplndpdhaaaDoorCmp
import Derived.Test.YtgaphplndpdhaaaDoorOrg
namespace Go.Proofs.YtgaphplndpdhaaaDoor
open Go.RowKit
theorem of_two (x y : List (BitVec 8)) (q1 q2 : Option Addr) (c1 c2 g : Nat) (w : World) (hg : Has w g 22 [.slice q1 x.length c1, .slice q2 y.length c2]) (h1 : x.length ≤ c1) (h2 : y.length ≤ c2)
    (s1 : Sees w w.heap.size q1 (x.map u8v)) (s2 : Sees w w.heap.size q2 (y.map u8v)) (hl : x.length + y.length < 1152921504606846976) (hL : Laid w) :
    Calls Tryd.prog 5 #[.slice (some ⟨g, 0, none⟩) 2 2] w fun e w' => e = .returned (.agg ((sha (x ++ y)).map u8v).toArray) ∧ Below w.heap.size w w' := by
  have hP : Parts w w.heap.size (some ⟨g, 0, none⟩) [x, y] := by
    intro i hi
    have hi' : i = 0 ∨ i = 1 := by simp at hi; omega
    rcases hi' with rfl | rfl
    · exact ⟨_, q1, c1, rfl, hg.lt, (by simpa [Addr.add] using hg.cellv (i := 0) rfl), h1, s1⟩
    · exact ⟨_, q2, c2, rfl, hg.lt, (by simpa [Addr.add] using hg.cellv (i := 1) rfl), h2, s2⟩
  have := of_any [x, y] (some ⟨g, 0, none⟩) 2 w hP (by simp) (by simp; omega) hL
  rw [show ([x, y] : List (List (BitVec 8))).flatten = x ++ y by simp] at this
  exact this
theorem of_one (x : List (BitVec 8)) (q : Option Addr) (c g : Nat) (w : World) (hg : Has w g 22 [.slice q x.length c]) (h1 : x.length ≤ c)
    (s1 : Sees w w.heap.size q (x.map u8v)) (hl : x.length < 1152921504606846976) (hL : Laid w) :
    Calls Tryd.prog 5 #[.slice (some ⟨g, 0, none⟩) 1 1] w fun e w' => e = .returned (.agg ((sha x).map u8v).toArray) ∧ Below w.heap.size w w' := by
  have hP : Parts w w.heap.size (some ⟨g, 0, none⟩) [x] := by
    intro i hi
    have hi : i = 0 := by simpa using hi
    subst hi
    exact ⟨_, q, c, rfl, hg.lt, (by simpa [Addr.add] using hg.cellv (i := 0) rfl), h1, s1⟩
  have := of_any [x] (some ⟨g, 0, none⟩) 1 w hP (by simp) (by simp; omega) hL
  rw [show ([x] : List (List (BitVec 8))).flatten = x by simp] at this
  exact this
/-- A row of thirty-two bytes, as it is laid and read. -/
def Row (l : List Value) : Prop := l.toArray.all (·.oneCell') = true ∧ l.length = 32
theorem row_of (l : List (BitVec 8)) (h : l.length = 32) : Row (l.map u8v) := ⟨u8v_one l, by rw [List.length_map, h]⟩
theorem i25 : (Tryd.prog.info? 25).map (·.size) = some 32 := by kernel_rfl
theorem i27 : (Tryd.prog.info? 27).map (·.size) = some 32 := by kernel_rfl
theorem Row.k25 {l : List Value} (h : Row l) : (Tryd.prog.info? 25).map (·.size) = some l.toArray.size := by rw [List.size_toArray, h.2, i25]
theorem Row.k27 {l : List Value} (h : Row l) : (Tryd.prog.info? 27).map (·.size) = some l.toArray.size := by rw [List.size_toArray, h.2, i27]
theorem Row.b32 {l : List Value} (h : Row l) : (brow 32 []).toArray.size = l.toArray.size := by rw [List.size_toArray, List.size_toArray, h.2]; rfl
theorem load25 {o : Oper} {ev : Operand → Value} (x : Operand) (ho : o.op = .load 25 x) (g : Nat) (hx : ev x = .pointer (some ⟨g, 0, none⟩)) (l : List Value) (hr : Row l) (w : World)
    (hS : Has w g 25 l) (w' : World) (h : Ext w w') : (execOp ev o).run Tryd.prog w' = .ok (.value (.agg l.toArray)) w' :=
  load_at 25 x ho g hx 25 l w' (hS.keep h hS.lt) _ Tryd.underlying25 rfl hr.k25
theorem load27 {o : Oper} {ev : Operand → Value} (x : Operand) (ho : o.op = .load 27 x) (g : Nat) (hx : ev x = .pointer (some ⟨g, 0, none⟩)) (l : List Value) (hr : Row l) (w : World)
    (hS : Has w g 27 l) (w' : World) (h : Ext w w') : (execOp ev o).run Tryd.prog w' = .ok (.value (.agg l.toArray)) w' :=
  load_at 27 x ho g hx 27 l w' (hS.keep h hS.lt) _ Tryd.underlying27 rfl hr.k27
theorem build0 {o : Oper} {ev : Operand → Value} (ho : o.op = .build 27 #[]) (w' : World) : (execOp ev o).run Tryd.prog w' = .ok (.value (.agg zrw)) w' := by
  unfold execOp
  simp only [ho]
  have h := run_build (P := Tryd.prog) w' 27 #[] zrw (by kernel_rfl)
  simp [h]
theorem eql_at {o : Oper} {ev : Operand → Value} (x y : Operand) (R : TypeId) (ho : o.op = .binOp .eql 27 x y R) (va vb : Array Value) (hx : ev x = .agg va) (hy : ev y = .agg vb) (b : Bool) (w' : World)
    (h : (binOp .eql 27 (.agg va) (.agg vb)).run Tryd.prog w' = .ok (.bool b) w') : (execOp ev o).run Tryd.prog w' = .ok (.value (.bool b)) w' := by
  have hg : (eqGuard .eql 27 x y (.agg va) (.agg vb)).run Tryd.prog w' = .ok () w' := by kernel_rfl
  unfold execOp
  simp only [ho, hx, hy]
  simp [h, hg]
noncomputable def opsS : Array Oper := regOf Tryd.f3.body 9
set_option maxRecDepth 100000 in
theorem chkS : orgB [(0, true), (1, true), (2, true), (3, true), (4, true), (5, true), (6, true), (7, true), (8, true), (9, true), (11, true), (10, false), (12, false), (13, true), (14, true), (15, true), (16, true), (17, true), (18, true), (19, true), (20, true), (21, true), (22, true), (23, true), (24, true), (25, true), (26, true), (27, true), (29, true), (30, true), (28, false), (31, false), (32, true), (33, true), (34, true), (35, true), (36, true), (38, true), (39, true), (37, false), (40, false), (41, true), (42, true), (43, true), (44, true), (45, true), (47, true), (48, true), (46, false), (49, false), (50, true), (51, true), (52, true), (53, true), (55, true), (56, true), (57, true), (54, false), (58, true), (59, true), (60, true)] opsS = true := by kernel_rfl
set_option maxHeartbeats 8000000 in
set_option maxRecDepth 100000 in
theorem ssays_any (x : List (BitVec 8)) (q1 : Option Addr) (c1 : Nat) (y : List (BitVec 8)) (q2 : Option Addr) (c2 : Nat) (T : List (BitVec 8)) (i : Int) (w : World)
    (hx : Sees w w.heap.size q1 (x.map u8v)) (hxc : x.length ≤ c1) (hxq : q1 = none → c1 = 0) (hxm : x.length ≤ maxLen)
    (hy : Sees w w.heap.size q2 (y.map u8v)) (hyc : y.length ≤ c2) (hyq : q2 = none → c2 = 0) (hym : y.length ≤ maxLen) (hL : Laid w) :
    Calls Tryd.prog 3 #[.slice q1 x.length c1, .slice q2 y.length c2, .string (strB T), .int .i64 i] w fun e w' => e = .returned (.bool true) ∧ Below w.heap.size w w' := by
  unfold maxLen at hxm hym
  have HA := Lib.hid (awake_any w hL)
  by_cases hbig : 3000 < x.length
  · have k1 : (3000 : Int) < (x.length : Int) := by omega
    clear hx hxc hxq hy hyc hyq hbig hL
    go_enter Tryd.func3, Tryd.ntmps3
    go_wp2_with ((with_reducible refine HA.out.mono ?_); rintro e w1 ⟨rfl, hb1⟩)
    go_ret
    exact ⟨rfl, hb1⟩
  have k1 : ¬ (3000 : Int) < (x.length : Int) := by omega
  by_cases hbig2 : 3000 < y.length
  · have k2 : (3000 : Int) < (y.length : Int) := by omega
    clear hx hxc hxq hy hyc hyq hbig hbig2 hL
    go_enter Tryd.func3, Tryd.ntmps3
    go_wp2_with ((with_reducible refine HA.out.mono ?_); rintro e w1 ⟨rfl, hb1⟩)
    go_ret
    exact ⟨rfl, hb1⟩
  have k2 : ¬ (3000 : Int) < (y.length : Int) := by omega
  have hxl : x.length ≤ 3000 := by omega
  have hyl : y.length ≤ 3000 := by omega
  have hz1 := hL.size
  have hxyl : (x ++ y).length = x.length + y.length := List.length_append
  -- what the calls answer
  have OF2 : ∀ w1 g, Below w.heap.size w w1 → Has w1 g 22 [.slice q1 x.length c1, .slice q2 y.length c2] → Calls Tryd.prog 5 #[.slice (some ⟨g, 0, none⟩) 2 2] w1 fun e w' => e = .returned (.agg ((sha (x ++ y)).map u8v).toArray) ∧ Below w1.heap.size w1 w' :=
    fun w1 g hb hg => of_two x y q1 q2 c1 c2 g w1 hg hxc hyc ((hx.keep hb).more hb.size) ((hy.keep hb).more hb.size) (by omega) (hL.keep hb hz1)
  have OF1 : ∀ w1 g, Below w.heap.size w w1 → Has w1 g 22 [.slice q2 y.length c2] → Calls Tryd.prog 5 #[.slice (some ⟨g, 0, none⟩) 1 1] w1 fun e w' => e = .returned (.agg ((sha y).map u8v).toArray) ∧ Below w1.heap.size w1 w' :=
    fun w1 g hb hg => of_one y q2 c2 g w1 hg hyc ((hy.keep hb).more hb.size) (by omega) (hL.keep hb hz1)
  have RO2 : ∀ w1 v, Bs w1 v (x ++ y) → Calls Tryd.prog 6 #[v] w1 fun e w' => e = .returned (.agg ((sha (x ++ y)).map u8v).toArray) ∧ Below w1.heap.size w1 w' := fun w1 v hv => by
    obtain ⟨q, c, rfl, hc, hq, hs⟩ := hv
    exact rof_any (x ++ y) q c w1 hs hq (by omega)
  have RO1 : ∀ w1, Below w.heap.size w w1 → Calls Tryd.prog 6 #[.slice q2 y.length c2] w1 fun e w' => e = .returned (.agg ((sha y).map u8v).toArray) ∧ Below w1.heap.size w1 w' :=
    fun w1 hb => rof_any y q2 c2 w1 ((hy.keep hb).more hb.size) hyq (by omega)
  have P1 := parse_all T
  have P2 := rparse_all T
  have lX := sha_length (x ++ y)
  have lY := sha_length y
  have lZ := pL_length T
  generalize hX : sha (x ++ y) = X at *
  generalize hY : sha y = Y at *
  generalize pL T = Z at *
  generalize pOk T = ok at *
  have M1 := fun w1 => text_any X lX w1
  have M2 := fun w1 => rtext_any X lX w1
  have M3 := fun w1 => cmp_any X Y lX lY w1
  have M4 := fun w1 => rcmp_any X Y lX lY w1
  have M5 := fun w1 => xor_any X Y lX lY w1
  have M6 := fun w1 => rxor_any X Y lX lY w1
  have M7 := fun w1 => word_any X lX i w1
  have M8 := fun w1 => rword_any X lX i w1
  have M9 := fun w1 => zero_any X lX w1
  have lXY : (xorL X Y).length = 32 := by unfold xorL; rw [List.length_zipWith, lX, lY]; rfl
  have E1 : ∀ w' : World, (binOp .eql 27 (.agg (X.map u8v).toArray) (.agg (X.map u8v).toArray)).run Tryd.prog w' = .ok (.bool true) w' := fun w' => by
    have := arr_eql 27 Tryd.underlying27 X X lX lX w'
    rw [decide_eq_true rfl] at this; exact this
  have E2 : ∀ w' : World, (binOp .eql 27 (.agg (Y.map u8v).toArray) (.agg (Y.map u8v).toArray)).run Tryd.prog w' = .ok (.bool true) w' := fun w' => by
    have := arr_eql 27 Tryd.underlying27 Y Y lY lY w'
    rw [decide_eq_true rfl] at this; exact this
  have E3 : ∀ w' : World, (binOp .eql 27 (.agg (Z.map u8v).toArray) (.agg (Z.map u8v).toArray)).run Tryd.prog w' = .ok (.bool true) w' := fun w' => by
    have := arr_eql 27 Tryd.underlying27 Z Z lZ lZ w'
    rw [decide_eq_true rfl] at this; exact this
  have E4 : ∀ w' : World, (binOp .eql 27 (.agg ((xorL X Y).map u8v).toArray) (.agg ((xorL X Y).map u8v).toArray)).run Tryd.prog w' = .ok (.bool true) w' := fun w' => by
    have := arr_eql 27 Tryd.underlying27 (xorL X Y) (xorL X Y) lXY lXY w'
    rw [decide_eq_true rfl] at this; exact this
  have E5 : ∀ w' : World, (binOp .eql 27 (.agg (X.map u8v).toArray) (.agg zrw)).run Tryd.prog w' = .ok (.bool (decide (X = zero32))) w' := fun w' => by
    have := arr_eql 27 Tryd.underlying27 X zero32 lX rfl w'
    rw [← zrw_eq] at this; exact this
  have RX := row_of X lX
  have RY := row_of Y lY
  have RZ := row_of Z lZ
  generalize X.map u8v = cx at *
  generalize Y.map u8v = cy at *
  generalize Z.map u8v = cz at *
  generalize (xorL X Y).map u8v = cv at *
  generalize strB (textOf X) = txt at *
  generalize cmpL X Y = cc at *
  generalize M (wordOf X i) = wd at *
  generalize decide (X = zero32) = zb at *
  obtain ⟨tt, htt⟩ : ∃ tt, tt = strB T := ⟨_, rfl⟩
  rw [← htt] at P1 P2 ⊢
  replace OF2 := Lib.hid OF2
  replace OF1 := Lib.hid OF1
  replace RO2 := Lib.hid RO2
  replace RO1 := Lib.hid RO1
  replace P1 := Lib.hid P1
  replace P2 := Lib.hid P2
  replace M1 := Lib.hid M1
  replace M2 := Lib.hid M2
  replace M3 := Lib.hid M3
  replace M4 := Lib.hid M4
  replace M5 := Lib.hid M5
  replace M6 := Lib.hid M6
  replace M7 := Lib.hid M7
  replace M8 := Lib.hid M8
  replace M9 := Lib.hid M9
  replace E1 := Lib.hid E1
  replace E2 := Lib.hid E2
  replace E3 := Lib.hid E3
  replace E4 := Lib.hid E4
  replace E5 := Lib.hid E5
  replace RX := Lib.hid RX
  replace RY := Lib.hid RY
  replace RZ := Lib.hid RZ
  have HX := Lib.hid hx
  have HY := Lib.hid hy
  have HXQ := Lib.hid hxq
  have HYQ := Lib.hid hyq
  have HXYL := Lib.hid hxyl
  clear hx hy hxq hyq hxc hyc hL hbig hbig2 hxm hym htt hX hY lX lY lZ lXY hxyl
  go_enter Tryd.func3, Tryd.ntmps3
  go_wp2_with fail
  refine HA.out.mono ?_
  rintro e w1 ⟨rfl, hb1⟩
  have HB1 := Lib.hid hb1
  clear hb1 HA
  go_wp2_with fail
  have HC2 := Lib.hid (OF2.out (w1.alloc (.cells #[.slice q1 x.length c1, .slice q2 y.length c2] 22)) w1.heap.size (HB1.out.alloc HB1.out.size _) (Has.made' _ _ _ _ rfl))
  refine HC2.out.mono ?_
  rintro e w2 ⟨rfl, hb2⟩
  have HB2 := Lib.hid ((HB1.out.alloc HB1.out.size _).trans (hb2.mono (by have := HB1.out.size; simp; omega)))
  clear hb2 HC2 OF2 HB1
  go_wp2_with fail
  have HC3 := Lib.hid (OF1.out (w2.alloc (.cells #[.slice q2 y.length c2] 22)) w2.heap.size (HB2.out.alloc HB2.out.size _) (Has.made' _ _ _ _ rfl))
  refine HC3.out.mono ?_
  rintro e w3 ⟨rfl, hb3⟩
  have HB3 := Lib.hid ((HB2.out.alloc HB2.out.size _).trans (hb3.mono (by have := HB2.out.size; simp; omega)))
  clear hb3 HC3 OF1 HB2
  go_upto_region 6 with (first
    | (refine wpList_store_row rfl 25 (.tmp 9) (.tmp 30) rfl w3.heap.size cx.toArray rfl rfl 25 _ ((Has.made' w3 25 _ (brow 32 []) rfl).alloc _) RX.out.k25 RX.out.b32 RX.out.1 ?_)
    | (refine wpList_store_row rfl 25 (.tmp 10) (.tmp 33) rfl (w3.heap.size + 1) cy.toArray rfl rfl 25 _ ((Has.made1 w3 _ 25 _ (brow 32 []) rfl).offRow (by omega) _) RY.out.k25 RY.out.b32 RY.out.1 ?_))
  try simp only [Act.put]
  generalize hw4 : World.setRow _ _ _ = w4
  have g9 : Has w4 w3.heap.size 25 cx := by
    subst hw4; exact (((Has.made' w3 25 _ (brow 32 []) rfl).alloc _).rowl cx).offRow (by omega) _
  have g10 : Has w4 (w3.heap.size + 1) 25 cy := by
    subst hw4; exact ((Has.made1 w3 _ 25 _ (brow 32 []) rfl).offRow (by omega) _).rowl cy
  have b4 : Below w.heap.size w w4 := by
    subst hw4
    have := HB3.out.size
    exact below_row (below_row ((HB3.out.alloc HB3.out.size _).alloc (by simp; omega) _) (by omega) _) (by omega) _
  clear hw4
  have G9 := Lib.hid g9
  have G10 := Lib.hid g10
  have HB4 := Lib.hid b4
  clear g9 g10 b4 HB3
  generalize w3.heap.size = n9 at *
  have hBe : Below w4.heap.size w4 (w4.alloc (.cells #[] 5)) := (Below.refl _ _).alloc (Nat.le_refl _) _
  have HSx := Lib.hid ((HX.out.keep HB4.out).keep (hBe.mono HB4.out.size))
  have HO := Lib.hid (empty_own w4 w4.heap.size (Nat.le_refl _))
  have HBe := Lib.hid hBe
  clear hBe
  go_wp2_with (first
    | (at_builtin
       refine wpList_append_sees rfl (.tmp 34) (.tmp 35) rfl w4.heap.size _ 0 [] rfl HO.out q1 x c1 w.heap.size rfl HXQ.out HSx.out (by omega) HBe.out.size ?_
       intro v5 w5 h1 h2
       have H5 := Lib.hid h1
       have HB5 := Lib.hid (HBe.out.trans h2)
       have HSy := Lib.hid ((HY.out.keep HB4.out).keep (HB5.out.mono HB4.out.size))
       clear h1 h2)
    | (at_builtin
       refine wpList_append_sees rfl (.tmp 36) (.tmp 37) rfl w4.heap.size v5 (0 + x.length) ([] ++ x.map u8v) rfl H5.out q2 y c2 w.heap.size rfl HYQ.out HSy.out (by omega) HB5.out.size ?_
       intro v6 w6 h1 h2
       have H6 := Lib.hid h1
       have HB6 := Lib.hid (HB5.out.trans h2)
       clear h1 h2))
  have hb6 : Bs w6 v6 (x ++ y) := Bs.own (base := w4.heap.size) (n := 0 + x.length + y.length) (by have := H6.out; rw [List.nil_append] at this; rw [List.map_append]; exact this)
  replace G9 := Lib.hid (G9.out.keep HB6.out G9.out.lt)
  replace G10 := Lib.hid (G10.out.keep HB6.out G10.out.lt)
  have HC6 := Lib.hid (RO2.out w6 v6 hb6)
  replace HB6 := Lib.hid (HB4.out.trans (HB6.out.mono HB4.out.size))
  clear hb6 H6 HSy HB5 H5 HBe HO HSx HB4 RO2
  refine HC6.out.mono ?_
  rintro e w7 ⟨rfl, hb7⟩
  replace G9 := Lib.hid (G9.out.keep hb7 G9.out.lt)
  replace G10 := Lib.hid (G10.out.keep hb7 G10.out.lt)
  have HB7 := Lib.hid (HB6.out.trans (hb7.mono HB6.out.size))
  clear hb7 HC6 HB6
  go_wp2_with fail
  refine (RO1.out w7 HB7.out).mono ?_
  rintro e w8 ⟨rfl, hb8⟩
  replace G9 := Lib.hid (G9.out.keep hb8 G9.out.lt)
  replace G10 := Lib.hid (G10.out.keep hb8 G10.out.lt)
  have HB8 := Lib.hid (HB7.out.trans (hb8.mono HB7.out.size))
  clear hb8 HB7 RO1
  go_upto_region 7 with (first
    | (refine wpList_store_row rfl 27 (.tmp 11) (.tmp 39) rfl w8.heap.size cx.toArray rfl rfl 27 _ ((Has.made' w8 27 _ (brow 32 []) rfl).alloc _) RX.out.k27 RX.out.b32 RX.out.1 ?_)
    | (refine wpList_store_row rfl 27 (.tmp 12) (.tmp 41) rfl (w8.heap.size + 1) cy.toArray rfl rfl 27 _ ((Has.made1 w8 _ 27 _ (brow 32 []) rfl).offRow (by omega) _) RY.out.k27 RY.out.b32 RY.out.1 ?_))
  try simp only [Act.put]
  generalize hw9 : World.setRow _ _ _ = w9
  have g11 : Has w9 w8.heap.size 27 cx := by
    subst hw9; exact (((Has.made' w8 27 _ (brow 32 []) rfl).alloc _).rowl cx).offRow (by omega) _
  have g12 : Has w9 (w8.heap.size + 1) 27 cy := by
    subst hw9; exact ((Has.made1 w8 _ 27 _ (brow 32 []) rfl).offRow (by omega) _).rowl cy
  have b9 : Below w8.heap.size w8 w9 := by
    subst hw9
    exact below_row (below_row (((Below.refl _ _).alloc (Nat.le_refl _) _).alloc (by simp) _) (by omega) _) (by omega) _
  clear hw9
  replace G9 := Lib.hid (G9.out.keep b9 G9.out.lt)
  replace G10 := Lib.hid (G10.out.keep b9 G10.out.lt)
  have G11 := Lib.hid g11
  have G12 := Lib.hid g12
  have HB9 := Lib.hid (HB8.out.trans (b9.mono HB8.out.size))
  clear g11 g12 b9 HB8
  generalize w8.heap.size = n11 at *
  go_wp2_with fail
  refine (P1.out _).mono ?_
  rintro e w10 ⟨rfl, hb10⟩
  replace G9 := Lib.hid (G9.out.keep hb10 G9.out.lt)
  replace G10 := Lib.hid (G10.out.keep hb10 G10.out.lt)
  replace G11 := Lib.hid (G11.out.keep hb10 G11.out.lt)
  replace G12 := Lib.hid (G12.out.keep hb10 G12.out.lt)
  have HB10 := Lib.hid (HB9.out.trans (hb10.mono HB9.out.size))
  clear hb10 HB9 P1
  go_upto_region 8 with (refine wpList_store_row rfl 25 (.tmp 13) (.tmp 45) rfl w10.heap.size cz.toArray rfl rfl 25 _ (Has.made' w10 25 _ (brow 32 []) rfl) RZ.out.k25 RZ.out.b32 RZ.out.1 ?_)
  try simp only [Act.put]
  generalize hw11 : World.setRow _ _ _ = w11
  have g13 : Has w11 w10.heap.size 25 cz := by
    subst hw11; exact (Has.made' w10 25 _ (brow 32 []) rfl).rowl cz
  have b11 : Below w10.heap.size w10 w11 := by
    subst hw11
    exact below_row ((Below.refl _ _).alloc (Nat.le_refl _) _) (by omega) _
  clear hw11
  replace G9 := Lib.hid (G9.out.keep b11 G9.out.lt)
  replace G10 := Lib.hid (G10.out.keep b11 G10.out.lt)
  replace G11 := Lib.hid (G11.out.keep b11 G11.out.lt)
  replace G12 := Lib.hid (G12.out.keep b11 G12.out.lt)
  have G13 := Lib.hid g13
  have HB11 := Lib.hid (HB10.out.trans (b11.mono HB10.out.size))
  clear g13 b11 HB10
  generalize w10.heap.size = n13 at *
  go_wp2_with fail
  refine (P2.out _).mono ?_
  rintro e w12 ⟨rfl, hb12⟩
  replace G9 := Lib.hid (G9.out.keep hb12 G9.out.lt)
  replace G10 := Lib.hid (G10.out.keep hb12 G10.out.lt)
  replace G11 := Lib.hid (G11.out.keep hb12 G11.out.lt)
  replace G12 := Lib.hid (G12.out.keep hb12 G12.out.lt)
  replace G13 := Lib.hid (G13.out.keep hb12 G13.out.lt)
  have HB12 := Lib.hid (HB11.out.trans (hb12.mono HB11.out.size))
  clear hb12 HB11 P2
  go_upto_region 9 with (refine wpList_store_row rfl 27 (.tmp 15) (.tmp 50) rfl w12.heap.size cz.toArray rfl rfl 27 _ (Has.made' w12 27 _ (brow 32 []) rfl) RZ.out.k27 RZ.out.b32 RZ.out.1 ?_)
  try simp only [Act.put]
  generalize hw13 : World.setRow _ _ _ = w13
  have g15 : Has w13 w12.heap.size 27 cz := by
    subst hw13; exact (Has.made' w12 27 _ (brow 32 []) rfl).rowl cz
  have b13 : Below w12.heap.size w12 w13 := by
    subst hw13
    exact below_row ((Below.refl _ _).alloc (Nat.le_refl _) _) (by omega) _
  clear hw13
  replace G9 := Lib.hid (G9.out.keep b13 G9.out.lt)
  replace G10 := Lib.hid (G10.out.keep b13 G10.out.lt)
  replace G11 := Lib.hid (G11.out.keep b13 G11.out.lt)
  replace G12 := Lib.hid (G12.out.keep b13 G12.out.lt)
  replace G13 := Lib.hid (G13.out.keep b13 G13.out.lt)
  have G15 := Lib.hid g15
  have HB13 := Lib.hid (HB12.out.trans (b13.mono HB12.out.size))
  clear g15 b13 HB12
  generalize w12.heap.size = n15 at *
  try simp only [List.append_eq, List.cons_append, List.nil_append]
  refine wp_region_orgc [(0, true), (1, true), (2, true), (3, true), (4, true), (5, true), (6, true), (7, true), (8, true), (9, true), (11, true), (10, false), (12, false), (13, true), (14, true), (15, true), (16, true), (17, true), (18, true), (19, true), (20, true), (21, true), (22, true), (23, true), (24, true), (25, true), (26, true), (27, true), (29, true), (30, true), (28, false), (31, false), (32, true), (33, true), (34, true), (35, true), (36, true), (38, true), (39, true), (37, false), (40, false), (41, true), (42, true), (43, true), (44, true), (45, true), (47, true), (48, true), (46, false), (49, false), (50, true), (51, true), (52, true), (53, true), (55, true), (56, true), (57, true), (54, false), (58, true), (59, true), (60, true)] opsS chkS (by kernel_rfl) (by kernel_rfl) (by kernel_rfl) ?_
  simp only [pickOrs, List.getElem?_cons_zero, List.getElem?_cons_succ]
  replace G9 := Lib.hid G9.out.drew
  replace G10 := Lib.hid G10.out.drew
  replace G11 := Lib.hid G11.out.drew
  replace G12 := Lib.hid G12.out.drew
  replace G13 := Lib.hid G13.out.drew
  replace G15 := Lib.hid G15.out.drew
  replace HB13 := Lib.hid HB13.out.drew
  generalize w13.drew = v0 at *
  have kT : (txt.toList == txt.toList) = true := by simp
  have kC : (cc == cc) = true := by simp
  have kW : (wd == wd) = true := by simp
  have kO : (ok == ok) = true := by simp
  have kZ : (zb == zb) = true := by simp
  refine org_pure (by rfl) (fun w' hw => load25 (.tmp 9) (by rfl) n9 (by rfl) cx RX.out _ G9.out w' hw) ?_
  try simp only [Act.put, List.setIfInBounds_toArray, List.set_cons_zero, List.set_cons_succ]
  refine org_pure (by rfl) (fun w' hw => load27 (.tmp 11) (by rfl) n11 (by rfl) cx RX.out _ G11.out w' hw) ?_
  try simp only [Act.put, List.setIfInBounds_toArray, List.set_cons_zero, List.set_cons_succ]
  refine org_pure (by rfl) (fun w' hw => eql_at (.tmp 52) (.tmp 53) _ (by rfl) cx.toArray cx.toArray (by rfl) (by rfl) true w' (E1.out w')) ?_
  try simp only [Act.put, List.setIfInBounds_toArray, List.set_cons_zero, List.set_cons_succ]
  refine org_pure (v := ?_) (by rfl) ?_ ?_
  rotate_left
  · intro w' hw; go_simp; try with_reducible rfl
  try simp only [Act.put, List.setIfInBounds_toArray, List.set_cons_zero, List.set_cons_succ]
  refine org_pure (by rfl) (fun w' hw => load25 (.tmp 10) (by rfl) (n9 + 1) (by rfl) cy RY.out _ G10.out w' hw) ?_
  try simp only [Act.put, List.setIfInBounds_toArray, List.set_cons_zero, List.set_cons_succ]
  refine org_pure (by rfl) (fun w' hw => load27 (.tmp 12) (by rfl) (n11 + 1) (by rfl) cy RY.out _ G12.out w' hw) ?_
  try simp only [Act.put, List.setIfInBounds_toArray, List.set_cons_zero, List.set_cons_succ]
  refine org_pure (by rfl) (fun w' hw => eql_at (.tmp 56) (.tmp 57) _ (by rfl) cy.toArray cy.toArray (by rfl) (by rfl) true w' (E2.out w')) ?_
  try simp only [Act.put, List.setIfInBounds_toArray, List.set_cons_zero, List.set_cons_succ]
  refine org_pure (v := ?_) (by rfl) ?_ ?_
  rotate_left
  · intro w' hw; go_simp; try with_reducible rfl
  try simp only [Act.put, List.setIfInBounds_toArray, List.set_cons_zero, List.set_cons_succ]
  refine org_pure (v := ?_) (by rfl) ?_ ?_
  rotate_left
  · intro w' hw; go_simp; try with_reducible rfl
  try simp only [Act.put, List.setIfInBounds_toArray, List.set_cons_zero, List.set_cons_succ]
  refine org_pure (by rfl) (fun w' hw => load25 (.tmp 9) (by rfl) n9 (by rfl) cx RX.out _ G9.out w' hw) ?_
  try simp only [Act.put, List.setIfInBounds_toArray, List.set_cons_zero, List.set_cons_succ]
  refine org_pure (by rfl) (fun w' hw => load27 (.tmp 11) (by rfl) n11 (by rfl) cx RX.out _ G11.out w' hw) ?_
  try simp only [Act.put, List.setIfInBounds_toArray, List.set_cons_zero, List.set_cons_succ]
  refine org_step (by rfl) (fun K hK => ?_)
  go_wp2_with fail
  (with_reducible refine (M1.out _).mono ?_)
  rintro e v1 ⟨rfl, hb⟩
  have D1 := Lib.hid hb
  replace G9 := Lib.hid (G9.out.keep hb G9.out.lt)
  replace G10 := Lib.hid (G10.out.keep hb G10.out.lt)
  replace G11 := Lib.hid (G11.out.keep hb G11.out.lt)
  replace G12 := Lib.hid (G12.out.keep hb G12.out.lt)
  replace G13 := Lib.hid (G13.out.keep hb G13.out.lt)
  replace G15 := Lib.hid (G15.out.keep hb G15.out.lt)
  replace HB13 := Lib.hid (HB13.out.trans (hb.mono HB13.out.size))
  clear hb
  go_wp2_with fail
  refine ⟨D1.out, ?_⟩
  clear D1
  try simp only [Act.put, List.setIfInBounds_toArray, List.set_cons_zero, List.set_cons_succ]
  refine org_step (by rfl) (fun K hK => ?_)
  go_wp2_with fail
  (with_reducible refine (M2.out _).mono ?_)
  rintro e v2 ⟨rfl, hb⟩
  have D2 := Lib.hid hb
  replace G9 := Lib.hid (G9.out.keep hb G9.out.lt)
  replace G10 := Lib.hid (G10.out.keep hb G10.out.lt)
  replace G11 := Lib.hid (G11.out.keep hb G11.out.lt)
  replace G12 := Lib.hid (G12.out.keep hb G12.out.lt)
  replace G13 := Lib.hid (G13.out.keep hb G13.out.lt)
  replace G15 := Lib.hid (G15.out.keep hb G15.out.lt)
  replace HB13 := Lib.hid (HB13.out.trans (hb.mono HB13.out.size))
  clear hb
  go_wp2_with fail
  refine ⟨D2.out, ?_⟩
  clear D2
  try simp only [Act.put, List.setIfInBounds_toArray, List.set_cons_zero, List.set_cons_succ]
  refine org_pure (v := ?_) (by rfl) ?_ ?_
  rotate_left
  · intro w' hw; go_simp; try with_reducible rfl
  try simp only [Act.put, List.setIfInBounds_toArray, List.set_cons_zero, List.set_cons_succ]
  refine org_pure (v := ?_) (by rfl) ?_ ?_
  rotate_left
  · intro w' hw; go_simp; try with_reducible rfl
  try simp only [Act.put, List.setIfInBounds_toArray, List.set_cons_zero, List.set_cons_succ]
  refine org_pure (v := ?_) (by rfl) ?_ ?_
  rotate_left
  · intro w' hw; go_simp; try with_reducible rfl
  try simp only [Act.put, List.setIfInBounds_toArray, List.set_cons_zero, List.set_cons_succ]
  refine org_pure (by rfl) (fun w' hw => load25 (.tmp 13) (by rfl) n13 (by rfl) cz RZ.out _ G13.out w' hw) ?_
  try simp only [Act.put, List.setIfInBounds_toArray, List.set_cons_zero, List.set_cons_succ]
  refine org_pure (by rfl) (fun w' hw => load27 (.tmp 15) (by rfl) n15 (by rfl) cz RZ.out _ G15.out w' hw) ?_
  try simp only [Act.put, List.setIfInBounds_toArray, List.set_cons_zero, List.set_cons_succ]
  refine org_pure (by rfl) (fun w' hw => eql_at (.tmp 68) (.tmp 69) _ (by rfl) cz.toArray cz.toArray (by rfl) (by rfl) true w' (E3.out w')) ?_
  try simp only [Act.put, List.setIfInBounds_toArray, List.set_cons_zero, List.set_cons_succ]
  refine org_pure (v := ?_) (by rfl) ?_ ?_
  rotate_left
  · intro w' hw; go_simp; try with_reducible rfl
  try simp only [Act.put, List.setIfInBounds_toArray, List.set_cons_zero, List.set_cons_succ]
  refine org_pure (v := ?_) (by rfl) ?_ ?_
  rotate_left
  · intro w' hw; go_simp; try with_reducible rfl
  try simp only [Act.put, List.setIfInBounds_toArray, List.set_cons_zero, List.set_cons_succ]
  refine org_pure (v := ?_) (by rfl) ?_ ?_
  rotate_left
  · intro w' hw; go_simp; try with_reducible rfl
  try simp only [Act.put, List.setIfInBounds_toArray, List.set_cons_zero, List.set_cons_succ]
  refine org_pure (v := ?_) (by rfl) ?_ ?_
  rotate_left
  · intro w' hw; go_simp; try with_reducible rfl
  try simp only [Act.put, List.setIfInBounds_toArray, List.set_cons_zero, List.set_cons_succ]
  refine org_pure (v := ?_) (by rfl) ?_ ?_
  rotate_left
  · intro w' hw; go_simp; try with_reducible rfl
  try simp only [Act.put, List.setIfInBounds_toArray, List.set_cons_zero, List.set_cons_succ]
  refine org_pure (v := ?_) (by rfl) ?_ ?_
  rotate_left
  · intro w' hw; go_simp; try with_reducible rfl
  try simp only [Act.put, List.setIfInBounds_toArray, List.set_cons_zero, List.set_cons_succ]
  refine org_pure (v := ?_) (by rfl) ?_ ?_
  rotate_left
  · intro w' hw; go_simp; try with_reducible rfl
  try simp only [Act.put, List.setIfInBounds_toArray, List.set_cons_zero, List.set_cons_succ]
  refine org_pure (by rfl) (fun w' hw => load25 (.tmp 9) (by rfl) n9 (by rfl) cx RX.out _ G9.out w' hw) ?_
  try simp only [Act.put, List.setIfInBounds_toArray, List.set_cons_zero, List.set_cons_succ]
  refine org_pure (by rfl) (fun w' hw => load25 (.tmp 10) (by rfl) (n9 + 1) (by rfl) cy RY.out _ G10.out w' hw) ?_
  try simp only [Act.put, List.setIfInBounds_toArray, List.set_cons_zero, List.set_cons_succ]
  refine org_pure (by rfl) (fun w' hw => load27 (.tmp 11) (by rfl) n11 (by rfl) cx RX.out _ G11.out w' hw) ?_
  try simp only [Act.put, List.setIfInBounds_toArray, List.set_cons_zero, List.set_cons_succ]
  refine org_pure (by rfl) (fun w' hw => load27 (.tmp 12) (by rfl) (n11 + 1) (by rfl) cy RY.out _ G12.out w' hw) ?_
  try simp only [Act.put, List.setIfInBounds_toArray, List.set_cons_zero, List.set_cons_succ]
  refine org_step (by rfl) (fun K hK => ?_)
  go_wp2_with fail
  (with_reducible refine (M3.out _).mono ?_)
  rintro e v3 ⟨rfl, hb⟩
  have D3 := Lib.hid hb
  replace G9 := Lib.hid (G9.out.keep hb G9.out.lt)
  replace G10 := Lib.hid (G10.out.keep hb G10.out.lt)
  replace G11 := Lib.hid (G11.out.keep hb G11.out.lt)
  replace G12 := Lib.hid (G12.out.keep hb G12.out.lt)
  replace G13 := Lib.hid (G13.out.keep hb G13.out.lt)
  replace G15 := Lib.hid (G15.out.keep hb G15.out.lt)
  replace HB13 := Lib.hid (HB13.out.trans (hb.mono HB13.out.size))
  clear hb
  go_wp2_with fail
  refine ⟨D3.out, ?_⟩
  clear D3
  try simp only [Act.put, List.setIfInBounds_toArray, List.set_cons_zero, List.set_cons_succ]
  refine org_step (by rfl) (fun K hK => ?_)
  go_wp2_with fail
  (with_reducible refine (M4.out _).mono ?_)
  rintro e v4 ⟨rfl, hb⟩
  have D4 := Lib.hid hb
  replace G9 := Lib.hid (G9.out.keep hb G9.out.lt)
  replace G10 := Lib.hid (G10.out.keep hb G10.out.lt)
  replace G11 := Lib.hid (G11.out.keep hb G11.out.lt)
  replace G12 := Lib.hid (G12.out.keep hb G12.out.lt)
  replace G13 := Lib.hid (G13.out.keep hb G13.out.lt)
  replace G15 := Lib.hid (G15.out.keep hb G15.out.lt)
  replace HB13 := Lib.hid (HB13.out.trans (hb.mono HB13.out.size))
  clear hb
  go_wp2_with fail
  refine ⟨D4.out, ?_⟩
  clear D4
  try simp only [Act.put, List.setIfInBounds_toArray, List.set_cons_zero, List.set_cons_succ]
  refine org_pure (v := ?_) (by rfl) ?_ ?_
  rotate_left
  · intro w' hw; go_simp; try with_reducible rfl
  try simp only [Act.put, List.setIfInBounds_toArray, List.set_cons_zero, List.set_cons_succ]
  refine org_pure (v := ?_) (by rfl) ?_ ?_
  rotate_left
  · intro w' hw; go_simp; try with_reducible rfl
  try simp only [Act.put, List.setIfInBounds_toArray, List.set_cons_zero, List.set_cons_succ]
  refine org_pure (v := ?_) (by rfl) ?_ ?_
  rotate_left
  · intro w' hw; go_simp; try with_reducible rfl
  try simp only [Act.put, List.setIfInBounds_toArray, List.set_cons_zero, List.set_cons_succ]
  refine org_pure (by rfl) (fun w' hw => load25 (.tmp 9) (by rfl) n9 (by rfl) cx RX.out _ G9.out w' hw) ?_
  try simp only [Act.put, List.setIfInBounds_toArray, List.set_cons_zero, List.set_cons_succ]
  refine org_pure (by rfl) (fun w' hw => load25 (.tmp 10) (by rfl) (n9 + 1) (by rfl) cy RY.out _ G10.out w' hw) ?_
  try simp only [Act.put, List.setIfInBounds_toArray, List.set_cons_zero, List.set_cons_succ]
  refine org_pure (by rfl) (fun w' hw => load27 (.tmp 11) (by rfl) n11 (by rfl) cx RX.out _ G11.out w' hw) ?_
  try simp only [Act.put, List.setIfInBounds_toArray, List.set_cons_zero, List.set_cons_succ]
  refine org_pure (by rfl) (fun w' hw => load27 (.tmp 12) (by rfl) (n11 + 1) (by rfl) cy RY.out _ G12.out w' hw) ?_
  try simp only [Act.put, List.setIfInBounds_toArray, List.set_cons_zero, List.set_cons_succ]
  refine org_step (by rfl) (fun K hK => ?_)
  go_wp2_with fail
  (with_reducible refine (M5.out _).mono ?_)
  rintro e v5 ⟨rfl, hb⟩
  have D5 := Lib.hid hb
  replace G9 := Lib.hid (G9.out.keep hb G9.out.lt)
  replace G10 := Lib.hid (G10.out.keep hb G10.out.lt)
  replace G11 := Lib.hid (G11.out.keep hb G11.out.lt)
  replace G12 := Lib.hid (G12.out.keep hb G12.out.lt)
  replace G13 := Lib.hid (G13.out.keep hb G13.out.lt)
  replace G15 := Lib.hid (G15.out.keep hb G15.out.lt)
  replace HB13 := Lib.hid (HB13.out.trans (hb.mono HB13.out.size))
  clear hb
  go_wp2_with fail
  refine ⟨D5.out, ?_⟩
  clear D5
  try simp only [Act.put, List.setIfInBounds_toArray, List.set_cons_zero, List.set_cons_succ]
  refine org_step (by rfl) (fun K hK => ?_)
  go_wp2_with fail
  (with_reducible refine (M6.out _).mono ?_)
  rintro e v6 ⟨rfl, hb⟩
  have D6 := Lib.hid hb
  replace G9 := Lib.hid (G9.out.keep hb G9.out.lt)
  replace G10 := Lib.hid (G10.out.keep hb G10.out.lt)
  replace G11 := Lib.hid (G11.out.keep hb G11.out.lt)
  replace G12 := Lib.hid (G12.out.keep hb G12.out.lt)
  replace G13 := Lib.hid (G13.out.keep hb G13.out.lt)
  replace G15 := Lib.hid (G15.out.keep hb G15.out.lt)
  replace HB13 := Lib.hid (HB13.out.trans (hb.mono HB13.out.size))
  clear hb
  go_wp2_with fail
  refine ⟨D6.out, ?_⟩
  clear D6
  try simp only [Act.put, List.setIfInBounds_toArray, List.set_cons_zero, List.set_cons_succ]
  refine org_pure (by rfl) (fun w' hw => eql_at (.tmp 89) (.tmp 92) _ (by rfl) cv.toArray cv.toArray (by rfl) (by rfl) true w' (E4.out w')) ?_
  try simp only [Act.put, List.setIfInBounds_toArray, List.set_cons_zero, List.set_cons_succ]
  refine org_pure (v := ?_) (by rfl) ?_ ?_
  rotate_left
  · intro w' hw; go_simp; try with_reducible rfl
  try simp only [Act.put, List.setIfInBounds_toArray, List.set_cons_zero, List.set_cons_succ]
  refine org_pure (v := ?_) (by rfl) ?_ ?_
  rotate_left
  · intro w' hw; go_simp; try with_reducible rfl
  try simp only [Act.put, List.setIfInBounds_toArray, List.set_cons_zero, List.set_cons_succ]
  refine org_pure (by rfl) (fun w' hw => load25 (.tmp 9) (by rfl) n9 (by rfl) cx RX.out _ G9.out w' hw) ?_
  try simp only [Act.put, List.setIfInBounds_toArray, List.set_cons_zero, List.set_cons_succ]
  refine org_pure (v := ?_) (by rfl) ?_ ?_
  rotate_left
  · intro w' hw; go_simp; try with_reducible rfl
  try simp only [Act.put, List.setIfInBounds_toArray, List.set_cons_zero, List.set_cons_succ]
  refine org_pure (by rfl) (fun w' hw => load27 (.tmp 11) (by rfl) n11 (by rfl) cx RX.out _ G11.out w' hw) ?_
  try simp only [Act.put, List.setIfInBounds_toArray, List.set_cons_zero, List.set_cons_succ]
  refine org_pure (v := ?_) (by rfl) ?_ ?_
  rotate_left
  · intro w' hw; go_simp; try with_reducible rfl
  try simp only [Act.put, List.setIfInBounds_toArray, List.set_cons_zero, List.set_cons_succ]
  refine org_step (by rfl) (fun K hK => ?_)
  go_wp2_with fail
  (with_reducible refine (M7.out _).mono ?_)
  rintro e v7 ⟨rfl, hb⟩
  have D7 := Lib.hid hb
  replace G9 := Lib.hid (G9.out.keep hb G9.out.lt)
  replace G10 := Lib.hid (G10.out.keep hb G10.out.lt)
  replace G11 := Lib.hid (G11.out.keep hb G11.out.lt)
  replace G12 := Lib.hid (G12.out.keep hb G12.out.lt)
  replace G13 := Lib.hid (G13.out.keep hb G13.out.lt)
  replace G15 := Lib.hid (G15.out.keep hb G15.out.lt)
  replace HB13 := Lib.hid (HB13.out.trans (hb.mono HB13.out.size))
  clear hb
  go_wp2_with fail
  refine ⟨D7.out, ?_⟩
  clear D7
  try simp only [Act.put, List.setIfInBounds_toArray, List.set_cons_zero, List.set_cons_succ]
  refine org_step (by rfl) (fun K hK => ?_)
  go_wp2_with fail
  (with_reducible refine (M8.out _).mono ?_)
  rintro e v8 ⟨rfl, hb⟩
  have D8 := Lib.hid hb
  replace G9 := Lib.hid (G9.out.keep hb G9.out.lt)
  replace G10 := Lib.hid (G10.out.keep hb G10.out.lt)
  replace G11 := Lib.hid (G11.out.keep hb G11.out.lt)
  replace G12 := Lib.hid (G12.out.keep hb G12.out.lt)
  replace G13 := Lib.hid (G13.out.keep hb G13.out.lt)
  replace G15 := Lib.hid (G15.out.keep hb G15.out.lt)
  replace HB13 := Lib.hid (HB13.out.trans (hb.mono HB13.out.size))
  clear hb
  go_wp2_with fail
  refine ⟨D8.out, ?_⟩
  clear D8
  try simp only [Act.put, List.setIfInBounds_toArray, List.set_cons_zero, List.set_cons_succ]
  refine org_pure (v := ?_) (by rfl) ?_ ?_
  rotate_left
  · intro w' hw; go_simp; try with_reducible rfl
  try simp only [Act.put, List.setIfInBounds_toArray, List.set_cons_zero, List.set_cons_succ]
  refine org_pure (v := ?_) (by rfl) ?_ ?_
  rotate_left
  · intro w' hw; go_simp; try with_reducible rfl
  try simp only [Act.put, List.setIfInBounds_toArray, List.set_cons_zero, List.set_cons_succ]
  refine org_pure (v := ?_) (by rfl) ?_ ?_
  rotate_left
  · intro w' hw; go_simp; try with_reducible rfl
  try simp only [Act.put, List.setIfInBounds_toArray, List.set_cons_zero, List.set_cons_succ]
  refine org_pure (by rfl) (fun w' hw => load25 (.tmp 9) (by rfl) n9 (by rfl) cx RX.out _ G9.out w' hw) ?_
  try simp only [Act.put, List.setIfInBounds_toArray, List.set_cons_zero, List.set_cons_succ]
  refine org_pure (by rfl) (fun w' hw => load27 (.tmp 11) (by rfl) n11 (by rfl) cx RX.out _ G11.out w' hw) ?_
  try simp only [Act.put, List.setIfInBounds_toArray, List.set_cons_zero, List.set_cons_succ]
  refine org_pure (by rfl) (fun w' hw => build0 (by rfl) w') ?_
  try simp only [Act.put, List.setIfInBounds_toArray, List.set_cons_zero, List.set_cons_succ]
  refine org_pure (by rfl) (fun w' hw => eql_at (.tmp 107) (.tmp 108) _ (by rfl) cx.toArray zrw (by rfl) (by rfl) zb w' (E5.out w')) ?_
  try simp only [Act.put, List.setIfInBounds_toArray, List.set_cons_zero, List.set_cons_succ]
  refine org_step (by rfl) (fun K hK => ?_)
  go_wp2_with fail
  (with_reducible refine (M9.out _).mono ?_)
  rintro e v9 ⟨rfl, hb⟩
  have D9 := Lib.hid hb
  replace G9 := Lib.hid (G9.out.keep hb G9.out.lt)
  replace G10 := Lib.hid (G10.out.keep hb G10.out.lt)
  replace G11 := Lib.hid (G11.out.keep hb G11.out.lt)
  replace G12 := Lib.hid (G12.out.keep hb G12.out.lt)
  replace G13 := Lib.hid (G13.out.keep hb G13.out.lt)
  replace G15 := Lib.hid (G15.out.keep hb G15.out.lt)
  replace HB13 := Lib.hid (HB13.out.trans (hb.mono HB13.out.size))
  clear hb
  go_wp2_with fail
  refine ⟨D9.out, ?_⟩
  clear D9
  try simp only [Act.put, List.setIfInBounds_toArray, List.set_cons_zero, List.set_cons_succ]
  refine org_pure (v := ?_) (by rfl) ?_ ?_
  rotate_left
  · intro w' hw; go_simp; try with_reducible rfl
  try simp only [Act.put, List.setIfInBounds_toArray, List.set_cons_zero, List.set_cons_succ]
  refine org_pure (v := ?_) (by rfl) ?_ ?_
  rotate_left
  · intro w' hw; go_simp; try with_reducible rfl
  try simp only [Act.put, List.setIfInBounds_toArray, List.set_cons_zero, List.set_cons_succ]
  refine org_pure (v := ?_) (by rfl) ?_ ?_
  rotate_left
  · intro w' hw; go_simp; try with_reducible rfl
  try simp only [Act.put, List.setIfInBounds_toArray, List.set_cons_zero, List.set_cons_succ]
  refine org_nil ?_
  go_wp2_with fail
  go_ret
  exact ⟨rfl, HB13.out⟩
end Go.Proofs.YtgaphplndpdhaaaDoor
