/- Contracts: package set's least, merge with each of its three keeps, Minus, Both, Either. Condition: at most 10^6 sums each. -/
import Derived.Test.YtnkcehmgagpadaaDoorGp9
import Derived.Test.YtnkcehmgagpadaaDoorGp5
namespace Go.Proofs.YtnkcehmgagpadaaDoor
open Go.RowKit
theorem results_three {fn : Func} {p u v : Tmp} {ty : TypeId} (h : fn.results = #[.cell p ty, .tmp u, .tmp v]) (tmps : Array Value) (w : World) (g : Nat) (t : TypeId) (cs : Array Value) (fr : Nat × Nat)
    (hp : tmps.getD p undef = .pointer (some ⟨g, 0, none⟩)) (hg : w.heap[g]? = some (.cells cs t fr)) (x y : Value) (hx : tmps.getD u undef = x) (hy : tmps.getD v undef = y)
    (hu : Tryd.prog.underlying ty = some (.array 32 5)) (hi : (Tryd.prog.info? ty).map (·.size) = some cs.size) :
    (results fn tmps).run Tryd.prog w = .ok (.tuple #[.agg cs, x, y]) w := by
  have hp' : tmps[p]?.getD undef = .pointer (some ⟨g, 0, none⟩) := by simpa using hp
  have hx' : tmps[u]?.getD undef = x := by simpa using hx
  have hy' : tmps[v]?.getD undef = y := by simpa using hy
  simp [results, h, hp', hx', hy', asAddr, run_loadVar_row w g t ty cs fr _ hg hu rfl hi]
def zrU : List Value := List.replicate 32 (.int .u8 0)
theorem Us.parts {w : World} {q : Option Addr} {n c : Nat} {L : List Su} (hn : n = L.length) (hc : L.length ≤ c) (hq : q = none → c = 0) (hs : Sees w w.heap.size q (rowU L)) : Us w (.slice q n c) L := by
  subst hn; exact ⟨q, c, rfl, hc, hq, hs⟩
def tlQ (q : Option Addr) (c : Nat) : Option Addr := if c = 1 then q else q.map (·.add 32)
theorem cut1_su (T E : TypeId) (hT : ElT T E) (q : Option Addr) (n c : Nat) (hk : 1 ≤ n) (w : World) :
    (Instr.slice T (.slice q n c) (some (.int .i64 1)) none none).run Tryd.prog w = .ok (.slice (tlQ q c) (n - 1) (c - 1)) w := by
  have := cut_su T E hT q n c 1 hk w
  rw [Nat.one_mul] at this
  exact this
set_option maxHeartbeats 4000000 in
set_option maxRecDepth 100000 in
theorem least_left (w : World) (A B : List Su) (qa qb : Option Addr) (ca cb : Nat) (hA : A.length = 0) (y : Su) (a : Addr) (hqb : qb = some a) (hB : 0 < B.length) (hy : ∀ w', Below w.heap.size w w' → ∀ j u, (encU y)[j]? = some u → w'.cell? (a.add j) = some u) :
    Calls Tryd.prog 68 #[.slice qa A.length ca, .slice qb B.length cb] w fun e w' => e = .returned (.tuple #[aggU y, .bool false, .bool true]) ∧ Below w.heap.size w w' := by
  subst hqb
  have hA0 : (A.length : Int) = 0 := by omega
  have hB0 : (0 : Int) < (B.length : Int) := by omega
  have HY0 := Lib.hid hy
  clear hy
  have hR := Lib.hid ((Below.refl w.heap.size w).alloc (Nat.le_refl _) (.cells zrU.toArray 42))
  have HZ : Hid (Has (w.alloc (.cells zrU.toArray 42)) w.heap.size 42 zrU) := Lib.hid (Has.made' w _ _ _ rfl)
  go_enter Tryd.func68, Tryd.ntmps68
  have HY := Lib.hid (HY0.out _ hR.out)
  have hz : a.add (0 * 32) = a := by simp [Addr.add]
  go_wp2_with (first | (refine wpList_load_su rfl 42 (.tmp 13) rfl _ rfl elSum.2.1 szSum y HY.out ?_) | (refine wpList_store_row rfl 42 (.tmp 4) (.tmp 14) rfl w.heap.size (encU y).toArray rfl rfl 42 _ HZ.out (by rw [encU_size]; exact szSum) (by rw [encU_size]; rfl) (encU_all y) ?_))
  refine bodyPost_ret (v := .tuple #[aggU y, .bool false, .bool true]) ?_ rfl ⟨rfl, below_row hR.out (Nat.le_refl _) _⟩
  exact results_three rfl _ _ w.heap.size 42 _ (0, 0) rfl (Has.rowl HZ.out _) _ _ rfl rfl Tryd.underlying42 (by rw [encU_size]; exact szSum)
set_option maxHeartbeats 4000000 in
set_option maxRecDepth 100000 in
theorem least_right (w : World) (A B : List Su) (qa qb : Option Addr) (ca cb : Nat) (hA : 0 < A.length) (x : Su) (a : Addr) (hqa : qa = some a) (hB : B.length = 0) (hx : ∀ w', Below w.heap.size w w' → ∀ j u, (encU x)[j]? = some u → w'.cell? (a.add j) = some u) :
    Calls Tryd.prog 68 #[.slice qa A.length ca, .slice qb B.length cb] w fun e w' => e = .returned (.tuple #[aggU x, .bool true, .bool false]) ∧ Below w.heap.size w w' := by
  subst hqa
  have hA0 : ¬ (A.length : Int) = 0 := by omega
  have hA1 : (0 : Int) < (A.length : Int) := by omega
  have hB0 : (B.length : Int) = 0 := by omega
  have HX0 := Lib.hid hx
  clear hx
  have hR := Lib.hid ((Below.refl w.heap.size w).alloc (Nat.le_refl _) (.cells zrU.toArray 42))
  have HZ : Hid (Has (w.alloc (.cells zrU.toArray 42)) w.heap.size 42 zrU) := Lib.hid (Has.made' w _ _ _ rfl)
  go_enter Tryd.func68, Tryd.ntmps68
  have HX := Lib.hid (HX0.out _ hR.out)
  go_wp2_with (first | (refine wpList_load_su rfl 42 (.tmp 20) rfl _ rfl elSum.2.1 szSum x HX.out ?_) | (refine wpList_store_row rfl 42 (.tmp 4) (.tmp 21) rfl w.heap.size (encU x).toArray rfl rfl 42 _ HZ.out (by rw [encU_size]; exact szSum) (by rw [encU_size]; rfl) (encU_all x) ?_))
  refine bodyPost_ret (v := .tuple #[aggU x, .bool true, .bool false]) ?_ rfl ⟨rfl, below_row hR.out (Nat.le_refl _) _⟩
  exact results_three rfl _ _ w.heap.size 42 _ (0, 0) rfl (Has.rowl HZ.out _) _ _ rfl rfl Tryd.underlying42 (by rw [encU_size]; exact szSum)
set_option maxHeartbeats 4000000 in
set_option maxRecDepth 100000 in
theorem least_lt (w : World) (A B : List Su) (qa qb : Option Addr) (ca cb : Nat) (hA : 0 < A.length) (hB : 0 < B.length) (x y : Su) (a b : Addr) (hqa : qa = some a) (hqb : qb = some b) (hc : cmpU x y = -1) (hx : ∀ w', Below w.heap.size w w' → ∀ j u, (encU x)[j]? = some u → w'.cell? (a.add j) = some u) (hy : ∀ w', Below w.heap.size w w' → ∀ j u, (encU y)[j]? = some u → w'.cell? (b.add j) = some u) :
    Calls Tryd.prog 68 #[.slice qa A.length ca, .slice qb B.length cb] w fun e w' => e = .returned (.tuple #[aggU x, .bool true, .bool false]) ∧ Below w.heap.size w w' := by
  subst hqa hqb
  have hA0 : ¬ (A.length : Int) = 0 := by omega
  have hA1 : (0 : Int) < (A.length : Int) := by omega
  have hB0 : ¬ (B.length : Int) = 0 := by omega
  have hB1 : (0 : Int) < (B.length : Int) := by omega
  have HX0 := Lib.hid hx
  have HY0 := Lib.hid hy
  have HC := Lib.hid (fun w1 => cmpS_any x y w1)
  rw [hc] at HC
  clear hx hy hc
  have hR := Lib.hid ((Below.refl w.heap.size w).alloc (Nat.le_refl _) (.cells zrU.toArray 42))
  have HZ : Hid (Has (w.alloc (.cells zrU.toArray 42)) w.heap.size 42 zrU) := Lib.hid (Has.made' w _ _ _ rfl)
  go_enter Tryd.func68, Tryd.ntmps68
  clear hR HZ
  go_wp2_with fail
  generalize hw0 : w.alloc _ = w0
  have hR : Hid (Below w.heap.size w w0) := Lib.hid (by subst hw0; exact (Below.refl _ _).alloc (Nat.le_refl _) _)
  have HZ : Hid (Has w0 w.heap.size 42 zrU) := Lib.hid (by subst hw0; exact Has.made' _ _ _ _ rfl)
  clear hw0
  refine wp_region_org [(0, true), (1, true), (2, true), (3, true), (4, true), (5, true), (6, false), (7, true)] (by kernel_rfl) (by kernel_rfl) (by kernel_rfl) ?_
  replace hR := Lib.hid hR.out.drew
  replace HZ := Lib.hid HZ.out.drew
  generalize w0.drew = wd at *
  simp only [pickOrs, List.getElem?_cons_zero, List.getElem?_cons_succ]
  refine org_pure (v := ?_) (by kernel_rfl) ?_ ?_
  rotate_left
  · intro w' hv; clear hv; go_simp; try with_reducible rfl
  try simp only [Act.put, List.setIfInBounds_toArray, List.set_cons_zero, List.set_cons_succ]
  refine org_pure (v := ?_) (by kernel_rfl) ?_ ?_
  rotate_left
  · intro w' hv; clear hv; go_simp; try with_reducible rfl
  try simp only [Act.put, List.setIfInBounds_toArray, List.set_cons_zero, List.set_cons_succ]
  refine org_pure (by kernel_rfl) (fun w' hv => load_su 42 (.tmp 23) rfl _ rfl elSum.2.1 szSum x ((fun w' hv => HX0.out w' (hR.out.trans (Below.mono hv hR.out.size))) w' hv)) ?_
  try simp only [Act.put, List.setIfInBounds_toArray, List.set_cons_zero, List.set_cons_succ]
  refine org_pure (v := ?_) (by kernel_rfl) ?_ ?_
  rotate_left
  · intro w' hv; clear hv; go_simp; try with_reducible rfl
  try simp only [Act.put, List.setIfInBounds_toArray, List.set_cons_zero, List.set_cons_succ]
  refine org_pure (v := ?_) (by kernel_rfl) ?_ ?_
  rotate_left
  · intro w' hv; clear hv; go_simp; try with_reducible rfl
  try simp only [Act.put, List.setIfInBounds_toArray, List.set_cons_zero, List.set_cons_succ]
  refine org_pure (by kernel_rfl) (fun w' hv => load_su 42 (.tmp 26) rfl _ rfl elSum.2.1 szSum y ((fun w' hv => HY0.out w' (hR.out.trans (Below.mono hv hR.out.size))) w' hv)) ?_
  try simp only [Act.put, List.setIfInBounds_toArray, List.set_cons_zero, List.set_cons_succ]
  refine org_step (by kernel_rfl) (fun K hK => ?_)
  go_wp2_with fail
  refine (HC.out _).mono ?_
  rintro e wx ⟨rfl, hb⟩
  have HE := Lib.hid hb
  clear hb
  refine hK _ _ ⟨HE.out, ?_⟩
  clear hK
  try simp only [Act.put, List.setIfInBounds_toArray, List.set_cons_zero, List.set_cons_succ]
  refine org_pure (v := ?_) (by kernel_rfl) ?_ ?_
  rotate_left
  · intro w' hv; clear hv; go_simp; try with_reducible rfl
  try simp only [Act.put, List.setIfInBounds_toArray, List.set_cons_zero, List.set_cons_succ]
  refine org_nil ?_
  replace HZ := Lib.hid (HZ.out.keep HE.out HZ.out.lt)
  replace hR := Lib.hid (hR.out.trans (HE.out.mono hR.out.size))
  have HS := Lib.hid (HX0.out _ hR.out)
  go_wp2_with (first | (refine wpList_load_su rfl 42 (.tmp 32) rfl _ rfl elSum.2.1 szSum x HS.out ?_) | (refine wpList_store_row rfl 42 (.tmp 4) (.tmp 33) rfl w.heap.size (encU x).toArray rfl rfl 42 _ HZ.out (by rw [encU_size]; exact szSum) (by rw [encU_size]; rfl) (encU_all x) ?_))
  refine bodyPost_ret (v := .tuple #[aggU x, .bool true, .bool false]) ?_ rfl ⟨rfl, below_row hR.out (Nat.le_refl _) _⟩
  exact results_three rfl _ _ w.heap.size 42 _ (0, 0) rfl (Has.rowl HZ.out _) _ _ rfl rfl Tryd.underlying42 (by rw [encU_size]; exact szSum)
set_option maxHeartbeats 4000000 in
set_option maxRecDepth 100000 in
theorem least_eq (w : World) (A B : List Su) (qa qb : Option Addr) (ca cb : Nat) (hA : 0 < A.length) (hB : 0 < B.length) (x y : Su) (a b : Addr) (hqa : qa = some a) (hqb : qb = some b) (hc : cmpU x y = 0) (hx : ∀ w', Below w.heap.size w w' → ∀ j u, (encU x)[j]? = some u → w'.cell? (a.add j) = some u) (hy : ∀ w', Below w.heap.size w w' → ∀ j u, (encU y)[j]? = some u → w'.cell? (b.add j) = some u) :
    Calls Tryd.prog 68 #[.slice qa A.length ca, .slice qb B.length cb] w fun e w' => e = .returned (.tuple #[aggU x, .bool true, .bool true]) ∧ Below w.heap.size w w' := by
  subst hqa hqb
  have hA0 : ¬ (A.length : Int) = 0 := by omega
  have hA1 : (0 : Int) < (A.length : Int) := by omega
  have hB0 : ¬ (B.length : Int) = 0 := by omega
  have hB1 : (0 : Int) < (B.length : Int) := by omega
  have HX0 := Lib.hid hx
  have HY0 := Lib.hid hy
  have HC := Lib.hid (fun w1 => cmpS_any x y w1)
  rw [hc] at HC
  clear hx hy hc
  have hR := Lib.hid ((Below.refl w.heap.size w).alloc (Nat.le_refl _) (.cells zrU.toArray 42))
  have HZ : Hid (Has (w.alloc (.cells zrU.toArray 42)) w.heap.size 42 zrU) := Lib.hid (Has.made' w _ _ _ rfl)
  go_enter Tryd.func68, Tryd.ntmps68
  clear hR HZ
  go_wp2_with fail
  generalize hw0 : w.alloc _ = w0
  have hR : Hid (Below w.heap.size w w0) := Lib.hid (by subst hw0; exact (Below.refl _ _).alloc (Nat.le_refl _) _)
  have HZ : Hid (Has w0 w.heap.size 42 zrU) := Lib.hid (by subst hw0; exact Has.made' _ _ _ _ rfl)
  clear hw0
  refine wp_region_org [(0, true), (1, true), (2, true), (3, true), (4, true), (5, true), (6, false), (7, true)] (by kernel_rfl) (by kernel_rfl) (by kernel_rfl) ?_
  replace hR := Lib.hid hR.out.drew
  replace HZ := Lib.hid HZ.out.drew
  generalize w0.drew = wd at *
  simp only [pickOrs, List.getElem?_cons_zero, List.getElem?_cons_succ]
  refine org_pure (v := ?_) (by kernel_rfl) ?_ ?_
  rotate_left
  · intro w' hv; clear hv; go_simp; try with_reducible rfl
  try simp only [Act.put, List.setIfInBounds_toArray, List.set_cons_zero, List.set_cons_succ]
  refine org_pure (v := ?_) (by kernel_rfl) ?_ ?_
  rotate_left
  · intro w' hv; clear hv; go_simp; try with_reducible rfl
  try simp only [Act.put, List.setIfInBounds_toArray, List.set_cons_zero, List.set_cons_succ]
  refine org_pure (by kernel_rfl) (fun w' hv => load_su 42 (.tmp 23) rfl _ rfl elSum.2.1 szSum x ((fun w' hv => HX0.out w' (hR.out.trans (Below.mono hv hR.out.size))) w' hv)) ?_
  try simp only [Act.put, List.setIfInBounds_toArray, List.set_cons_zero, List.set_cons_succ]
  refine org_pure (v := ?_) (by kernel_rfl) ?_ ?_
  rotate_left
  · intro w' hv; clear hv; go_simp; try with_reducible rfl
  try simp only [Act.put, List.setIfInBounds_toArray, List.set_cons_zero, List.set_cons_succ]
  refine org_pure (v := ?_) (by kernel_rfl) ?_ ?_
  rotate_left
  · intro w' hv; clear hv; go_simp; try with_reducible rfl
  try simp only [Act.put, List.setIfInBounds_toArray, List.set_cons_zero, List.set_cons_succ]
  refine org_pure (by kernel_rfl) (fun w' hv => load_su 42 (.tmp 26) rfl _ rfl elSum.2.1 szSum y ((fun w' hv => HY0.out w' (hR.out.trans (Below.mono hv hR.out.size))) w' hv)) ?_
  try simp only [Act.put, List.setIfInBounds_toArray, List.set_cons_zero, List.set_cons_succ]
  refine org_step (by kernel_rfl) (fun K hK => ?_)
  go_wp2_with fail
  refine (HC.out _).mono ?_
  rintro e wx ⟨rfl, hb⟩
  have HE := Lib.hid hb
  clear hb
  refine hK _ _ ⟨HE.out, ?_⟩
  clear hK
  try simp only [Act.put, List.setIfInBounds_toArray, List.set_cons_zero, List.set_cons_succ]
  refine org_pure (v := ?_) (by kernel_rfl) ?_ ?_
  rotate_left
  · intro w' hv; clear hv; go_simp; try with_reducible rfl
  try simp only [Act.put, List.setIfInBounds_toArray, List.set_cons_zero, List.set_cons_succ]
  refine org_nil ?_
  replace HZ := Lib.hid (HZ.out.keep HE.out HZ.out.lt)
  replace hR := Lib.hid (hR.out.trans (HE.out.mono hR.out.size))
  have HS := Lib.hid (HX0.out _ hR.out)
  go_wp2_with (first | (refine wpList_load_su rfl 42 (.tmp 32) rfl _ rfl elSum.2.1 szSum x HS.out ?_) | (refine wpList_store_row rfl 42 (.tmp 4) (.tmp 33) rfl w.heap.size (encU x).toArray rfl rfl 42 _ HZ.out (by rw [encU_size]; exact szSum) (by rw [encU_size]; rfl) (encU_all x) ?_))
  refine bodyPost_ret (v := .tuple #[aggU x, .bool true, .bool true]) ?_ rfl ⟨rfl, below_row hR.out (Nat.le_refl _) _⟩
  exact results_three rfl _ _ w.heap.size 42 _ (0, 0) rfl (Has.rowl HZ.out _) _ _ rfl rfl Tryd.underlying42 (by rw [encU_size]; exact szSum)
set_option maxHeartbeats 4000000 in
set_option maxRecDepth 100000 in
theorem least_gt (w : World) (A B : List Su) (qa qb : Option Addr) (ca cb : Nat) (hA : 0 < A.length) (hB : 0 < B.length) (x y : Su) (a b : Addr) (hqa : qa = some a) (hqb : qb = some b) (hc : cmpU x y = 1) (hx : ∀ w', Below w.heap.size w w' → ∀ j u, (encU x)[j]? = some u → w'.cell? (a.add j) = some u) (hy : ∀ w', Below w.heap.size w w' → ∀ j u, (encU y)[j]? = some u → w'.cell? (b.add j) = some u) :
    Calls Tryd.prog 68 #[.slice qa A.length ca, .slice qb B.length cb] w fun e w' => e = .returned (.tuple #[aggU y, .bool false, .bool true]) ∧ Below w.heap.size w w' := by
  subst hqa hqb
  have hA0 : ¬ (A.length : Int) = 0 := by omega
  have hA1 : (0 : Int) < (A.length : Int) := by omega
  have hB0 : ¬ (B.length : Int) = 0 := by omega
  have hB1 : (0 : Int) < (B.length : Int) := by omega
  have HX0 := Lib.hid hx
  have HY0 := Lib.hid hy
  have HC := Lib.hid (fun w1 => cmpS_any x y w1)
  rw [hc] at HC
  clear hx hy hc
  have hR := Lib.hid ((Below.refl w.heap.size w).alloc (Nat.le_refl _) (.cells zrU.toArray 42))
  have HZ : Hid (Has (w.alloc (.cells zrU.toArray 42)) w.heap.size 42 zrU) := Lib.hid (Has.made' w _ _ _ rfl)
  go_enter Tryd.func68, Tryd.ntmps68
  clear hR HZ
  go_wp2_with fail
  generalize hw0 : w.alloc _ = w0
  have hR : Hid (Below w.heap.size w w0) := Lib.hid (by subst hw0; exact (Below.refl _ _).alloc (Nat.le_refl _) _)
  have HZ : Hid (Has w0 w.heap.size 42 zrU) := Lib.hid (by subst hw0; exact Has.made' _ _ _ _ rfl)
  clear hw0
  refine wp_region_org [(0, true), (1, true), (2, true), (3, true), (4, true), (5, true), (6, false), (7, true)] (by kernel_rfl) (by kernel_rfl) (by kernel_rfl) ?_
  replace hR := Lib.hid hR.out.drew
  replace HZ := Lib.hid HZ.out.drew
  generalize w0.drew = wd at *
  simp only [pickOrs, List.getElem?_cons_zero, List.getElem?_cons_succ]
  refine org_pure (v := ?_) (by kernel_rfl) ?_ ?_
  rotate_left
  · intro w' hv; clear hv; go_simp; try with_reducible rfl
  try simp only [Act.put, List.setIfInBounds_toArray, List.set_cons_zero, List.set_cons_succ]
  refine org_pure (v := ?_) (by kernel_rfl) ?_ ?_
  rotate_left
  · intro w' hv; clear hv; go_simp; try with_reducible rfl
  try simp only [Act.put, List.setIfInBounds_toArray, List.set_cons_zero, List.set_cons_succ]
  refine org_pure (by kernel_rfl) (fun w' hv => load_su 42 (.tmp 23) rfl _ rfl elSum.2.1 szSum x ((fun w' hv => HX0.out w' (hR.out.trans (Below.mono hv hR.out.size))) w' hv)) ?_
  try simp only [Act.put, List.setIfInBounds_toArray, List.set_cons_zero, List.set_cons_succ]
  refine org_pure (v := ?_) (by kernel_rfl) ?_ ?_
  rotate_left
  · intro w' hv; clear hv; go_simp; try with_reducible rfl
  try simp only [Act.put, List.setIfInBounds_toArray, List.set_cons_zero, List.set_cons_succ]
  refine org_pure (v := ?_) (by kernel_rfl) ?_ ?_
  rotate_left
  · intro w' hv; clear hv; go_simp; try with_reducible rfl
  try simp only [Act.put, List.setIfInBounds_toArray, List.set_cons_zero, List.set_cons_succ]
  refine org_pure (by kernel_rfl) (fun w' hv => load_su 42 (.tmp 26) rfl _ rfl elSum.2.1 szSum y ((fun w' hv => HY0.out w' (hR.out.trans (Below.mono hv hR.out.size))) w' hv)) ?_
  try simp only [Act.put, List.setIfInBounds_toArray, List.set_cons_zero, List.set_cons_succ]
  refine org_step (by kernel_rfl) (fun K hK => ?_)
  go_wp2_with fail
  refine (HC.out _).mono ?_
  rintro e wx ⟨rfl, hb⟩
  have HE := Lib.hid hb
  clear hb
  refine hK _ _ ⟨HE.out, ?_⟩
  clear hK
  try simp only [Act.put, List.setIfInBounds_toArray, List.set_cons_zero, List.set_cons_succ]
  refine org_pure (v := ?_) (by kernel_rfl) ?_ ?_
  rotate_left
  · intro w' hv; clear hv; go_simp; try with_reducible rfl
  try simp only [Act.put, List.setIfInBounds_toArray, List.set_cons_zero, List.set_cons_succ]
  refine org_nil ?_
  replace HZ := Lib.hid (HZ.out.keep HE.out HZ.out.lt)
  replace hR := Lib.hid (hR.out.trans (HE.out.mono hR.out.size))
  have HS := Lib.hid (HY0.out _ hR.out)
  go_wp2_with (first | (refine wpList_load_su rfl 42 (.tmp 37) rfl _ rfl elSum.2.1 szSum y HS.out ?_) | (refine wpList_store_row rfl 42 (.tmp 4) (.tmp 38) rfl w.heap.size (encU y).toArray rfl rfl 42 _ HZ.out (by rw [encU_size]; exact szSum) (by rw [encU_size]; rfl) (encU_all y) ?_))
  refine bodyPost_ret (v := .tuple #[aggU y, .bool false, .bool true]) ?_ rfl ⟨rfl, below_row hR.out (Nat.le_refl _) _⟩
  exact results_three rfl _ _ w.heap.size 42 _ (0, 0) rfl (Has.rowl HZ.out _) _ _ rfl rfl Tryd.underlying42 (by rw [encU_size]; exact szSum)
theorem least_any (A B : List Su) (qa qb : Option Addr) (ca cb : Nat) (h : ¬ (A = [] ∧ B = [])) (w : World) (ha : Sees w w.heap.size qa (rowU A)) (hb : Sees w w.heap.size qb (rowU B)) :
    Calls Tryd.prog 68 #[.slice qa A.length ca, .slice qb B.length cb] w fun e w' => e = .returned (.tuple #[aggU (leastU A B).1, .bool (leastU A B).2.1, .bool (leastU A B).2.2]) ∧ Below w.heap.size w w' := by
  have z : ∀ a : Addr, a.add (0 * 32) = a := fun a => by simp [Addr.add]
  match A, B, h, ha, hb with
  | [], [], h, _, _ => exact absurd ⟨rfl, rfl⟩ h
  | [], y :: B, _, _, hb =>
    obtain ⟨a, e, _, hc⟩ := Ss.el hb (i := 0) (by simp)
    exact least_left w [] (y :: B) qa qb ca cb rfl y a e (by simp) (fun w' hw => by have := hc w' hw; rw [z] at this; exact this)
  | x :: A, [], _, ha, _ =>
    obtain ⟨a, e, _, hc⟩ := Ss.el ha (i := 0) (by simp)
    exact least_right w (x :: A) [] qa qb ca cb (by simp) x a e rfl (fun w' hw => by have := hc w' hw; rw [z] at this; exact this)
  | x :: A, y :: B, _, ha, hb =>
    obtain ⟨a, e, _, hc⟩ := Ss.el ha (i := 0) (by simp)
    obtain ⟨b, e2, _, hc2⟩ := Ss.el hb (i := 0) (by simp)
    have h1 := fun w' (hw : Below w.heap.size w w') => by have := hc w' hw; rw [z] at this; exact this
    have h2 := fun w' (hw : Below w.heap.size w w') => by have := hc2 w' hw; rw [z] at this; exact this
    rcases cmpU_vals x y with hv | hv | hv
    · have hl : leastU (x :: A) (y :: B) = (x, true, false) := by show (if cmpU x y ≤ 0 then _ else _) = _; rw [if_pos (by omega), hv]; rfl
      rw [hl]
      exact least_lt w (x :: A) (y :: B) qa qb ca cb (by simp) (by simp) x y a b e e2 hv h1 h2
    · have hl : leastU (x :: A) (y :: B) = (x, true, true) := by show (if cmpU x y ≤ 0 then _ else _) = _; rw [if_pos (by omega), hv]; rfl
      rw [hl]
      exact least_eq w (x :: A) (y :: B) qa qb ca cb (by simp) (by simp) x y a b e e2 hv h1 h2
    · have hl : leastU (x :: A) (y :: B) = (y, false, true) := by show (if cmpU x y ≤ 0 then _ else _) = _; rw [if_neg (by omega)]
      rw [hl]
      exact least_gt w (x :: A) (y :: B) qa qb ca cb (by simp) (by simp) x y a b e e2 hv h1 h2
end Go.Proofs.YtnkcehmgagpadaaDoor
/- Contracts: package set's merge with each of its three keeps, Minus, Both, Either, Add. Condition: at most 10^6 sums each. -/
namespace Go.Proofs.YtnkcehmgagpadaaDoor
open Go.RowKit
/-- The value reads as these sums, in blocks below b. -/
def UsB (b : Nat) (w : World) (v : Value) (L : List Su) : Prop := ∃ q c, v = .slice q L.length c ∧ L.length ≤ c ∧ (q = none → c = 0) ∧ Sees w b q (rowU L)
theorem UsB.keep {b : Nat} {w w' : World} {v : Value} {L : List Su} (h : UsB b w v L) (hb : Below b w w') : UsB b w' v L := by
  obtain ⟨q, c, h1, h2, h3, h4⟩ := h
  exact ⟨q, c, h1, h2, h3, h4.keep hb⟩
theorem Us.b {w : World} {v : Value} {L : List Su} (h : Us w v L) : UsB w.heap.size w v L := h
theorem tl_usB {b : Nat} {w : World} {q : Option Addr} {c : Nat} {L : List Su} (h0 : 0 < L.length) (hc : L.length ≤ c) (hq : q = none → c = 0) (hs : Sees w b q (rowU L)) : UsB b w (.slice (tlQ q c) (L.length - 1) (c - 1)) L.tail := by
  have h1 := Sees.cutU (c := c) (k := 1) hs hc
  rw [Nat.one_mul, List.drop_one] at h1
  refine ⟨tlQ q c, c - 1, by rw [List.length_tail], by rw [List.length_tail]; omega, fun h => ?_, h1⟩
  have := cutU_none (k := 1) (n := 32) hq h
  omega
def lenV (v : Value) : Nat := match v with | .slice _ n _ => n | _ => 0
theorem keepMinus_any (a b : Bool) (w : World) : Calls Tryd.prog 46 #[.bool a, .bool b] w fun e w' => e = .returned (.bool (kMin a b)) ∧ w' = w := by
  cases a <;> cases b <;> (go_enter Tryd.func46, Tryd.ntmps46; go_wp2_with fail; go_ret; exact ⟨rfl, rfl⟩)
set_option maxHeartbeats 16000000 in
set_option maxRecDepth 100000 in
theorem mergeMinus_any (A B : List Su) (qa qb : Option Addr) (ca cb : Nat) (hA : A.length ≤ 1000000) (hB : B.length ≤ 1000000) (hca : A.length ≤ ca) (hcb : B.length ≤ cb) (hqa : qa = none → ca = 0) (hqb : qb = none → cb = 0) (w : World) (ha : Sees w w.heap.size qa (rowU A)) (hb : Sees w w.heap.size qb (rowU B)) :
    Calls Tryd.prog 44 #[.slice qa A.length ca, .slice qb B.length cb, .func (.func 46) #[] #[]] w fun e w' => (∃ v, e = .returned v ∧ OwnU w' w.heap.size 42 v (minU A B)) ∧ Below w.heap.size w w' := by
  have H1 := Lib.hid (inOrder_any A qa ca hA hca hqa w ha)
  have H2 : Hid (∀ w1, Below w.heap.size w w1 → Calls Tryd.prog 67 #[.slice qb B.length cb] w1 fun e w' => (∃ v, e = .returned v ∧ Us w' v (srt B)) ∧ Below w1.heap.size w1 w') := Lib.hid (fun w1 h => inOrder_any B qb cb hB hcb hqb w1 ((hb.keep h).more h.size))
  have hla := len_srt_le A
  have hlb := len_srt_le B
  have HR := Lib.hid (mrg_min A B)
  have HAA := Lib.hid (asc_srt A)
  have HAB := Lib.hid (asc_srt B)
  generalize srt A = A1 at *
  generalize srt B = B1 at *
  generalize minU A B = R at *
  clear ha hb hca hcb hqa hqb
  go_enter Tryd.func44, Tryd.ntmps44
  go_wp2_with (first
    | ((with_reducible refine H1.out.mono ?_); rintro e w1 ⟨⟨v1, rfl, h1⟩, h2⟩; have HU1 := Lib.hid h1; have HB1 := Lib.hid h2; clear h1 h2 H1)
    | ((with_reducible refine (H2.out _ HB1.out).mono ?_); rintro e w2 ⟨⟨v2, rfl, h1⟩, h2⟩; have HU2 := Lib.hid h1.b; have HU3 := Lib.hid (HU1.out.keep h2).b; have HB2 := Lib.hid (HB1.out.trans (h2.mono HB1.out.size)); clear h1 h2 H2))
  have HNIL := Lib.hid (OwnU.nil w2 w2.heap.size 42)
  have HSZ := Lib.hid HB2.out.size
  obtain ⟨b, hb⟩ : ∃ b, b = w2.heap.size := ⟨_, rfl⟩
  rw [← hb] at HU3 HU2 HNIL HSZ
  have HBE : Hid (b ≤ w2.heap.size) := Lib.hid (Nat.le_of_eq hb)
  have HBE : Hid (b ≤ w2.heap.size) := Lib.hid (Nat.le_of_eq hb)
  have HBE : Hid (b ≤ w2.heap.size) := Lib.hid (Nat.le_of_eq hb)
  have HW2 : Hid (Below b w2 w2) := Lib.hid (Below.refl _ _)
  clear hb HU1 HB1
  go_loopw [0, 1, 7] (fun v0 v1 v7 wr => ∃ (A2 B2 L : List Su) (n : Nat), UsB b wr v0 A2 ∧ UsB b wr v1 B2 ∧ AscU A2 ∧ AscU B2 ∧ OwnU wr b 42 v7 L ∧ L ++ mrgN kMin n A2 B2 = R ∧ A2.length + B2.length ≤ n ∧ L.length + n ≤ 2000000 ∧ Below b w2 wr ∧ b ≤ wr.heap.size) (fun v0 v1 _ _ => lenV v0 + lenV v1)
  case atStart => exact ⟨A1, B1, [], A1.length + B1.length, HU3.out, HU2.out, HAA.out, HAB.out, HNIL.out, HR.out, Nat.le_refl _, by simp; omega, HW2.out, HBE.out⟩
  case round =>
    clear HU2 HU3 HNIL HR HAA HAB HW2
    rename_i wr
    obtain ⟨A2, B2, L, n, ⟨qa2, ca2, rfl, hca2, hqa2, hsa⟩, ⟨qb2, cb2, rfl, hcb2, hqb2, hsb⟩, haA, haB, hown, heq, hn, hln, hB, hbz⟩ := hrel
    have HSA := Lib.hid hsa
    have HSB := Lib.hid hsb
    have HOWN := Lib.hid hown
    have HEQ := Lib.hid heq
    have HB := Lib.hid hB
    have HBZ := Lib.hid hbz
    clear hsa hsb hown heq hB hbz
    by_cases h0 : A2 = [] ∧ B2 = []
    · obtain ⟨rfl, rfl⟩ := h0
      have HE : Hid (R = L) := Lib.hid (by rw [← HEQ.out, mrgN_nil, List.append_nil])
      clear HSA HSB haA haB
      go_wp2_with fail
      go_ret
      refine ⟨⟨_, rfl, ?_⟩, HB2.out.trans (HB.out.mono HSZ.out)⟩
      rw [HE.out]
      exact HOWN.out.less HSZ.out
    · have HF := Lib.hid (least_fact haA haB h0)
      have HL := Lib.hid (least_any A2 B2 qa2 qb2 ca2 cb2 h0 wr (HSA.out.more HBZ.out) (HSB.out.more HBZ.out))
      obtain ⟨m, rfl⟩ : ∃ m, n = m + 1 := by
        have : 0 < n := by
          rcases A2 with _ | ⟨x, A2⟩
          · rcases B2 with _ | ⟨y, B2⟩
            · exact absurd ⟨rfl, rfl⟩ h0
            · simp at hn; omega
          · simp at hn; omega
        exact ⟨n - 1, by omega⟩
      have HST : Hid (mrgN kMin (m + 1) A2 B2 = (if kMin (leastU A2 B2).2.1 (leastU A2 B2).2.2 then [(leastU A2 B2).1] else []) ++ mrgN kMin m (if (leastU A2 B2).2.1 then A2.tail else A2) (if (leastU A2 B2).2.2 then B2.tail else B2)) := Lib.hid (by rw [mrgN, if_neg h0])
      have hg0 : 0 < A2.length ∨ (¬ 0 < A2.length ∧ 0 < B2.length) := by
        rcases A2 with _ | ⟨x, A2⟩
        · rcases B2 with _ | ⟨y, B2⟩
          · exact absurd ⟨rfl, rfl⟩ h0
          · exact .inr ⟨by simp, by simp⟩
        · exact .inl (by simp)
      generalize (leastU A2 B2).1 = x at *
      generalize (leastU A2 B2).2.1 = p at *
      generalize (leastU A2 B2).2.2 = q at *
      have HPA : Hid (p = true → 1 ≤ A2.length) := Lib.hid (fun hp => by
        have := HF.out.1
        rw [hp] at this
        exact List.length_pos_of_mem (of_decide_eq_true this.symm))
      have HPB : Hid (q = true → 1 ≤ B2.length) := Lib.hid (fun hp => by
        have := HF.out.2.1
        rw [hp] at this
        exact List.length_pos_of_mem (of_decide_eq_true this.symm))
      have HPQ : Hid (p = true ∨ q = true) := Lib.hid (by
        obtain ⟨f1, f2, f3, _⟩ := HF.out
        rcases f3 with h | h
        · left; rw [f1]; exact decide_eq_true h
        · right; rw [f2]; exact decide_eq_true h)
      have HCA := Lib.hid (fun h w' => cut1_su 24 42 elSet qa2 A2.length ca2 h w')
      have HCB := Lib.hid (fun h w' => cut1_su 24 42 elSet qb2 B2.length cb2 h w')
      have HAA := Lib.hid haA
      have HAB := Lib.hid haB
      have HTA : Hid (1 ≤ A2.length → ∀ w5, Below b wr w5 → UsB b w5 (.slice (tlQ qa2 ca2) (A2.length - 1) (ca2 - 1)) A2.tail) := Lib.hid (fun h w5 hb => tl_usB h hca2 hqa2 (HSA.out.keep hb))
      have HTB : Hid (1 ≤ B2.length → ∀ w5, Below b wr w5 → UsB b w5 (.slice (tlQ qb2 cb2) (B2.length - 1) (cb2 - 1)) B2.tail) := Lib.hid (fun h w5 hb => tl_usB h hcb2 hqb2 (HSB.out.keep hb))
      have HUA : Hid (∀ w5, Below b wr w5 → UsB b w5 (.slice qa2 A2.length ca2) A2) := Lib.hid (fun w5 hb => ⟨qa2, ca2, rfl, hca2, hqa2, HSA.out.keep hb⟩)
      have HUB : Hid (∀ w5, Below b wr w5 → UsB b w5 (.slice qb2 B2.length cb2) B2) := Lib.hid (fun w5 hb => ⟨qb2, cb2, rfl, hcb2, hqb2, HSB.out.keep hb⟩)
      have HTLA : Hid (A2.tail.length = A2.length - 1) := Lib.hid List.length_tail
      have HTLB : Hid (B2.tail.length = B2.length - 1) := Lib.hid List.length_tail
      clear HF h0 haA haB HSA HSB hca2 hcb2 hqa2 hqb2
      generalize hna : A2.length = na at *
      generalize hnb : B2.length = nb at *
      have HNA := Lib.hid hna
      have HNB := Lib.hid hnb
      clear hna hnb
      rcases hg0 with hu1 | ⟨hu1, hu2⟩
      · go_upto_region 5 with (first | ((with_reducible refine HL.out.mono ?_); rintro e w3 ⟨rfl, h1⟩; have HB3 := Lib.hid h1; clear h1 HL) | (refine wpList_store_row rfl 42 (.tmp 8) (.tmp 27) rfl w3.heap.size (encU x).toArray rfl rfl 42 zrU.toArray (heap_alloc_new _ _) (by rw [encU_size]; exact szSum) (by rw [encU_size]; rfl) (encU_all x) ?_))
        generalize hw4 : (w3.alloc _).setRow _ _ = w4
        have HX4 : Hid (Has w4 w3.heap.size 42 (encU x)) := Lib.hid (by subst hw4; exact Has.rowl (Has.made' w3 42 _ zrU rfl) _)
        have HB4 : Hid (Below wr.heap.size wr w4) := Lib.hid (by subst hw4; exact below_row (HB3.out.alloc HB3.out.size _) HB3.out.size _)
        clear hw4
        replace HOWN := Lib.hid (HOWN.out.keep HB4.out)
        have HZ4 := Lib.hid (Nat.le_trans HBZ.out HB4.out.size)
        replace HB4 := Lib.hid (HB4.out.mono HBZ.out)
        clear HB3
        generalize w3.heap.size = g8 at *
        have HLEN : Hid (L.length + 1 ≤ 4000000) := Lib.hid (by omega)
        have HXX : Hid (∀ j u, (encU x)[j]? = some u → w4.cell? ((⟨g8, 0, none⟩ : Addr).add j) = some u) := Lib.hid (fun j u hu => by rw [add_lit', Nat.zero_add]; exact HX4.out.cellv hu)
        cases p with
        | true =>
          cases q with
          | true =>
            have hcA := HCA.out (HPA.out rfl)
            have HNA1 := Lib.hid (HPA.out rfl)
            have hcB := HCB.out (HPB.out rfl)
            have HNB1 := Lib.hid (HPB.out rfl)
            go_wp2_with (first
              | ((with_reducible refine (keepMinus_any _ _ _).mono ?_); rintro e w5 ⟨rfl, hw5⟩; subst w5))
            go_roundw
            case rel =>
              have HBX : Hid (Below b wr w4) := Lib.hid (HB4.out)
              refine ⟨A2.tail, B2.tail, L, m, HTA.out HNA1.out _ HBX.out, HTB.out HNB1.out _ HBX.out, asc_tail HAA.out, asc_tail HAB.out, HOWN.out, ?_, ?_, ?_, HB.out.trans HBX.out, Nat.le_trans HBZ.out HBX.out.size⟩
              · have h := HEQ.out
                rw [HST.out] at h
                simpa [kMin] using h
              · have ha := HNA1.out; have hb := HNB1.out; have h1 := HTLA.out; have h2 := HTLB.out; have h3 := HNA.out; have h4 := HNB.out; omega
              · omega
            case measure => have ha := HNA1.out; have hb := HNB1.out; simp only [lenV]; omega
          | false =>
            have hcA := HCA.out (HPA.out rfl)
            have HNA1 := Lib.hid (HPA.out rfl)
            go_wp2_with (first
              | ((with_reducible refine (keepMinus_any _ _ _).mono ?_); rintro e w5 ⟨rfl, hw5⟩; subst w5)
              | (refine wpList_load_su rfl 42 (.tmp 8) rfl _ rfl elSum.2.1 szSum x HXX.out ?_)
              | (refine wpList_one_su rfl 24 42 elSet (.tmp 35) rfl x rfl ?_)
              | (refine wpList_append_su rfl 24 42 elSet (.tmp 34) (.tmp 36) rfl b _ L rfl (World.ownsRow.alloc HOWN.out _) (some ⟨w4.heap.size, 0, none⟩) [x] 1 1 (w4.heap.size + 1) rfl rfl (fun h => by cases h) (Ss.one (Has.made' w4 _ _ _ rfl) (Nat.lt_succ_self _)) HLEN.out (by have := HZ4.out; simp; omega) ?_; intro v6 w6 h1 h2; have HO := Lib.hid h1; have HB6 := Lib.hid h2; clear h1 h2))
            go_roundw
            case rel =>
              have HBX : Hid (Below b wr w6) := Lib.hid (HB4.out.trans (((Below.refl b w4).alloc HZ4.out _).trans HB6.out))
              refine ⟨A2.tail, B2, L ++ [x], m, HTA.out HNA1.out _ HBX.out, HUB.out _ HBX.out, asc_tail HAA.out, HAB.out, HO.out, ?_, ?_, ?_, HB.out.trans HBX.out, Nat.le_trans HBZ.out HBX.out.size⟩
              · have h := HEQ.out
                rw [HST.out] at h
                simpa [kMin] using h
              · have ha := HNA1.out; have h1 := HTLA.out; have h2 := HTLB.out; have h3 := HNA.out; have h4 := HNB.out; omega
              · simp only [List.length_append, List.length_singleton]; omega
            case measure => have ha := HNA1.out; simp only [lenV]; omega
        | false =>
          cases q with
          | true =>
            have hcB := HCB.out (HPB.out rfl)
            have HNB1 := Lib.hid (HPB.out rfl)
            go_wp2_with (first
              | ((with_reducible refine (keepMinus_any _ _ _).mono ?_); rintro e w5 ⟨rfl, hw5⟩; subst w5))
            go_roundw
            case rel =>
              have HBX : Hid (Below b wr w4) := Lib.hid (HB4.out)
              refine ⟨A2, B2.tail, L, m, HUA.out _ HBX.out, HTB.out HNB1.out _ HBX.out, HAA.out, asc_tail HAB.out, HOWN.out, ?_, ?_, ?_, HB.out.trans HBX.out, Nat.le_trans HBZ.out HBX.out.size⟩
              · have h := HEQ.out
                rw [HST.out] at h
                simpa [kMin] using h
              · have hb := HNB1.out; have h1 := HTLA.out; have h2 := HTLB.out; have h3 := HNA.out; have h4 := HNB.out; omega
              · omega
            case measure => have hb := HNB1.out; simp only [lenV]; omega
          | false =>
            have h := HPQ.out
            simp at h
      · go_upto_region 5 with (first | ((with_reducible refine HL.out.mono ?_); rintro e w3 ⟨rfl, h1⟩; have HB3 := Lib.hid h1; clear h1 HL) | (refine wpList_store_row rfl 42 (.tmp 8) (.tmp 27) rfl w3.heap.size (encU x).toArray rfl rfl 42 zrU.toArray (heap_alloc_new _ _) (by rw [encU_size]; exact szSum) (by rw [encU_size]; rfl) (encU_all x) ?_))
        generalize hw4 : (w3.alloc _).setRow _ _ = w4
        have HX4 : Hid (Has w4 w3.heap.size 42 (encU x)) := Lib.hid (by subst hw4; exact Has.rowl (Has.made' w3 42 _ zrU rfl) _)
        have HB4 : Hid (Below wr.heap.size wr w4) := Lib.hid (by subst hw4; exact below_row (HB3.out.alloc HB3.out.size _) HB3.out.size _)
        clear hw4
        replace HOWN := Lib.hid (HOWN.out.keep HB4.out)
        have HZ4 := Lib.hid (Nat.le_trans HBZ.out HB4.out.size)
        replace HB4 := Lib.hid (HB4.out.mono HBZ.out)
        clear HB3
        generalize w3.heap.size = g8 at *
        have HLEN : Hid (L.length + 1 ≤ 4000000) := Lib.hid (by omega)
        have HXX : Hid (∀ j u, (encU x)[j]? = some u → w4.cell? ((⟨g8, 0, none⟩ : Addr).add j) = some u) := Lib.hid (fun j u hu => by rw [add_lit', Nat.zero_add]; exact HX4.out.cellv hu)
        cases p with
        | true =>
          cases q with
          | true =>
            exact absurd (HPA.out rfl) (by omega)
          | false =>
            exact absurd (HPA.out rfl) (by omega)
        | false =>
          cases q with
          | true =>
            have hcB := HCB.out (HPB.out rfl)
            have HNB1 := Lib.hid (HPB.out rfl)
            go_wp2_with (first
              | ((with_reducible refine (keepMinus_any _ _ _).mono ?_); rintro e w5 ⟨rfl, hw5⟩; subst w5))
            go_roundw
            case rel =>
              have HBX : Hid (Below b wr w4) := Lib.hid (HB4.out)
              refine ⟨A2, B2.tail, L, m, HUA.out _ HBX.out, HTB.out HNB1.out _ HBX.out, HAA.out, asc_tail HAB.out, HOWN.out, ?_, ?_, ?_, HB.out.trans HBX.out, Nat.le_trans HBZ.out HBX.out.size⟩
              · have h := HEQ.out
                rw [HST.out] at h
                simpa [kMin] using h
              · have hb := HNB1.out; have h1 := HTLA.out; have h2 := HTLB.out; have h3 := HNA.out; have h4 := HNB.out; omega
              · omega
            case measure => have hb := HNB1.out; simp only [lenV]; omega
          | false =>
            have h := HPQ.out
            simp at h
set_option maxHeartbeats 1000000 in
theorem setMinus_any (A B : List Su) (qa qb : Option Addr) (ca cb : Nat) (hA : A.length ≤ 1000000) (hB : B.length ≤ 1000000) (hca : A.length ≤ ca) (hcb : B.length ≤ cb) (hqa : qa = none → ca = 0) (hqb : qb = none → cb = 0) (w : World) (ha : Sees w w.heap.size qa (rowU A)) (hb : Sees w w.heap.size qb (rowU B)) :
    Calls Tryd.prog 20 #[.slice qa A.length ca, .slice qb B.length cb] w fun e w' => (∃ v, e = .returned v ∧ OwnU w' w.heap.size 42 v (minU A B)) ∧ Below w.heap.size w w' := by
  have HM := Lib.hid (mergeMinus_any A B qa qb ca cb hA hB hca hcb hqa hqb w ha hb)
  clear ha hb
  go_enter Tryd.func20, Tryd.ntmps20
  go_wp2_with ((with_reducible refine HM.out.mono ?_); rintro e w1 ⟨⟨v1, rfl, h1⟩, h2⟩; have HO1 := Lib.hid h1; have HB1 := Lib.hid h2; clear h1 h2)
  go_ret
  exact ⟨⟨_, rfl, HO1.out⟩, HB1.out⟩
theorem keepBoth_any (a b : Bool) (w : World) : Calls Tryd.prog 47 #[.bool a, .bool b] w fun e w' => e = .returned (.bool (kBot a b)) ∧ w' = w := by
  cases a <;> cases b <;> (go_enter Tryd.func47, Tryd.ntmps47; go_wp2_with fail; go_ret; exact ⟨rfl, rfl⟩)
set_option maxHeartbeats 16000000 in
set_option maxRecDepth 100000 in
theorem mergeBoth_any (A B : List Su) (qa qb : Option Addr) (ca cb : Nat) (hA : A.length ≤ 1000000) (hB : B.length ≤ 1000000) (hca : A.length ≤ ca) (hcb : B.length ≤ cb) (hqa : qa = none → ca = 0) (hqb : qb = none → cb = 0) (w : World) (ha : Sees w w.heap.size qa (rowU A)) (hb : Sees w w.heap.size qb (rowU B)) :
    Calls Tryd.prog 44 #[.slice qa A.length ca, .slice qb B.length cb, .func (.func 47) #[] #[]] w fun e w' => (∃ v, e = .returned v ∧ OwnU w' w.heap.size 42 v (botU A B)) ∧ Below w.heap.size w w' := by
  have H1 := Lib.hid (inOrder_any A qa ca hA hca hqa w ha)
  have H2 : Hid (∀ w1, Below w.heap.size w w1 → Calls Tryd.prog 67 #[.slice qb B.length cb] w1 fun e w' => (∃ v, e = .returned v ∧ Us w' v (srt B)) ∧ Below w1.heap.size w1 w') := Lib.hid (fun w1 h => inOrder_any B qb cb hB hcb hqb w1 ((hb.keep h).more h.size))
  have hla := len_srt_le A
  have hlb := len_srt_le B
  have HR := Lib.hid (mrg_bot A B)
  have HAA := Lib.hid (asc_srt A)
  have HAB := Lib.hid (asc_srt B)
  generalize srt A = A1 at *
  generalize srt B = B1 at *
  generalize botU A B = R at *
  clear ha hb hca hcb hqa hqb
  go_enter Tryd.func44, Tryd.ntmps44
  go_wp2_with (first
    | ((with_reducible refine H1.out.mono ?_); rintro e w1 ⟨⟨v1, rfl, h1⟩, h2⟩; have HU1 := Lib.hid h1; have HB1 := Lib.hid h2; clear h1 h2 H1)
    | ((with_reducible refine (H2.out _ HB1.out).mono ?_); rintro e w2 ⟨⟨v2, rfl, h1⟩, h2⟩; have HU2 := Lib.hid h1.b; have HU3 := Lib.hid (HU1.out.keep h2).b; have HB2 := Lib.hid (HB1.out.trans (h2.mono HB1.out.size)); clear h1 h2 H2))
  have HNIL := Lib.hid (OwnU.nil w2 w2.heap.size 42)
  have HSZ := Lib.hid HB2.out.size
  obtain ⟨b, hb⟩ : ∃ b, b = w2.heap.size := ⟨_, rfl⟩
  rw [← hb] at HU3 HU2 HNIL HSZ
  have HBE : Hid (b ≤ w2.heap.size) := Lib.hid (Nat.le_of_eq hb)
  have HBE : Hid (b ≤ w2.heap.size) := Lib.hid (Nat.le_of_eq hb)
  have HW2 : Hid (Below b w2 w2) := Lib.hid (Below.refl _ _)
  clear hb HU1 HB1
  go_loopw [0, 1, 7] (fun v0 v1 v7 wr => ∃ (A2 B2 L : List Su) (n : Nat), UsB b wr v0 A2 ∧ UsB b wr v1 B2 ∧ AscU A2 ∧ AscU B2 ∧ OwnU wr b 42 v7 L ∧ L ++ mrgN kBot n A2 B2 = R ∧ A2.length + B2.length ≤ n ∧ L.length + n ≤ 2000000 ∧ Below b w2 wr ∧ b ≤ wr.heap.size) (fun v0 v1 _ _ => lenV v0 + lenV v1)
  case atStart => exact ⟨A1, B1, [], A1.length + B1.length, HU3.out, HU2.out, HAA.out, HAB.out, HNIL.out, HR.out, Nat.le_refl _, by simp; omega, HW2.out, HBE.out⟩
  case round =>
    clear HU2 HU3 HNIL HR HAA HAB HW2
    rename_i wr
    obtain ⟨A2, B2, L, n, ⟨qa2, ca2, rfl, hca2, hqa2, hsa⟩, ⟨qb2, cb2, rfl, hcb2, hqb2, hsb⟩, haA, haB, hown, heq, hn, hln, hB, hbz⟩ := hrel
    have HSA := Lib.hid hsa
    have HSB := Lib.hid hsb
    have HOWN := Lib.hid hown
    have HEQ := Lib.hid heq
    have HB := Lib.hid hB
    have HBZ := Lib.hid hbz
    clear hsa hsb hown heq hB hbz
    by_cases h0 : A2 = [] ∧ B2 = []
    · obtain ⟨rfl, rfl⟩ := h0
      have HE : Hid (R = L) := Lib.hid (by rw [← HEQ.out, mrgN_nil, List.append_nil])
      clear HSA HSB haA haB
      go_wp2_with fail
      go_ret
      refine ⟨⟨_, rfl, ?_⟩, HB2.out.trans (HB.out.mono HSZ.out)⟩
      rw [HE.out]
      exact HOWN.out.less HSZ.out
    · have HF := Lib.hid (least_fact haA haB h0)
      have HL := Lib.hid (least_any A2 B2 qa2 qb2 ca2 cb2 h0 wr (HSA.out.more HBZ.out) (HSB.out.more HBZ.out))
      obtain ⟨m, rfl⟩ : ∃ m, n = m + 1 := by
        have : 0 < n := by
          rcases A2 with _ | ⟨x, A2⟩
          · rcases B2 with _ | ⟨y, B2⟩
            · exact absurd ⟨rfl, rfl⟩ h0
            · simp at hn; omega
          · simp at hn; omega
        exact ⟨n - 1, by omega⟩
      have HST : Hid (mrgN kBot (m + 1) A2 B2 = (if kBot (leastU A2 B2).2.1 (leastU A2 B2).2.2 then [(leastU A2 B2).1] else []) ++ mrgN kBot m (if (leastU A2 B2).2.1 then A2.tail else A2) (if (leastU A2 B2).2.2 then B2.tail else B2)) := Lib.hid (by rw [mrgN, if_neg h0])
      have hg0 : 0 < A2.length ∨ (¬ 0 < A2.length ∧ 0 < B2.length) := by
        rcases A2 with _ | ⟨x, A2⟩
        · rcases B2 with _ | ⟨y, B2⟩
          · exact absurd ⟨rfl, rfl⟩ h0
          · exact .inr ⟨by simp, by simp⟩
        · exact .inl (by simp)
      generalize (leastU A2 B2).1 = x at *
      generalize (leastU A2 B2).2.1 = p at *
      generalize (leastU A2 B2).2.2 = q at *
      have HPA : Hid (p = true → 1 ≤ A2.length) := Lib.hid (fun hp => by
        have := HF.out.1
        rw [hp] at this
        exact List.length_pos_of_mem (of_decide_eq_true this.symm))
      have HPB : Hid (q = true → 1 ≤ B2.length) := Lib.hid (fun hp => by
        have := HF.out.2.1
        rw [hp] at this
        exact List.length_pos_of_mem (of_decide_eq_true this.symm))
      have HPQ : Hid (p = true ∨ q = true) := Lib.hid (by
        obtain ⟨f1, f2, f3, _⟩ := HF.out
        rcases f3 with h | h
        · left; rw [f1]; exact decide_eq_true h
        · right; rw [f2]; exact decide_eq_true h)
      have HCA := Lib.hid (fun h w' => cut1_su 24 42 elSet qa2 A2.length ca2 h w')
      have HCB := Lib.hid (fun h w' => cut1_su 24 42 elSet qb2 B2.length cb2 h w')
      have HAA := Lib.hid haA
      have HAB := Lib.hid haB
      have HTA : Hid (1 ≤ A2.length → ∀ w5, Below b wr w5 → UsB b w5 (.slice (tlQ qa2 ca2) (A2.length - 1) (ca2 - 1)) A2.tail) := Lib.hid (fun h w5 hb => tl_usB h hca2 hqa2 (HSA.out.keep hb))
      have HTB : Hid (1 ≤ B2.length → ∀ w5, Below b wr w5 → UsB b w5 (.slice (tlQ qb2 cb2) (B2.length - 1) (cb2 - 1)) B2.tail) := Lib.hid (fun h w5 hb => tl_usB h hcb2 hqb2 (HSB.out.keep hb))
      have HUA : Hid (∀ w5, Below b wr w5 → UsB b w5 (.slice qa2 A2.length ca2) A2) := Lib.hid (fun w5 hb => ⟨qa2, ca2, rfl, hca2, hqa2, HSA.out.keep hb⟩)
      have HUB : Hid (∀ w5, Below b wr w5 → UsB b w5 (.slice qb2 B2.length cb2) B2) := Lib.hid (fun w5 hb => ⟨qb2, cb2, rfl, hcb2, hqb2, HSB.out.keep hb⟩)
      have HTLA : Hid (A2.tail.length = A2.length - 1) := Lib.hid List.length_tail
      have HTLB : Hid (B2.tail.length = B2.length - 1) := Lib.hid List.length_tail
      clear HF h0 haA haB HSA HSB hca2 hcb2 hqa2 hqb2
      generalize hna : A2.length = na at *
      generalize hnb : B2.length = nb at *
      have HNA := Lib.hid hna
      have HNB := Lib.hid hnb
      clear hna hnb
      rcases hg0 with hu1 | ⟨hu1, hu2⟩
      · go_upto_region 5 with (first | ((with_reducible refine HL.out.mono ?_); rintro e w3 ⟨rfl, h1⟩; have HB3 := Lib.hid h1; clear h1 HL) | (refine wpList_store_row rfl 42 (.tmp 8) (.tmp 27) rfl w3.heap.size (encU x).toArray rfl rfl 42 zrU.toArray (heap_alloc_new _ _) (by rw [encU_size]; exact szSum) (by rw [encU_size]; rfl) (encU_all x) ?_))
        generalize hw4 : (w3.alloc _).setRow _ _ = w4
        have HX4 : Hid (Has w4 w3.heap.size 42 (encU x)) := Lib.hid (by subst hw4; exact Has.rowl (Has.made' w3 42 _ zrU rfl) _)
        have HB4 : Hid (Below wr.heap.size wr w4) := Lib.hid (by subst hw4; exact below_row (HB3.out.alloc HB3.out.size _) HB3.out.size _)
        clear hw4
        replace HOWN := Lib.hid (HOWN.out.keep HB4.out)
        have HZ4 := Lib.hid (Nat.le_trans HBZ.out HB4.out.size)
        replace HB4 := Lib.hid (HB4.out.mono HBZ.out)
        clear HB3
        generalize w3.heap.size = g8 at *
        have HLEN : Hid (L.length + 1 ≤ 4000000) := Lib.hid (by omega)
        have HXX : Hid (∀ j u, (encU x)[j]? = some u → w4.cell? ((⟨g8, 0, none⟩ : Addr).add j) = some u) := Lib.hid (fun j u hu => by rw [add_lit', Nat.zero_add]; exact HX4.out.cellv hu)
        cases p with
        | true =>
          cases q with
          | true =>
            have hcA := HCA.out (HPA.out rfl)
            have HNA1 := Lib.hid (HPA.out rfl)
            have hcB := HCB.out (HPB.out rfl)
            have HNB1 := Lib.hid (HPB.out rfl)
            go_wp2_with (first
              | ((with_reducible refine (keepBoth_any _ _ _).mono ?_); rintro e w5 ⟨rfl, hw5⟩; subst w5)
              | (refine wpList_load_su rfl 42 (.tmp 8) rfl _ rfl elSum.2.1 szSum x HXX.out ?_)
              | (refine wpList_one_su rfl 24 42 elSet (.tmp 35) rfl x rfl ?_)
              | (refine wpList_append_su rfl 24 42 elSet (.tmp 34) (.tmp 36) rfl b _ L rfl (World.ownsRow.alloc HOWN.out _) (some ⟨w4.heap.size, 0, none⟩) [x] 1 1 (w4.heap.size + 1) rfl rfl (fun h => by cases h) (Ss.one (Has.made' w4 _ _ _ rfl) (Nat.lt_succ_self _)) HLEN.out (by have := HZ4.out; simp; omega) ?_; intro v6 w6 h1 h2; have HO := Lib.hid h1; have HB6 := Lib.hid h2; clear h1 h2))
            go_roundw
            case rel =>
              have HBX : Hid (Below b wr w6) := Lib.hid (HB4.out.trans (((Below.refl b w4).alloc HZ4.out _).trans HB6.out))
              refine ⟨A2.tail, B2.tail, L ++ [x], m, HTA.out HNA1.out _ HBX.out, HTB.out HNB1.out _ HBX.out, asc_tail HAA.out, asc_tail HAB.out, HO.out, ?_, ?_, ?_, HB.out.trans HBX.out, Nat.le_trans HBZ.out HBX.out.size⟩
              · have h := HEQ.out
                rw [HST.out] at h
                simpa [kBot] using h
              · have ha := HNA1.out; have hb := HNB1.out; have h1 := HTLA.out; have h2 := HTLB.out; have h3 := HNA.out; have h4 := HNB.out; omega
              · simp only [List.length_append, List.length_singleton]; omega
            case measure => have ha := HNA1.out; have hb := HNB1.out; simp only [lenV]; omega
          | false =>
            have hcA := HCA.out (HPA.out rfl)
            have HNA1 := Lib.hid (HPA.out rfl)
            go_wp2_with (first
              | ((with_reducible refine (keepBoth_any _ _ _).mono ?_); rintro e w5 ⟨rfl, hw5⟩; subst w5))
            go_roundw
            case rel =>
              have HBX : Hid (Below b wr w4) := Lib.hid (HB4.out)
              refine ⟨A2.tail, B2, L, m, HTA.out HNA1.out _ HBX.out, HUB.out _ HBX.out, asc_tail HAA.out, HAB.out, HOWN.out, ?_, ?_, ?_, HB.out.trans HBX.out, Nat.le_trans HBZ.out HBX.out.size⟩
              · have h := HEQ.out
                rw [HST.out] at h
                simpa [kBot] using h
              · have ha := HNA1.out; have h1 := HTLA.out; have h2 := HTLB.out; have h3 := HNA.out; have h4 := HNB.out; omega
              · omega
            case measure => have ha := HNA1.out; simp only [lenV]; omega
        | false =>
          cases q with
          | true =>
            have hcB := HCB.out (HPB.out rfl)
            have HNB1 := Lib.hid (HPB.out rfl)
            go_wp2_with (first
              | ((with_reducible refine (keepBoth_any _ _ _).mono ?_); rintro e w5 ⟨rfl, hw5⟩; subst w5))
            go_roundw
            case rel =>
              have HBX : Hid (Below b wr w4) := Lib.hid (HB4.out)
              refine ⟨A2, B2.tail, L, m, HUA.out _ HBX.out, HTB.out HNB1.out _ HBX.out, HAA.out, asc_tail HAB.out, HOWN.out, ?_, ?_, ?_, HB.out.trans HBX.out, Nat.le_trans HBZ.out HBX.out.size⟩
              · have h := HEQ.out
                rw [HST.out] at h
                simpa [kBot] using h
              · have hb := HNB1.out; have h1 := HTLA.out; have h2 := HTLB.out; have h3 := HNA.out; have h4 := HNB.out; omega
              · omega
            case measure => have hb := HNB1.out; simp only [lenV]; omega
          | false =>
            have h := HPQ.out
            simp at h
      · go_upto_region 5 with (first | ((with_reducible refine HL.out.mono ?_); rintro e w3 ⟨rfl, h1⟩; have HB3 := Lib.hid h1; clear h1 HL) | (refine wpList_store_row rfl 42 (.tmp 8) (.tmp 27) rfl w3.heap.size (encU x).toArray rfl rfl 42 zrU.toArray (heap_alloc_new _ _) (by rw [encU_size]; exact szSum) (by rw [encU_size]; rfl) (encU_all x) ?_))
        generalize hw4 : (w3.alloc _).setRow _ _ = w4
        have HX4 : Hid (Has w4 w3.heap.size 42 (encU x)) := Lib.hid (by subst hw4; exact Has.rowl (Has.made' w3 42 _ zrU rfl) _)
        have HB4 : Hid (Below wr.heap.size wr w4) := Lib.hid (by subst hw4; exact below_row (HB3.out.alloc HB3.out.size _) HB3.out.size _)
        clear hw4
        replace HOWN := Lib.hid (HOWN.out.keep HB4.out)
        have HZ4 := Lib.hid (Nat.le_trans HBZ.out HB4.out.size)
        replace HB4 := Lib.hid (HB4.out.mono HBZ.out)
        clear HB3
        generalize w3.heap.size = g8 at *
        have HLEN : Hid (L.length + 1 ≤ 4000000) := Lib.hid (by omega)
        have HXX : Hid (∀ j u, (encU x)[j]? = some u → w4.cell? ((⟨g8, 0, none⟩ : Addr).add j) = some u) := Lib.hid (fun j u hu => by rw [add_lit', Nat.zero_add]; exact HX4.out.cellv hu)
        cases p with
        | true =>
          cases q with
          | true =>
            exact absurd (HPA.out rfl) (by omega)
          | false =>
            exact absurd (HPA.out rfl) (by omega)
        | false =>
          cases q with
          | true =>
            have hcB := HCB.out (HPB.out rfl)
            have HNB1 := Lib.hid (HPB.out rfl)
            go_wp2_with (first
              | ((with_reducible refine (keepBoth_any _ _ _).mono ?_); rintro e w5 ⟨rfl, hw5⟩; subst w5))
            go_roundw
            case rel =>
              have HBX : Hid (Below b wr w4) := Lib.hid (HB4.out)
              refine ⟨A2, B2.tail, L, m, HUA.out _ HBX.out, HTB.out HNB1.out _ HBX.out, HAA.out, asc_tail HAB.out, HOWN.out, ?_, ?_, ?_, HB.out.trans HBX.out, Nat.le_trans HBZ.out HBX.out.size⟩
              · have h := HEQ.out
                rw [HST.out] at h
                simpa [kBot] using h
              · have hb := HNB1.out; have h1 := HTLA.out; have h2 := HTLB.out; have h3 := HNA.out; have h4 := HNB.out; omega
              · omega
            case measure => have hb := HNB1.out; simp only [lenV]; omega
          | false =>
            have h := HPQ.out
            simp at h
set_option maxHeartbeats 1000000 in
theorem setBoth_any (A B : List Su) (qa qb : Option Addr) (ca cb : Nat) (hA : A.length ≤ 1000000) (hB : B.length ≤ 1000000) (hca : A.length ≤ ca) (hcb : B.length ≤ cb) (hqa : qa = none → ca = 0) (hqb : qb = none → cb = 0) (w : World) (ha : Sees w w.heap.size qa (rowU A)) (hb : Sees w w.heap.size qb (rowU B)) :
    Calls Tryd.prog 21 #[.slice qa A.length ca, .slice qb B.length cb] w fun e w' => (∃ v, e = .returned v ∧ OwnU w' w.heap.size 42 v (botU A B)) ∧ Below w.heap.size w w' := by
  have HM := Lib.hid (mergeBoth_any A B qa qb ca cb hA hB hca hcb hqa hqb w ha hb)
  clear ha hb
  go_enter Tryd.func21, Tryd.ntmps21
  go_wp2_with ((with_reducible refine HM.out.mono ?_); rintro e w1 ⟨⟨v1, rfl, h1⟩, h2⟩; have HO1 := Lib.hid h1; have HB1 := Lib.hid h2; clear h1 h2)
  go_ret
  exact ⟨⟨_, rfl, HO1.out⟩, HB1.out⟩
end Go.Proofs.YtnkcehmgagpadaaDoor
/- Contracts: slices.BinarySearchFunc, slices.Equal over sums; package set's Has, Same. Condition: at most 10^6 sums. -/
namespace Go.Proofs.YtnkcehmgagpadaaDoor
open Go.RowKit
theorem eq_at {A B : List Su} (h : A.length = B.length) (ha : ∀ k (h1 : k < A.length) (h2 : k < B.length), A[k] = B[k]) : A = B := List.ext_getElem h ha
set_option maxHeartbeats 8000000 in
set_option maxRecDepth 100000 in
theorem equal_any (A B : List Su) (qa qb : Option Addr) (ca cb : Nat) (hA : A.length ≤ 1000000) (w : World) (ha : Sees w w.heap.size qa (rowU A)) (hb : Sees w w.heap.size qb (rowU B)) :
    Calls Tryd.prog 50 #[.slice qa A.length ca, .slice qb B.length cb] w fun e w' => e = .returned (.bool (decide (A = B))) ∧ Below w.heap.size w w' := by
  by_cases hl : A.length = B.length
  · have HSA := Lib.hid ha
    have HSB := Lib.hid hb
    have HLL := Lib.hid hl
    clear ha hb
    rw [← hl]
    generalize hn : A.length = n at *
    have HN := Lib.hid hn
    clear hn hl
    go_enter Tryd.func50, Tryd.ntmps50
    go_wp2_with fail
    go_loopw [13] (fun v wr => ∃ i : Nat, i ≤ n ∧ v = .int .i64 i ∧ (∀ k (h1 : k < A.length) (h2 : k < B.length), k < i → A[k] = B[k]) ∧ Below w.heap.size w wr) (fun v _ => n - (intOf v).toNat)
    case atStart => exact ⟨0, by omega, rfl, fun k _ _ h => by omega, Below.refl _ _⟩
    case round =>
      rename_i wr
      obtain ⟨i, hi, rfl, hall, hB⟩ := hrel
      have HALL := Lib.hid hall
      have HB := Lib.hid hB
      clear hall hB
      by_cases hlt : i < n
      · have hiA : i < A.length := by rw [HN.out]; exact hlt
        have hiB : i < B.length := by rw [← HLL.out]; exact hlt
        obtain ⟨a, rfl, _, hc⟩ := Ss.el HSA.out hiA
        obtain ⟨b, rfl, _, hc2⟩ := Ss.el HSB.out hiB
        have HNEW : Hid (A[i] = B[i] → ∀ k (h1 : k < A.length) (h2 : k < B.length), k < i + 1 → A[k] = B[k]) := Lib.hid (fun h k h1 h2 hk => by
          by_cases e : k = i
          · subst e; exact h
          · exact HALL.out k h1 h2 (by omega))
        have HBAD : Hid (A[i] ≠ B[i] → decide (A = B) = false) := Lib.hid (fun h => decide_eq_false fun e => h (by subst e; rfl))
        generalize A[i] = x at *
        generalize B[i] = y at *
        have HC := Lib.hid hc
        have HC2 := Lib.hid hc2
        have k1 : (i : Int) < (n : Int) := by omega
        clear hc hc2
        go_wp2_with fail
        refine wp_region_org [(0, true), (1, true), (2, true), (3, true), (4, true), (5, true), (6, true), (7, true), (8, true)] (by kernel_rfl) (by kernel_rfl) (by kernel_rfl) ?_
        replace HB := Lib.hid HB.out.drew
        generalize wr.drew = wd at *
        simp only [pickOrs, List.getElem?_cons_zero, List.getElem?_cons_succ]
        refine org_pure (v := ?_) (by kernel_rfl) ?_ ?_
        rotate_left
        · intro w' hv; clear hv; go_simp; try with_reducible rfl
        try simp only [Act.put, List.setIfInBounds_toArray, List.set_cons_zero, List.set_cons_succ]
        refine org_pure (v := ?_) (by kernel_rfl) ?_ ?_
        rotate_left
        · intro w' hv; clear hv; go_simp; try with_reducible rfl
        try simp only [Act.put, List.setIfInBounds_toArray, List.set_cons_zero, List.set_cons_succ]
        refine org_pure (v := ?_) (by kernel_rfl) ?_ ?_
        rotate_left
        · intro w' hv; clear hv; go_simp; try with_reducible rfl
        try simp only [Act.put, List.setIfInBounds_toArray, List.set_cons_zero, List.set_cons_succ]
        refine org_pure (by kernel_rfl) (fun w' hv => load_su 42 (.tmp 18) rfl _ rfl elSum.2.1 szSum x ((fun w' hv => HC.out w' (HB.out.trans (Below.mono hv HB.out.size))) w' hv)) ?_
        try simp only [Act.put, List.setIfInBounds_toArray, List.set_cons_zero, List.set_cons_succ]
        refine org_pure (v := ?_) (by kernel_rfl) ?_ ?_
        rotate_left
        · intro w' hv; clear hv; go_simp; try with_reducible rfl
        try simp only [Act.put, List.setIfInBounds_toArray, List.set_cons_zero, List.set_cons_succ]
        refine org_pure (v := ?_) (by kernel_rfl) ?_ ?_
        rotate_left
        · intro w' hv; clear hv; go_simp; try with_reducible rfl
        try simp only [Act.put, List.setIfInBounds_toArray, List.set_cons_zero, List.set_cons_succ]
        refine org_pure (v := ?_) (by kernel_rfl) ?_ ?_
        rotate_left
        · intro w' hv; clear hv; go_simp; try with_reducible rfl
        try simp only [Act.put, List.setIfInBounds_toArray, List.set_cons_zero, List.set_cons_succ]
        refine org_pure (by kernel_rfl) (fun w' hv => load_su 42 (.tmp 22) rfl _ rfl elSum.2.1 szSum y ((fun w' hv => HC2.out w' (HB.out.trans (Below.mono hv HB.out.size))) w' hv)) ?_
        try simp only [Act.put, List.setIfInBounds_toArray, List.set_cons_zero, List.set_cons_succ]
        refine org_pure (by kernel_rfl) (fun w' hv => neq_su 42 (.tmp 19) (.tmp 23) _ rfl x y rfl rfl elSum.2.1 gdSum) ?_
        try simp only [Act.put, List.setIfInBounds_toArray, List.set_cons_zero, List.set_cons_succ]
        refine org_nil ?_
        by_cases hxy : x = y
        · have HN2 := Lib.hid (HNEW.out hxy)
          rw [decide_eq_true hxy]
          clear HNEW HBAD hxy
          go_wp2_with fail
          go_roundw
          case rel => exact ⟨i + 1, by omega, by go_num, HN2.out, HB.out⟩
          case measure => simp [intOf]; omega
        · have HN2 := Lib.hid (HBAD.out hxy)
          rw [decide_eq_false hxy]
          clear HNEW HBAD hxy
          go_wp2_with fail
          go_ret
          exact ⟨congrArg (fun b => Ending.returned (.bool b)) HN2.out.symm, HB.out⟩
      · have hil : i = n := by omega
        subst hil
        have HR : Hid (decide (A = B) = true) := Lib.hid (decide_eq_true (eq_at (by rw [HN.out]; exact HLL.out) fun k h1 h2 => HALL.out k h1 h2 (by rw [← HN.out]; exact h1)))
        have k1 : ¬ (i : Int) < (i : Int) := by omega
        go_wp2_with fail
        go_ret
        exact ⟨congrArg (fun b => Ending.returned (.bool b)) HR.out.symm, HB.out⟩
  · have k1 : ¬ (A.length : Int) = (B.length : Int) := by omega
    have HR : Hid (decide (A = B) = false) := Lib.hid (decide_eq_false fun e => hl (by rw [e]))
    clear ha hb hl
    generalize A.length = n at *
    generalize B.length = m at *
    go_enter Tryd.func50, Tryd.ntmps50
    go_wp2_with fail
    go_ret
    exact ⟨congrArg (fun b => Ending.returned (.bool b)) HR.out.symm, Below.refl _ _⟩
set_option maxHeartbeats 4000000 in
theorem same_any (A B : List Su) (qa qb : Option Addr) (ca cb : Nat) (hA : A.length ≤ 1000000) (w : World) (ha : Sees w w.heap.size qa (rowU A)) (hb : Sees w w.heap.size qb (rowU B)) :
    Calls Tryd.prog 24 #[.slice qa A.length ca, .slice qb B.length cb] w fun e w' => e = .returned (.bool (goodU A && decide (A = B))) ∧ Below w.heap.size w w' := by
  have HG := Lib.hid (good_any A qa ca (by omega) w ha)
  have HE := Lib.hid (fun w1 (hw : Below w.heap.size w w1) => equal_any A B qa qb ca cb hA w1 ((ha.keep hw).more hw.size) ((hb.keep hw).more hw.size))
  clear ha hb
  cases hg : goodU A with
  | false =>
    rw [hg] at HG
    clear hg
    go_enter Tryd.func24, Tryd.ntmps24
    go_wp2_with ((with_reducible refine HG.out.mono ?_); rintro e w1 ⟨rfl, h1⟩; have HB1 := Lib.hid h1; clear h1)
    go_ret
    exact ⟨(by rw [Bool.false_and]; rfl), HB1.out⟩
  | true =>
    rw [hg] at HG
    clear hg
    go_enter Tryd.func24, Tryd.ntmps24
    go_wp2_with (first | ((with_reducible refine HG.out.mono ?_); rintro e w1 ⟨rfl, h1⟩; have HB1 := Lib.hid h1; clear h1) | ((with_reducible refine (HE.out _ HB1.out).mono ?_); rintro e w2 ⟨rfl, h1⟩; have HB2 := Lib.hid (HB1.out.trans (h1.mono HB1.out.size)); clear h1))
    go_ret
    exact ⟨(by rw [Bool.true_and]; rfl), HB2.out⟩
end Go.Proofs.YtnkcehmgagpadaaDoor
/- Package set's calls over values that are told by what they read as: a slice's place, its length, its room, its sums. Condition: at most 10^6 sums each. -/
namespace Go.Proofs.YtnkcehmgagpadaaDoor
open Go.RowKit
/-- The slice of n sums with room c reads as L. -/
def U (w : World) (q : Option Addr) (n c : Nat) (L : List Su) : Prop := L.length = n ∧ n ≤ c ∧ (q = none → c = 0) ∧ Sees w w.heap.size q (rowU L)
theorem U.len {w : World} {q : Option Addr} {n c : Nat} {L : List Su} (h : U w q n c L) : L.length = n := h.1
theorem U.keep {w w' : World} {q : Option Addr} {n c : Nat} {L : List Su} (h : U w q n c L) (hb : Below w.heap.size w w') : U w' q n c L := ⟨h.1, h.2.1, h.2.2.1, (h.2.2.2.keep hb).more hb.size⟩
theorem U.drew {w : World} {q : Option Addr} {n c : Nat} {L : List Su} (h : U w q n c L) : U w.drew q n c L := h
theorem U.of {w : World} {v : Value} {L : List Su} (h : Us w v L) : ∃ q n c, v = .slice q n c ∧ U w q n c L := by
  obtain ⟨q, c, h1, h2, h3, h4⟩ := h
  exact ⟨q, L.length, c, h1, rfl, h2, h3, h4⟩
/-- A call that answers a set. -/
abbrev Ans (P : Program) (f : FuncId) (args : Array Value) (w : World) (L : List Su) : Prop := Calls P f args w fun e w' => (∃ q n c, e = .returned (.slice q n c) ∧ U w' q n c L) ∧ Below w.heap.size w w'
theorem ans_of {f : FuncId} {args : Array Value} {w : World} {L : List Su} {E : TypeId} (h : Calls Tryd.prog f args w fun e w' => (∃ v, e = .returned v ∧ OwnU w' w.heap.size E v L) ∧ Below w.heap.size w w') : Ans Tryd.prog f args w L := by
  refine Calls.mono h ?_
  rintro e w' ⟨⟨v, rfl, h1⟩, h2⟩
  obtain ⟨q, n, c, rfl, h3⟩ := U.of h1.us
  exact ⟨⟨q, n, c, rfl, h3⟩, h2⟩
theorem u_minus {w : World} {qa qb : Option Addr} {na nb ca cb : Nat} {A B : List Su} (ha : U w qa na ca A) (hb : U w qb nb cb B) (h1 : na ≤ 1000000) (h2 : nb ≤ 1000000) : Ans Tryd.prog 20 #[.slice qa na ca, .slice qb nb cb] w (minU A B) := by
  obtain ⟨rfl, a2, a3, a4⟩ := ha
  obtain ⟨rfl, b2, b3, b4⟩ := hb
  exact ans_of (setMinus_any A B qa qb ca cb h1 h2 a2 b2 a3 b3 w a4 b4)
theorem u_both {w : World} {qa qb : Option Addr} {na nb ca cb : Nat} {A B : List Su} (ha : U w qa na ca A) (hb : U w qb nb cb B) (h1 : na ≤ 1000000) (h2 : nb ≤ 1000000) : Ans Tryd.prog 21 #[.slice qa na ca, .slice qb nb cb] w (botU A B) := by
  obtain ⟨rfl, a2, a3, a4⟩ := ha
  obtain ⟨rfl, b2, b3, b4⟩ := hb
  exact ans_of (setBoth_any A B qa qb ca cb h1 h2 a2 b2 a3 b3 w a4 b4)
/-- A call that answers yes or no. -/
abbrev Tells (P : Program) (f : FuncId) (args : Array Value) (w : World) (b : Bool) : Prop := Calls P f args w fun e w' => e = .returned (.bool b) ∧ Below w.heap.size w w'
theorem u_same {w : World} {qa qb : Option Addr} {na nb ca cb : Nat} {A B : List Su} (ha : U w qa na ca A) (hb : U w qb nb cb B) (h1 : na ≤ 1000000) (r : Bool) (hr : (goodU A && decide (A = B)) = r) : Tells Tryd.prog 24 #[.slice qa na ca, .slice qb nb cb] w r := by
  obtain ⟨rfl, _, _, a4⟩ := ha
  obtain ⟨rfl, _, _, b4⟩ := hb
  subst hr
  exact same_any A B qa qb ca cb h1 w a4 b4
theorem u_good {w : World} {q : Option Addr} {n c : Nat} {L : List Su} (h : U w q n c L) (hn : n ≤ 1000000) (r : Bool) (hr : goodU L = r) : Tells Tryd.prog 34 #[.slice q n c] w r := by
  obtain ⟨rfl, _, _, h4⟩ := h
  subst hr
  exact good_any L q c (by omega) w h4
end Go.Proofs.YtnkcehmgagpadaaDoor
/- Package set's calls over values that read as these sums. Condition: at most 10^4 sums each. -/
namespace Go.Proofs.YtnkcehmgagpadaaDoor
open Go.RowKit
theorem us_good {v0 : Value} {A : List Su} {w : World} (h : Us w v0 A) (hn : A.length ≤ 10000) : Calls Tryd.prog 34 #[v0] w fun e w' => (∃ v, e = .returned v ∧ v = .bool (goodU A)) ∧ Below w.heap.size w w' := by
  obtain ⟨q, c, rfl, h2, h3, h4⟩ := h
  refine Calls.mono (u_good (⟨rfl, h2, h3, h4⟩ : U w q A.length c A) (by omega) _ rfl) ?_
  rintro e w' ⟨rfl, h6⟩
  exact ⟨⟨_, rfl, rfl⟩, h6⟩
theorem us_minus {v0 v1 : Value} {A B : List Su} {w : World} (h : Us w v0 A) (k : Us w v1 B) (hn : A.length ≤ 10000) (hm : B.length ≤ 10000) : Calls Tryd.prog 20 #[v0, v1] w fun e w' => (∃ v, e = .returned v ∧ Us w' v (minU A B)) ∧ Below w.heap.size w w' := by
  obtain ⟨q, c, rfl, h2, h3, h4⟩ := h
  obtain ⟨p, d, rfl, k2, k3, k4⟩ := k
  refine Calls.mono (u_minus (⟨rfl, h2, h3, h4⟩ : U w q A.length c A) (⟨rfl, k2, k3, k4⟩ : U w p B.length d B) (by omega) (by omega)) ?_
  rintro e w' ⟨⟨q5, n5, c5, rfl, h5⟩, h6⟩
  obtain ⟨rfl, g2, g3, g4⟩ := h5
  exact ⟨⟨_, rfl, _, _, rfl, g2, g3, g4⟩, h6⟩
theorem us_both {v0 v1 : Value} {A B : List Su} {w : World} (h : Us w v0 A) (k : Us w v1 B) (hn : A.length ≤ 10000) (hm : B.length ≤ 10000) : Calls Tryd.prog 21 #[v0, v1] w fun e w' => (∃ v, e = .returned v ∧ Us w' v (botU A B)) ∧ Below w.heap.size w w' := by
  obtain ⟨q, c, rfl, h2, h3, h4⟩ := h
  obtain ⟨p, d, rfl, k2, k3, k4⟩ := k
  refine Calls.mono (u_both (⟨rfl, h2, h3, h4⟩ : U w q A.length c A) (⟨rfl, k2, k3, k4⟩ : U w p B.length d B) (by omega) (by omega)) ?_
  rintro e w' ⟨⟨q5, n5, c5, rfl, h5⟩, h6⟩
  obtain ⟨rfl, g2, g3, g4⟩ := h5
  exact ⟨⟨_, rfl, _, _, rfl, g2, g3, g4⟩, h6⟩
theorem us_same {v0 v1 : Value} {A B : List Su} {w : World} (h : Us w v0 A) (k : Us w v1 B) (hn : A.length ≤ 10000) (_hm : B.length ≤ 10000) : Calls Tryd.prog 24 #[v0, v1] w fun e w' => (∃ v, e = .returned v ∧ v = .bool (goodU A && decide (A = B))) ∧ Below w.heap.size w w' := by
  obtain ⟨q, c, rfl, h2, h3, h4⟩ := h
  obtain ⟨p, d, rfl, k2, k3, k4⟩ := k
  refine Calls.mono (u_same (⟨rfl, h2, h3, h4⟩ : U w q A.length c A) (⟨rfl, k2, k3, k4⟩ : U w p B.length d B) (by omega) _ rfl) ?_
  rintro e w' ⟨rfl, h6⟩
  exact ⟨⟨_, rfl, rfl⟩, h6⟩
end Go.Proofs.YtnkcehmgagpadaaDoor
