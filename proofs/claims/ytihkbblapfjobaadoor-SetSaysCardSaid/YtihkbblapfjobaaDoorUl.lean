/- Contracts: package set's least, merge with each of its three keeps, Minus, Both, Either. Condition: at most 10^6 sums each. -/
import Derived.Test.YtihkbblapfjobaaDoorGu
namespace Go.Proofs.YtihkbblapfjobaaDoor
open Go.RowKit
theorem results_three {fn : Func} {p u v : Tmp} {ty : TypeId} (h : fn.results = #[.cell p ty, .tmp u, .tmp v]) (tmps : Array Value) (w : World) (g : Nat) (t : TypeId) (cs : Array Value) (fr : Nat × Nat)
    (hp : tmps.getD p undef = .pointer (some ⟨g, 0, none⟩)) (hg : w.heap[g]? = some (.cells cs t fr)) (x y : Value) (hx : tmps.getD u undef = x) (hy : tmps.getD v undef = y)
    (hu : Tryd.prog.underlying ty = some (.array 32 5)) (hi : (Tryd.prog.info? ty).map (·.size) = some cs.size) :
    (results fn tmps).run Tryd.prog w = .ok (.tuple #[.agg cs, x, y]) w := by
  have hp' : tmps[p]?.getD undef = .pointer (some ⟨g, 0, none⟩) := by simpa using hp
  have hx' : tmps[u]?.getD undef = x := by simpa using hx
  have hy' : tmps[v]?.getD undef = y := by simpa using hy
  simp [results, h, hp', hx', hy', asAddr, run_loadVar_row w g t ty cs fr _ hg hu rfl hi]
def zrU : List Value := List.replicate 32 (.int .u8 0)
theorem zrU_len : zrU.length = 32 := rfl
theorem Us.parts {w : World} {q : Option Addr} {n c : Nat} {L : List Su} (hn : n = L.length) (hc : L.length ≤ c) (hq : q = none → c = 0) (hs : Sees w w.heap.size q (rowU L)) : Us w (.slice q n c) L := by
  subst hn; exact ⟨q, c, rfl, hc, hq, hs⟩
def tlQ (q : Option Addr) (c : Nat) : Option Addr := if c = 1 then q else q.map (·.add 32)
theorem cut1_su (T E : TypeId) (hT : ElT T E) (q : Option Addr) (n c : Nat) (hk : 1 ≤ n) (w : World) :
    (Instr.slice T (.slice q n c) (some (.int .i64 1)) none none).run Tryd.prog w = .ok (.slice (tlQ q c) (n - 1) (c - 1)) w := by
  have := cut_su T E hT q n c 1 hk w
  rw [Nat.one_mul] at this
  exact this
theorem tl_us {w : World} {q : Option Addr} {c : Nat} {L : List Su} (h0 : 0 < L.length) (hc : L.length ≤ c) (hq : q = none → c = 0) (hs : Sees w w.heap.size q (rowU L)) : Us w (.slice (tlQ q c) (L.length - 1) (c - 1)) L.tail := by
  have h1 := Sees.cutU (c := c) (k := 1) hs hc
  rw [Nat.one_mul, List.drop_one] at h1
  refine Us.parts (by rw [List.length_tail]) (by rw [List.length_tail]; omega) (fun h => ?_) h1
  have := cutU_none (k := 1) (n := 32) hq h
  omega
set_option maxHeartbeats 4000000 in
set_option maxRecDepth 100000 in
theorem least_left (w : World) (A B : List Su) (qa qb : Option Addr) (ca cb : Nat) (hA : A.length = 0) (y : Su) (a : Addr) (hqb : qb = some a) (hB : 0 < B.length) (hy : ∀ w', Below w.heap.size w w' → ∀ j u, (encU y)[j]? = some u → w'.cell? (a.add j) = some u) :
    Calls Tryd.prog 71 #[.slice qa A.length ca, .slice qb B.length cb] w fun e w' => e = .returned (.tuple #[aggU y, .bool false, .bool true]) ∧ Below w.heap.size w w' := by
  subst hqb
  have hA0 : (A.length : Int) = 0 := by omega
  have hB0 : (0 : Int) < (B.length : Int) := by omega
  have HY0 := Lib.hid hy
  clear hy
  have hR := Lib.hid ((Below.refl w.heap.size w).alloc (Nat.le_refl _) (.cells zrU.toArray 24))
  have HZ : Hid (Has (w.alloc (.cells zrU.toArray 24)) w.heap.size 24 zrU) := Lib.hid (Has.made' w _ _ _ rfl)
  go_enter Tryd.func71, Tryd.ntmps71
  have HY := Lib.hid (HY0.out _ hR.out)
  have hz : a.add (0 * 32) = a := by simp [Addr.add]
  go_wp2_with (first | (refine wpList_load_su rfl 24 (.tmp 13) rfl _ rfl elSum.2.1 szSum y HY.out ?_) | (refine wpList_store_row rfl 24 (.tmp 4) (.tmp 14) rfl w.heap.size (encU y).toArray rfl rfl 24 _ HZ.out (by rw [encU_size]; exact szSum) (by rw [encU_size]; rfl) (encU_all y) ?_))
  refine bodyPost_ret (v := .tuple #[aggU y, .bool false, .bool true]) ?_ rfl ⟨rfl, below_row hR.out (Nat.le_refl _) _⟩
  exact results_three rfl _ _ w.heap.size 24 _ (0, 0) rfl (Has.rowl HZ.out _) _ _ rfl rfl Tryd.underlying24 (by rw [encU_size]; exact szSum)
set_option maxHeartbeats 4000000 in
set_option maxRecDepth 100000 in
theorem least_right (w : World) (A B : List Su) (qa qb : Option Addr) (ca cb : Nat) (hA : 0 < A.length) (x : Su) (a : Addr) (hqa : qa = some a) (hB : B.length = 0) (hx : ∀ w', Below w.heap.size w w' → ∀ j u, (encU x)[j]? = some u → w'.cell? (a.add j) = some u) :
    Calls Tryd.prog 71 #[.slice qa A.length ca, .slice qb B.length cb] w fun e w' => e = .returned (.tuple #[aggU x, .bool true, .bool false]) ∧ Below w.heap.size w w' := by
  subst hqa
  have hA0 : ¬ (A.length : Int) = 0 := by omega
  have hA1 : (0 : Int) < (A.length : Int) := by omega
  have hB0 : (B.length : Int) = 0 := by omega
  have HX0 := Lib.hid hx
  clear hx
  have hR := Lib.hid ((Below.refl w.heap.size w).alloc (Nat.le_refl _) (.cells zrU.toArray 24))
  have HZ : Hid (Has (w.alloc (.cells zrU.toArray 24)) w.heap.size 24 zrU) := Lib.hid (Has.made' w _ _ _ rfl)
  go_enter Tryd.func71, Tryd.ntmps71
  have HX := Lib.hid (HX0.out _ hR.out)
  go_wp2_with (first | (refine wpList_load_su rfl 24 (.tmp 20) rfl _ rfl elSum.2.1 szSum x HX.out ?_) | (refine wpList_store_row rfl 24 (.tmp 4) (.tmp 21) rfl w.heap.size (encU x).toArray rfl rfl 24 _ HZ.out (by rw [encU_size]; exact szSum) (by rw [encU_size]; rfl) (encU_all x) ?_))
  refine bodyPost_ret (v := .tuple #[aggU x, .bool true, .bool false]) ?_ rfl ⟨rfl, below_row hR.out (Nat.le_refl _) _⟩
  exact results_three rfl _ _ w.heap.size 24 _ (0, 0) rfl (Has.rowl HZ.out _) _ _ rfl rfl Tryd.underlying24 (by rw [encU_size]; exact szSum)
set_option maxHeartbeats 4000000 in
set_option maxRecDepth 100000 in
theorem least_lt (w : World) (A B : List Su) (qa qb : Option Addr) (ca cb : Nat) (hA : 0 < A.length) (hB : 0 < B.length) (x y : Su) (a b : Addr) (hqa : qa = some a) (hqb : qb = some b) (hc : cmpU x y = -1) (hx : ∀ w', Below w.heap.size w w' → ∀ j u, (encU x)[j]? = some u → w'.cell? (a.add j) = some u) (hy : ∀ w', Below w.heap.size w w' → ∀ j u, (encU y)[j]? = some u → w'.cell? (b.add j) = some u) :
    Calls Tryd.prog 71 #[.slice qa A.length ca, .slice qb B.length cb] w fun e w' => e = .returned (.tuple #[aggU x, .bool true, .bool false]) ∧ Below w.heap.size w w' := by
  subst hqa hqb
  have hA0 : ¬ (A.length : Int) = 0 := by omega
  have hA1 : (0 : Int) < (A.length : Int) := by omega
  have hB0 : ¬ (B.length : Int) = 0 := by omega
  have hB1 : (0 : Int) < (B.length : Int) := by omega
  have HX0 := Lib.hid hx
  have HY0 := Lib.hid hy
  have HC := Lib.hid (fun w1 => cmpS_any x y w1)
  rw [hc] at HC
  clear hx hy hc
  have hR := Lib.hid ((Below.refl w.heap.size w).alloc (Nat.le_refl _) (.cells zrU.toArray 24))
  have HZ : Hid (Has (w.alloc (.cells zrU.toArray 24)) w.heap.size 24 zrU) := Lib.hid (Has.made' w _ _ _ rfl)
  go_enter Tryd.func71, Tryd.ntmps71
  clear hR HZ
  go_wp2_with fail
  generalize hw0 : w.alloc _ = w0
  have hR : Hid (Below w.heap.size w w0) := Lib.hid (by subst hw0; exact (Below.refl _ _).alloc (Nat.le_refl _) _)
  have HZ : Hid (Has w0 w.heap.size 24 zrU) := Lib.hid (by subst hw0; exact Has.made' _ _ _ _ rfl)
  clear hw0
  refine wp_region_org [(0, true), (1, true), (2, true), (3, true), (4, true), (5, true), (6, false), (7, true)] (by kernel_rfl) (by kernel_rfl) (by kernel_rfl) ?_
  replace hR := Lib.hid hR.out.drew
  replace HZ := Lib.hid HZ.out.drew
  generalize w0.drew = wd at *
  simp only [pickOrs, List.getElem?_cons_zero, List.getElem?_cons_succ]
  refine org_pure (v := ?_) (by kernel_rfl) ?_ ?_
  rotate_left
  · intro w' hv; clear hv; go_simp; try with_reducible rfl
  try simp only [Act.put, List.setIfInBounds_toArray, List.set_cons_zero, List.set_cons_succ]
  refine org_pure (v := ?_) (by kernel_rfl) ?_ ?_
  rotate_left
  · intro w' hv; clear hv; go_simp; try with_reducible rfl
  try simp only [Act.put, List.setIfInBounds_toArray, List.set_cons_zero, List.set_cons_succ]
  refine org_pure (by kernel_rfl) (fun w' hv => load_su 24 (.tmp 23) rfl _ rfl elSum.2.1 szSum x ((fun w' hv => HX0.out w' (hR.out.trans (Below.mono hv hR.out.size))) w' hv)) ?_
  try simp only [Act.put, List.setIfInBounds_toArray, List.set_cons_zero, List.set_cons_succ]
  refine org_pure (v := ?_) (by kernel_rfl) ?_ ?_
  rotate_left
  · intro w' hv; clear hv; go_simp; try with_reducible rfl
  try simp only [Act.put, List.setIfInBounds_toArray, List.set_cons_zero, List.set_cons_succ]
  refine org_pure (v := ?_) (by kernel_rfl) ?_ ?_
  rotate_left
  · intro w' hv; clear hv; go_simp; try with_reducible rfl
  try simp only [Act.put, List.setIfInBounds_toArray, List.set_cons_zero, List.set_cons_succ]
  refine org_pure (by kernel_rfl) (fun w' hv => load_su 24 (.tmp 26) rfl _ rfl elSum.2.1 szSum y ((fun w' hv => HY0.out w' (hR.out.trans (Below.mono hv hR.out.size))) w' hv)) ?_
  try simp only [Act.put, List.setIfInBounds_toArray, List.set_cons_zero, List.set_cons_succ]
  refine org_step (by kernel_rfl) (fun K hK => ?_)
  go_wp2_with fail
  refine (HC.out _).mono ?_
  rintro e wx ⟨rfl, hb⟩
  have HE := Lib.hid hb
  clear hb
  refine hK _ _ ⟨HE.out, ?_⟩
  clear hK
  try simp only [Act.put, List.setIfInBounds_toArray, List.set_cons_zero, List.set_cons_succ]
  refine org_pure (v := ?_) (by kernel_rfl) ?_ ?_
  rotate_left
  · intro w' hv; clear hv; go_simp; try with_reducible rfl
  try simp only [Act.put, List.setIfInBounds_toArray, List.set_cons_zero, List.set_cons_succ]
  refine org_nil ?_
  replace HZ := Lib.hid (HZ.out.keep HE.out HZ.out.lt)
  replace hR := Lib.hid (hR.out.trans (HE.out.mono hR.out.size))
  have HS := Lib.hid (HX0.out _ hR.out)
  go_wp2_with (first | (refine wpList_load_su rfl 24 (.tmp 32) rfl _ rfl elSum.2.1 szSum x HS.out ?_) | (refine wpList_store_row rfl 24 (.tmp 4) (.tmp 33) rfl w.heap.size (encU x).toArray rfl rfl 24 _ HZ.out (by rw [encU_size]; exact szSum) (by rw [encU_size]; rfl) (encU_all x) ?_))
  refine bodyPost_ret (v := .tuple #[aggU x, .bool true, .bool false]) ?_ rfl ⟨rfl, below_row hR.out (Nat.le_refl _) _⟩
  exact results_three rfl _ _ w.heap.size 24 _ (0, 0) rfl (Has.rowl HZ.out _) _ _ rfl rfl Tryd.underlying24 (by rw [encU_size]; exact szSum)
set_option maxHeartbeats 4000000 in
set_option maxRecDepth 100000 in
theorem least_eq (w : World) (A B : List Su) (qa qb : Option Addr) (ca cb : Nat) (hA : 0 < A.length) (hB : 0 < B.length) (x y : Su) (a b : Addr) (hqa : qa = some a) (hqb : qb = some b) (hc : cmpU x y = 0) (hx : ∀ w', Below w.heap.size w w' → ∀ j u, (encU x)[j]? = some u → w'.cell? (a.add j) = some u) (hy : ∀ w', Below w.heap.size w w' → ∀ j u, (encU y)[j]? = some u → w'.cell? (b.add j) = some u) :
    Calls Tryd.prog 71 #[.slice qa A.length ca, .slice qb B.length cb] w fun e w' => e = .returned (.tuple #[aggU x, .bool true, .bool true]) ∧ Below w.heap.size w w' := by
  subst hqa hqb
  have hA0 : ¬ (A.length : Int) = 0 := by omega
  have hA1 : (0 : Int) < (A.length : Int) := by omega
  have hB0 : ¬ (B.length : Int) = 0 := by omega
  have hB1 : (0 : Int) < (B.length : Int) := by omega
  have HX0 := Lib.hid hx
  have HY0 := Lib.hid hy
  have HC := Lib.hid (fun w1 => cmpS_any x y w1)
  rw [hc] at HC
  clear hx hy hc
  have hR := Lib.hid ((Below.refl w.heap.size w).alloc (Nat.le_refl _) (.cells zrU.toArray 24))
  have HZ : Hid (Has (w.alloc (.cells zrU.toArray 24)) w.heap.size 24 zrU) := Lib.hid (Has.made' w _ _ _ rfl)
  go_enter Tryd.func71, Tryd.ntmps71
  clear hR HZ
  go_wp2_with fail
  generalize hw0 : w.alloc _ = w0
  have hR : Hid (Below w.heap.size w w0) := Lib.hid (by subst hw0; exact (Below.refl _ _).alloc (Nat.le_refl _) _)
  have HZ : Hid (Has w0 w.heap.size 24 zrU) := Lib.hid (by subst hw0; exact Has.made' _ _ _ _ rfl)
  clear hw0
  refine wp_region_org [(0, true), (1, true), (2, true), (3, true), (4, true), (5, true), (6, false), (7, true)] (by kernel_rfl) (by kernel_rfl) (by kernel_rfl) ?_
  replace hR := Lib.hid hR.out.drew
  replace HZ := Lib.hid HZ.out.drew
  generalize w0.drew = wd at *
  simp only [pickOrs, List.getElem?_cons_zero, List.getElem?_cons_succ]
  refine org_pure (v := ?_) (by kernel_rfl) ?_ ?_
  rotate_left
  · intro w' hv; clear hv; go_simp; try with_reducible rfl
  try simp only [Act.put, List.setIfInBounds_toArray, List.set_cons_zero, List.set_cons_succ]
  refine org_pure (v := ?_) (by kernel_rfl) ?_ ?_
  rotate_left
  · intro w' hv; clear hv; go_simp; try with_reducible rfl
  try simp only [Act.put, List.setIfInBounds_toArray, List.set_cons_zero, List.set_cons_succ]
  refine org_pure (by kernel_rfl) (fun w' hv => load_su 24 (.tmp 23) rfl _ rfl elSum.2.1 szSum x ((fun w' hv => HX0.out w' (hR.out.trans (Below.mono hv hR.out.size))) w' hv)) ?_
  try simp only [Act.put, List.setIfInBounds_toArray, List.set_cons_zero, List.set_cons_succ]
  refine org_pure (v := ?_) (by kernel_rfl) ?_ ?_
  rotate_left
  · intro w' hv; clear hv; go_simp; try with_reducible rfl
  try simp only [Act.put, List.setIfInBounds_toArray, List.set_cons_zero, List.set_cons_succ]
  refine org_pure (v := ?_) (by kernel_rfl) ?_ ?_
  rotate_left
  · intro w' hv; clear hv; go_simp; try with_reducible rfl
  try simp only [Act.put, List.setIfInBounds_toArray, List.set_cons_zero, List.set_cons_succ]
  refine org_pure (by kernel_rfl) (fun w' hv => load_su 24 (.tmp 26) rfl _ rfl elSum.2.1 szSum y ((fun w' hv => HY0.out w' (hR.out.trans (Below.mono hv hR.out.size))) w' hv)) ?_
  try simp only [Act.put, List.setIfInBounds_toArray, List.set_cons_zero, List.set_cons_succ]
  refine org_step (by kernel_rfl) (fun K hK => ?_)
  go_wp2_with fail
  refine (HC.out _).mono ?_
  rintro e wx ⟨rfl, hb⟩
  have HE := Lib.hid hb
  clear hb
  refine hK _ _ ⟨HE.out, ?_⟩
  clear hK
  try simp only [Act.put, List.setIfInBounds_toArray, List.set_cons_zero, List.set_cons_succ]
  refine org_pure (v := ?_) (by kernel_rfl) ?_ ?_
  rotate_left
  · intro w' hv; clear hv; go_simp; try with_reducible rfl
  try simp only [Act.put, List.setIfInBounds_toArray, List.set_cons_zero, List.set_cons_succ]
  refine org_nil ?_
  replace HZ := Lib.hid (HZ.out.keep HE.out HZ.out.lt)
  replace hR := Lib.hid (hR.out.trans (HE.out.mono hR.out.size))
  have HS := Lib.hid (HX0.out _ hR.out)
  go_wp2_with (first | (refine wpList_load_su rfl 24 (.tmp 32) rfl _ rfl elSum.2.1 szSum x HS.out ?_) | (refine wpList_store_row rfl 24 (.tmp 4) (.tmp 33) rfl w.heap.size (encU x).toArray rfl rfl 24 _ HZ.out (by rw [encU_size]; exact szSum) (by rw [encU_size]; rfl) (encU_all x) ?_))
  refine bodyPost_ret (v := .tuple #[aggU x, .bool true, .bool true]) ?_ rfl ⟨rfl, below_row hR.out (Nat.le_refl _) _⟩
  exact results_three rfl _ _ w.heap.size 24 _ (0, 0) rfl (Has.rowl HZ.out _) _ _ rfl rfl Tryd.underlying24 (by rw [encU_size]; exact szSum)
set_option maxHeartbeats 4000000 in
set_option maxRecDepth 100000 in
theorem least_gt (w : World) (A B : List Su) (qa qb : Option Addr) (ca cb : Nat) (hA : 0 < A.length) (hB : 0 < B.length) (x y : Su) (a b : Addr) (hqa : qa = some a) (hqb : qb = some b) (hc : cmpU x y = 1) (hx : ∀ w', Below w.heap.size w w' → ∀ j u, (encU x)[j]? = some u → w'.cell? (a.add j) = some u) (hy : ∀ w', Below w.heap.size w w' → ∀ j u, (encU y)[j]? = some u → w'.cell? (b.add j) = some u) :
    Calls Tryd.prog 71 #[.slice qa A.length ca, .slice qb B.length cb] w fun e w' => e = .returned (.tuple #[aggU y, .bool false, .bool true]) ∧ Below w.heap.size w w' := by
  subst hqa hqb
  have hA0 : ¬ (A.length : Int) = 0 := by omega
  have hA1 : (0 : Int) < (A.length : Int) := by omega
  have hB0 : ¬ (B.length : Int) = 0 := by omega
  have hB1 : (0 : Int) < (B.length : Int) := by omega
  have HX0 := Lib.hid hx
  have HY0 := Lib.hid hy
  have HC := Lib.hid (fun w1 => cmpS_any x y w1)
  rw [hc] at HC
  clear hx hy hc
  have hR := Lib.hid ((Below.refl w.heap.size w).alloc (Nat.le_refl _) (.cells zrU.toArray 24))
  have HZ : Hid (Has (w.alloc (.cells zrU.toArray 24)) w.heap.size 24 zrU) := Lib.hid (Has.made' w _ _ _ rfl)
  go_enter Tryd.func71, Tryd.ntmps71
  clear hR HZ
  go_wp2_with fail
  generalize hw0 : w.alloc _ = w0
  have hR : Hid (Below w.heap.size w w0) := Lib.hid (by subst hw0; exact (Below.refl _ _).alloc (Nat.le_refl _) _)
  have HZ : Hid (Has w0 w.heap.size 24 zrU) := Lib.hid (by subst hw0; exact Has.made' _ _ _ _ rfl)
  clear hw0
  refine wp_region_org [(0, true), (1, true), (2, true), (3, true), (4, true), (5, true), (6, false), (7, true)] (by kernel_rfl) (by kernel_rfl) (by kernel_rfl) ?_
  replace hR := Lib.hid hR.out.drew
  replace HZ := Lib.hid HZ.out.drew
  generalize w0.drew = wd at *
  simp only [pickOrs, List.getElem?_cons_zero, List.getElem?_cons_succ]
  refine org_pure (v := ?_) (by kernel_rfl) ?_ ?_
  rotate_left
  · intro w' hv; clear hv; go_simp; try with_reducible rfl
  try simp only [Act.put, List.setIfInBounds_toArray, List.set_cons_zero, List.set_cons_succ]
  refine org_pure (v := ?_) (by kernel_rfl) ?_ ?_
  rotate_left
  · intro w' hv; clear hv; go_simp; try with_reducible rfl
  try simp only [Act.put, List.setIfInBounds_toArray, List.set_cons_zero, List.set_cons_succ]
  refine org_pure (by kernel_rfl) (fun w' hv => load_su 24 (.tmp 23) rfl _ rfl elSum.2.1 szSum x ((fun w' hv => HX0.out w' (hR.out.trans (Below.mono hv hR.out.size))) w' hv)) ?_
  try simp only [Act.put, List.setIfInBounds_toArray, List.set_cons_zero, List.set_cons_succ]
  refine org_pure (v := ?_) (by kernel_rfl) ?_ ?_
  rotate_left
  · intro w' hv; clear hv; go_simp; try with_reducible rfl
  try simp only [Act.put, List.setIfInBounds_toArray, List.set_cons_zero, List.set_cons_succ]
  refine org_pure (v := ?_) (by kernel_rfl) ?_ ?_
  rotate_left
  · intro w' hv; clear hv; go_simp; try with_reducible rfl
  try simp only [Act.put, List.setIfInBounds_toArray, List.set_cons_zero, List.set_cons_succ]
  refine org_pure (by kernel_rfl) (fun w' hv => load_su 24 (.tmp 26) rfl _ rfl elSum.2.1 szSum y ((fun w' hv => HY0.out w' (hR.out.trans (Below.mono hv hR.out.size))) w' hv)) ?_
  try simp only [Act.put, List.setIfInBounds_toArray, List.set_cons_zero, List.set_cons_succ]
  refine org_step (by kernel_rfl) (fun K hK => ?_)
  go_wp2_with fail
  refine (HC.out _).mono ?_
  rintro e wx ⟨rfl, hb⟩
  have HE := Lib.hid hb
  clear hb
  refine hK _ _ ⟨HE.out, ?_⟩
  clear hK
  try simp only [Act.put, List.setIfInBounds_toArray, List.set_cons_zero, List.set_cons_succ]
  refine org_pure (v := ?_) (by kernel_rfl) ?_ ?_
  rotate_left
  · intro w' hv; clear hv; go_simp; try with_reducible rfl
  try simp only [Act.put, List.setIfInBounds_toArray, List.set_cons_zero, List.set_cons_succ]
  refine org_nil ?_
  replace HZ := Lib.hid (HZ.out.keep HE.out HZ.out.lt)
  replace hR := Lib.hid (hR.out.trans (HE.out.mono hR.out.size))
  have HS := Lib.hid (HY0.out _ hR.out)
  go_wp2_with (first | (refine wpList_load_su rfl 24 (.tmp 37) rfl _ rfl elSum.2.1 szSum y HS.out ?_) | (refine wpList_store_row rfl 24 (.tmp 4) (.tmp 38) rfl w.heap.size (encU y).toArray rfl rfl 24 _ HZ.out (by rw [encU_size]; exact szSum) (by rw [encU_size]; rfl) (encU_all y) ?_))
  refine bodyPost_ret (v := .tuple #[aggU y, .bool false, .bool true]) ?_ rfl ⟨rfl, below_row hR.out (Nat.le_refl _) _⟩
  exact results_three rfl _ _ w.heap.size 24 _ (0, 0) rfl (Has.rowl HZ.out _) _ _ rfl rfl Tryd.underlying24 (by rw [encU_size]; exact szSum)
theorem least_any (A B : List Su) (qa qb : Option Addr) (ca cb : Nat) (h : ¬ (A = [] ∧ B = [])) (w : World) (ha : Sees w w.heap.size qa (rowU A)) (hb : Sees w w.heap.size qb (rowU B)) :
    Calls Tryd.prog 71 #[.slice qa A.length ca, .slice qb B.length cb] w fun e w' => e = .returned (.tuple #[aggU (leastU A B).1, .bool (leastU A B).2.1, .bool (leastU A B).2.2]) ∧ Below w.heap.size w w' := by
  have z : ∀ a : Addr, a.add (0 * 32) = a := fun a => by simp [Addr.add]
  match A, B, h, ha, hb with
  | [], [], h, _, _ => exact absurd ⟨rfl, rfl⟩ h
  | [], y :: B, _, _, hb =>
    obtain ⟨a, e, _, hc⟩ := Ss.el hb (i := 0) (by simp)
    exact least_left w [] (y :: B) qa qb ca cb rfl y a e (by simp) (fun w' hw => by have := hc w' hw; rw [z] at this; exact this)
  | x :: A, [], _, ha, _ =>
    obtain ⟨a, e, _, hc⟩ := Ss.el ha (i := 0) (by simp)
    exact least_right w (x :: A) [] qa qb ca cb (by simp) x a e rfl (fun w' hw => by have := hc w' hw; rw [z] at this; exact this)
  | x :: A, y :: B, _, ha, hb =>
    obtain ⟨a, e, _, hc⟩ := Ss.el ha (i := 0) (by simp)
    obtain ⟨b, e2, _, hc2⟩ := Ss.el hb (i := 0) (by simp)
    have h1 := fun w' (hw : Below w.heap.size w w') => by have := hc w' hw; rw [z] at this; exact this
    have h2 := fun w' (hw : Below w.heap.size w w') => by have := hc2 w' hw; rw [z] at this; exact this
    rcases cmpU_vals x y with hv | hv | hv
    · have hl : leastU (x :: A) (y :: B) = (x, true, false) := by show (if cmpU x y ≤ 0 then _ else _) = _; rw [if_pos (by omega), hv]; rfl
      rw [hl]
      exact least_lt w (x :: A) (y :: B) qa qb ca cb (by simp) (by simp) x y a b e e2 hv h1 h2
    · have hl : leastU (x :: A) (y :: B) = (x, true, true) := by show (if cmpU x y ≤ 0 then _ else _) = _; rw [if_pos (by omega), hv]; rfl
      rw [hl]
      exact least_eq w (x :: A) (y :: B) qa qb ca cb (by simp) (by simp) x y a b e e2 hv h1 h2
    · have hl : leastU (x :: A) (y :: B) = (y, false, true) := by show (if cmpU x y ≤ 0 then _ else _) = _; rw [if_neg (by omega)]
      rw [hl]
      exact least_gt w (x :: A) (y :: B) qa qb ca cb (by simp) (by simp) x y a b e e2 hv h1 h2
end Go.Proofs.YtihkbblapfjobaaDoor
