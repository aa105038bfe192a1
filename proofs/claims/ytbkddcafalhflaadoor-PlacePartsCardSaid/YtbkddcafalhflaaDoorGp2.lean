/- Cells: a count, a key, a check: their sixty-five values in memory, equality, parts. No condition. -/
import Derived.Test.YtbkddcafalhflaaDoorFop
import Derived.Test.YtbkddcafalhflaaDoorXor
import Derived.Test.YtbkddcafalhflaaDoorUp
import Derived.Test.YtbkddcafalhflaaDoorFob
import Derived.Test.YtbkddcafalhflaaDoorByts
import Derived.Test.YtbkddcafalhflaaDoorRof
namespace Go.Proofs.YtbkddcafalhflaaDoor
open Go.RowKit
/-- A cell: its count, its key, its check. -/
abbrev Ce := Int × Su × Su
def encC (c : Ce) : List Value := .int .i64 c.1 :: (encU c.2.1 ++ encU c.2.2)
theorem encC_len (c : Ce) : (encC c).length = 65 := by unfold encC; rw [List.length_cons, List.length_append, encU_len, encU_len]
theorem encC_ones (c : Ce) : (encC c).toArray.all (·.oneCell') = true := one32 _ fun v hv => by
  rcases List.mem_cons.1 hv with rfl | h
  · rfl
  · rcases List.mem_append.1 h with h | h
    · exact encU_one _ v h
    · exact encU_one _ v h
def aggC (c : Ce) : Value := .agg (encC c).toArray
theorem encC_0 (c : Ce) : (encC c)[0]? = some (.int .i64 c.1) := rfl
theorem encC_key (c : Ce) : ∀ (j : Nat) (u : Value), (encU c.2.1)[j]? = some u → (encC c)[1 + j]? = some u := fun j u hu => by
  have hj := (List.getElem?_eq_some_iff.1 hu).1
  unfold encC
  rw [Nat.add_comm, List.getElem?_cons_succ, List.getElem?_append_left hj]
  exact hu
theorem encC_chk (c : Ce) : ∀ (j : Nat) (u : Value), (encU c.2.2)[j]? = some u → (encC c)[33 + j]? = some u := fun j u hu => by
  unfold encC
  rw [show 33 + j = (32 + j) + 1 by omega, List.getElem?_cons_succ, List.getElem?_append_right (by rw [encU_len]; omega), encU_len, show 32 + j - 32 = j by omega]
  exact hu
theorem encC_all (c : Ce) : ∀ (j : Nat) (u : Value), (encC c)[j]? = some u → (encC c)[0 + j]? = some u := fun j u hu => by rw [Nat.zero_add]; exact hu
theorem encU_all' (s : Su) : ∀ (j : Nat) (u : Value), (encU s)[j]? = some u → (encU s)[0 + j]? = some u := fun j u hu => by rw [Nat.zero_add]; exact hu
/-- The sum of nothing but noughts. -/
def zS : Su := ⟨zero32, rfl⟩
def zC : Ce := (0, zS, zS)
theorem lst32 (s : Su) : ∃ a0 a1 a2 a3 a4 a5 a6 a7 a8 a9 b0 b1 b2 b3 b4 b5 b6 b7 b8 b9 c0 c1 c2 c3 c4 c5 c6 c7 c8 c9 d0 d1 : BitVec 8,
    s.1 = [a0, a1, a2, a3, a4, a5, a6, a7, a8, a9, b0, b1, b2, b3, b4, b5, b6, b7, b8, b9, c0, c1, c2, c3, c4, c5, c6, c7, c8, c9, d0, d1] := by
  obtain ⟨l, hl⟩ := s
  match l, hl with
  | [a0, a1, a2, a3, a4, a5, a6, a7, a8, a9, b0, b1, b2, b3, b4, b5, b6, b7, b8, b9, c0, c1, c2, c3, c4, c5, c6, c7, c8, c9, d0, d1], _ =>
    exact ⟨a0, a1, a2, a3, a4, a5, a6, a7, a8, a9, b0, b1, b2, b3, b4, b5, b6, b7, b8, b9, c0, c1, c2, c3, c4, c5, c6, c7, c8, c9, d0, d1, rfl⟩
theorem aggS (w : World) : (isAgg 28).run Tryd.prog w = .ok true w := by kernel_rfl
theorem aggI (w : World) : (isAgg 2).run Tryd.prog w = .ok false w := by kernel_rfl
theorem eqIn9_su (E : TypeId) (hu : Tryd.prog.underlying E = some (.array 32 5)) (s t : Su) (w : World) : (Op.equalIn 9999 E (.agg (encU s).toArray) (.agg (encU t).toArray)).run Tryd.prog w = .ok (decide (s = t)) w := by
  have e : decide (s.1 = t.1) = decide (s = t) := by
    by_cases hst : s = t
    · subst hst; simp
    · rw [decide_eq_false hst, decide_eq_false (fun h => hst (Subtype.ext h))]
  have hs : s.1.length = 32 := s.2
  have ht : t.1.length = 32 := t.2
  unfold encU
  rw [u8v_cellU, u8v_cellU, run_equalIn_bytes w 9997 E 5 32 hu Tryd.underlying5 u8_sizeU _ _ (by simpa using hs) (by simpa using ht), beq_bytesU, e]

set_option maxRecDepth 100000 in
theorem partkC (n : Int) (k c : Su) (w : World) : (part 28 (encC (n, k, c)).toArray 1).run Tryd.prog w = .ok (.agg (encU k).toArray) w := by
  obtain ⟨k, hk⟩ := k
  obtain ⟨c, hc⟩ := c
  unfold encC encU
  match k, hk with
  | [a0, a1, a2, a3, a4, a5, a6, a7, a8, a9, b0, b1, b2, b3, b4, b5, b6, b7, b8, b9, c0, c1, c2, c3, c4, c5, c6, c7, c8, c9, d0, d1], _ =>
    match c, hc with
    | [e0, e1, e2, e3, e4, e5, e6, e7, e8, e9, f0, f1, f2, f3, f4, f5, f6, f7, f8, f9, g0, g1, g2, g3, g4, g5, g6, g7, g8, g9, h0, h1], _ => show _ = _; kernel_rfl
set_option maxRecDepth 100000 in
theorem partcC (n : Int) (k c : Su) (w : World) : (part 28 (encC (n, k, c)).toArray 33).run Tryd.prog w = .ok (.agg (encU c).toArray) w := by
  obtain ⟨k, hk⟩ := k
  obtain ⟨c, hc⟩ := c
  unfold encC encU
  match k, hk with
  | [a0, a1, a2, a3, a4, a5, a6, a7, a8, a9, b0, b1, b2, b3, b4, b5, b6, b7, b8, b9, c0, c1, c2, c3, c4, c5, c6, c7, c8, c9, d0, d1], _ =>
    match c, hc with
    | [e0, e1, e2, e3, e4, e5, e6, e7, e8, e9, f0, f1, f2, f3, f4, f5, f6, f7, f8, f9, g0, g1, g2, g3, g4, g5, g6, g7, g8, g9, h0, h1], _ => show _ = _; kernel_rfl
end Go.Proofs.YtbkddcafalhflaaDoor
/- Contracts: package cell's with, Put, Take, Minus. Condition: the sums' tables are laid (Put, Take). -/
namespace Go.Proofs.YtbkddcafalhflaaDoor
open Go.RowKit
def xorS (x y : Su) : Su := ⟨xorL x.1 y.1, xorL_length _ _ x.2 y.2⟩
/-- More laid on a cell. -/
def withC (c : Ce) (n : Int) (k d : Su) : Ce := (IntKind.i64.wrap (c.1 + n), xorS c.2.1 k, xorS c.2.2 d)
def waitWi1 (i : Nat) : List Nat := ([[], [0], [], [1, 2], [], [4], [], [5, 6], [], [8], [], [9, 10], [3, 7, 11], [0, 1, 2, 3, 4, 5, 6, 7, 8, 9, 10, 11, 12]] : List (List Nat)).getD i []
def slotsWi1 : List (Nat × Nat) := [(9, 0), (10, 1), (11, 2), (12, 3), (13, 4), (14, 5), (15, 6), (16, 7), (17, 8), (18, 9), (19, 10), (20, 11), (21, 12)]
theorem sbWi1 : slotsB slotsWi1 = true := by kernel_rfl
def t67 : List (BitVec 8) := [67#8]
/-- A sum's check. -/
def chkS (x : Su) : Su := shaU (t67 ++ x.1)
def putC (c : Ce) (x : Su) : Ce := withC c 1 x (chkS x)
def takeC (c : Ce) (x : Su) : Ce := withC c (-1) x (chkS x)
def minusC (a b : Ce) : Ce := withC a (IntKind.i64.wrap (0 - b.1)) b.2.1 b.2.2
def waitOf1 (i : Nat) : List Nat := ([[], [], [0, 1], [2], [0, 1, 2, 3]] : List (List Nat)).getD i []
def slotsOf1 : List (Nat × Nat) := [(3, 0), (4, 1), (5, 2), (6, 3)]
theorem sbOf1 : slotsB slotsOf1 = true := by kernel_rfl
def waitPu1 (i : Nat) : List Nat := ([[], [], [], [2], [0, 1, 3], [0, 1, 2, 3, 4]] : List (List Nat)).getD i []
def slotsPu1 : List (Nat × Nat) := [(5, 0), (6, 1), (7, 2), (8, 3), (9, 4)]
theorem sbPu1 : slotsB slotsPu1 = true := by kernel_rfl
def waitTa1 (i : Nat) : List Nat := ([[], [], [], [2], [0, 1, 3], [0, 1, 2, 3, 4]] : List (List Nat)).getD i []
def slotsTa1 : List (Nat × Nat) := [(5, 0), (6, 1), (7, 2), (8, 3), (9, 4)]
theorem sbTa1 : slotsB slotsTa1 = true := by kernel_rfl
def waitMi1 (i : Nat) : List Nat := ([[], [], [1], [2], [], [4], [], [6], [0, 3, 5, 7], [0, 1, 2, 3, 4, 5, 6, 7, 8]] : List (List Nat)).getD i []
def slotsMi1 : List (Nat × Nat) := [(5, 0), (6, 1), (7, 2), (8, 3), (9, 4), (10, 5), (11, 6), (12, 7), (13, 8)]
theorem sbMi1 : slotsB slotsMi1 = true := by kernel_rfl
end Go.Proofs.YtbkddcafalhflaaDoor
/- Contracts: the document's own PutSum, Xor. Condition: at most 10^6 bytes ahead, in a row of the call's own. -/
namespace Go.Proofs.YtbkddcafalhflaaDoor
open Go.RowKit
/-- The bytes so far, in a row of the call's own. -/
def OwB (w : World) (b : Nat) (v : Value) (X : List (BitVec 8)) : Prop := w.ownsRow b 5 1 v X.length (X.map u8v)
theorem OwB.next {w : World} {b : Nat} {v : Value} {X : List (BitVec 8)} {y : BitVec 8} (h : w.ownsRow b 5 1 v (X.length + [y].length) (X.map u8v ++ [y].map u8v)) : OwB w b v (X ++ [y]) := by
  unfold OwB; rw [List.length_append, List.map_append]; exact h
/-- A box of another type stays where a row of bytes grows. -/
theorem Has.grown {w w' : World} {g base n : Nat} {t : TypeId} {l xs : List Value} {v : Value} (h : Has w g t l) (ht : t ≠ 5) (ho : w.ownsRow base 5 1 v n xs) (hg : w.grownBy w' v.ownBlock) : Has w' g t l := by
  have hne : some g ≠ v.ownBlock := by
    rcases ho.2 with ⟨rfl, _⟩ | ⟨k, cap, cur, rfl, _, hk, _⟩
    · simp [Value.ownBlock]
    · intro e
      simp only [Value.ownBlock, Option.some.injEq] at e
      subst e
      have h1 := Option.some.inj (h.symm.trans hk)
      injection h1 with _ h2 _
      exact ht h2
  exact (hg.5 g h.lt (fun e => hne e)).trans h
theorem wpList_append_seesG {ops : Array Oper} {rest : List Oper} {o : Oper} {a : Act} {w : World} {Q : Exit → Act → World → Prop} (hgd : o.guard = none) (s x : Operand)
    (ho : o.op = .call { callee := .builtin .append, args := #[s, x], argTypes := #[36, 36] })
    (base : Nat) (v : Value) (n : Nat) (xs : List Value) (hs : a.eval s = v) (hown : w.ownsRow base 5 1 v n xs)
    (ad : Addr) (l : List (BitVec 8)) (cap : Nat) (hx : a.eval x = .slice (some ad) l.length cap) (hl : ∀ j u, (l.map u8v)[j]? = some u → w.cell? (ad.add j) = some u)
    (hbytes : n + l.length ≤ 140737488355328) (hbase : base ≤ w.heap.size)
    (h : ∀ v' w', w'.ownsRow base 5 1 v' (n + l.length) (xs ++ l.map u8v) → w.grownBy w' v.ownBlock → wpList Tryd.prog ops Q rest (a.put o.dst v') w') : wpList Tryd.prog ops Q (o :: rest) a w := by
  obtain ⟨i0, hi, hz0, hz1, hz2⟩ := info_parts u8_info
  refine wpList_append_own w hgd s x 36 ho base 5 i0 (.int .u8 0) 1 1 Tryd.underlying36 hi hz0 hz1 hz2 rfl (by decide) v n xs hs hown ad l.length cap (l.map u8v) hx (by simp) hl (fun u hu => ?_) (by unfold maxLen; omega) (by omega) hbase (fun v' w' h1 h2 _ => h v' w' h1 h2)
  obtain ⟨y, _, rfl⟩ := List.mem_map.1 hu
  rfl
theorem u8v_lit (w : World) (y : BitVec 8) : ∀ j u, ([y].map u8v)[j]? = some u → (w.alloc (.cells #[.int .u8 (B y)] 5)).cell? ((⟨w.heap.size, 0, none⟩ : Addr).add j) = some u := fun j u hu => by
  have h : Has (w.alloc (.cells #[.int .u8 (B y)] 5)) w.heap.size 5 ([y].map u8v) := Has.made' _ _ _ _ rfl
  rw [add_lit', Nat.zero_add]
  exact h.cellv hu
set_option maxHeartbeats 8000000 in
set_option maxRecDepth 100000 in
theorem putSum_any (x : Su) (p : List (BitVec 8)) (v : Value) (base : Nat) (w w0 : World) (hB : Below base w w0) (hb : base ≤ w0.heap.size) (ho : OwB w0 base v p) (hl : p.length ≤ 1000000) :
    Calls Tryd.prog 19 #[v, .agg (encU x).toArray] w0 fun e w' => (∃ v', e = .returned v' ∧ OwB w' base v' (p ++ x.1)) ∧ Below base w w' := by
  have HO : Hid (OwB (w0.alloc (.cells (encU x).toArray 32)) base v p) := Lib.hid (ho.alloc _)
  have HX : Hid (Has (w0.alloc (.cells (encU x).toArray 32)) w0.heap.size 32 (encU x)) := Lib.hid (Has.made' w0 _ _ _ rfl)
  have HB : Hid (Below base w (w0.alloc (.cells (encU x).toArray 32))) := Lib.hid (hB.alloc hb _)
  have HZ : Hid (base ≤ (w0.alloc (.cells (encU x).toArray 32)).heap.size) := Lib.hid (by simp; omega)
  have HPL := Lib.hid hl
  clear ho hl hB hb
  go_enter Tryd.func19, Tryd.ntmps19
  go_upto_region 1 with fail
  generalize w0.alloc (.cells (encU x).toArray 32) = w1 at *
  generalize w0.heap.size = g at *
  go_wp2_with fail
  go_loopw [0, 5] (fun vb vk wr => ∃ k : Nat, k ≤ 32 ∧ vk = .int .i64 k ∧ OwB wr base vb (p ++ x.1.take k) ∧ Has wr g 32 (encU x) ∧ base ≤ wr.heap.size ∧ Below base w wr) (fun _ vk _ => 32 - (intOf vk).toNat)
  case atStart => exact ⟨0, by omega, rfl, by rw [List.take_zero, List.append_nil]; exact HO.out, HX.out, HZ.out, HB.out⟩
  case round =>
    clear HO HX HZ HB
    rename_i wr
    obtain ⟨k, hk, rfl, ho, hx, hz, hB⟩ := hrel
    have HO := Lib.hid ho
    have HX := Lib.hid hx
    have HB := Lib.hid hB
    have HZ := Lib.hid hz
    by_cases hk2 : k < 32
    · have hkx : k < x.1.length := by rw [x.2]; exact hk2
      have HTK2 : Hid (x.1.take (k + 1) = x.1.take k ++ [x.1[k]]) := Lib.hid (List.take_succ_eq_append_getElem hkx)
      have cx := hx.cellv (i := k) (v := u8v x.1[k]) (by unfold encU; rw [List.getElem?_map, List.getElem?_eq_getElem hkx]; rfl)
      have HLX : Hid ((p ++ x.1.take k).length ≤ 1000032) := Lib.hid (by rw [List.length_append, List.length_take]; have := HPL.out; omega)
      generalize x.1[k] = y at *
      have k2 : (k : Int) < 32 := by omega
      unfold u8v at cx
      have HOA : Hid (OwB (wr.alloc (.cells #[.int .u8 (B y)] 5)) base _ (p ++ x.1.take k)) := Lib.hid (ho.alloc _)
      have HXA := Lib.hid (hx.alloc (.cells #[.int .u8 (B y)] 5))
      have HBA := Lib.hid (hB.alloc hz (.cells #[.int .u8 (B y)] 5))
      have HLY := Lib.hid (u8v_lit wr y)
      have HZA : Hid (base ≤ (wr.alloc (.cells #[.int .u8 (B y)] 5)).heap.size) := Lib.hid (by simp; omega)
      generalize hZE : p ++ x.1.take k = Z at *
      have HZE := Lib.hid hZE
      clear hZE
      clear ho hx hB hz HO
      go_wp2_with (at_builtin; refine wpList_append_seesG rfl _ _ rfl base _ _ _ rfl HOA.out ⟨wr.heap.size, 0, none⟩ [y] 1 rfl HLY.out (by have := HLX.out; simp; omega) HZA.out ?_; intro v3 w3 g1 g2; have HN := Lib.hid (OwB.next g1); have HX3 := Lib.hid (HXA.out.grown (by decide) HOA.out g2); have HB3 := Lib.hid (HBA.out.grown g2 HZA.out (fun k hk => own_base HOA.out k hk)); have HZ3 := Lib.hid (Nat.le_trans HZA.out g2.4); clear g1 g2)
      go_roundw
      case rel => exact ⟨k + 1, by omega, by go_num, by rw [HTK2.out, ← List.append_assoc, HZE.out]; exact HN.out, HX3.out, HZ3.out, HB3.out⟩
      case measure => simp [intOf]; omega
    · have hk32 : k = 32 := by omega
      subst hk32
      have hfull : x.1.take 32 = x.1 := List.take_of_length_le (by rw [x.2]; exact Nat.le_refl _)
      rw [hfull] at HO
      clear ho hx hB hz hfull hk2
      go_wp2_with fail
      go_ret
      exact ⟨⟨_, rfl, HO.out⟩, HB.out⟩
theorem rsum_info : (Tryd.prog.info? 32).map (·.size) = some 32 := by kernel_rfl
section
attribute [local go_sem] B_xor
end
end Go.Proofs.YtbkddcafalhflaaDoor
/- The document's own cells in memory: equality, parts. No condition. -/
namespace Go.Proofs.YtbkddcafalhflaaDoor
open Go.RowKit
theorem aggSR (w : World) : (isAgg 32).run Tryd.prog w = .ok true w := by kernel_rfl
set_option maxRecDepth 100000 in
theorem partkR (n : Int) (k c : Su) (w : World) : (part 32 (encC (n, k, c)).toArray 1).run Tryd.prog w = .ok (.agg (encU k).toArray) w := by
  obtain ⟨k, hk⟩ := k
  obtain ⟨c, hc⟩ := c
  unfold encC encU
  match k, hk with
  | [a0, a1, a2, a3, a4, a5, a6, a7, a8, a9, b0, b1, b2, b3, b4, b5, b6, b7, b8, b9, c0, c1, c2, c3, c4, c5, c6, c7, c8, c9, d0, d1], _ =>
    match c, hc with
    | [e0, e1, e2, e3, e4, e5, e6, e7, e8, e9, f0, f1, f2, f3, f4, f5, f6, f7, f8, f9, g0, g1, g2, g3, g4, g5, g6, g7, g8, g9, h0, h1], _ => show _ = _; kernel_rfl
set_option maxRecDepth 100000 in
theorem partcR (n : Int) (k c : Su) (w : World) : (part 32 (encC (n, k, c)).toArray 33).run Tryd.prog w = .ok (.agg (encU c).toArray) w := by
  obtain ⟨k, hk⟩ := k
  obtain ⟨c, hc⟩ := c
  unfold encC encU
  match k, hk with
  | [a0, a1, a2, a3, a4, a5, a6, a7, a8, a9, b0, b1, b2, b3, b4, b5, b6, b7, b8, b9, c0, c1, c2, c3, c4, c5, c6, c7, c8, c9, d0, d1], _ =>
    match c, hc with
    | [e0, e1, e2, e3, e4, e5, e6, e7, e8, e9, f0, f1, f2, f3, f4, f5, f6, f7, f8, f9, g0, g1, g2, g3, g4, g5, g6, g7, g8, g9, h0, h1], _ => show _ = _; kernel_rfl
end Go.Proofs.YtbkddcafalhflaaDoor
/- Contracts: package cell's Zero, Pure; sum.Sum.Zero. Condition: the sums' tables are laid (Pure). -/
namespace Go.Proofs.YtbkddcafalhflaaDoor
open Go.RowKit
def waitzeroC1 (i : Nat) : List Nat := ([[], [], [0, 1], [2]] : List (List Nat)).getD i []
def slotszeroC1 : List (Nat × Nat) := [(3, 0), (4, 1), (5, 2), (2, 3)]
theorem sbzeroC1 : slotsB slotszeroC1 = true := by kernel_rfl
def waitzeroS1 (i : Nat) : List Nat := ([[], [], [0, 1], [2]] : List (List Nat)).getD i []
def slotszeroS1 : List (Nat × Nat) := [(3, 0), (4, 1), (5, 2), (2, 3)]
theorem sbzeroS1 : slotsB slotszeroS1 = true := by kernel_rfl
/-- Whether one is alone in it. -/
def isPure (c : Ce) : Bool := (decide (c.1 = 1) || decide (c.1 = -1)) && decide (c.2.2 = chkS c.2.1)
def pureV (c : Ce) : Value := if isPure c = true then .tuple #[.agg (encU c.2.1).toArray, .bool (c.1 == 1), .bool true] else .tuple #[.agg (encU zS).toArray, .bool false, .bool false]
theorem pureV_on {c : Ce} (h : isPure c = true) : pureV c = .tuple #[.agg (encU c.2.1).toArray, .bool (c.1 == 1), .bool true] := if_pos h
theorem pureV_off {c : Ce} (h : isPure c = false) : pureV c = .tuple #[.agg (encU zS).toArray, .bool false, .bool false] := if_neg (by rw [h]; simp)
theorem results_cell3A {fn : Func} {p u z : Tmp} {ty : TypeId} (h : fn.results = #[.cell p ty, .tmp u, .tmp z]) (tmps : Array Value) (w : World) (g : Nat) (t : TypeId) (cs : Array Value) (fr : Nat × Nat) (n : Nat) (E : TypeId)
    (hp : tmps.getD p undef = .pointer (some ⟨g, 0, none⟩)) (hg : w.heap[g]? = some (.cells cs t fr)) (x y : Value) (hx : tmps.getD u undef = x) (hy : tmps.getD z undef = y)
    (hu : Tryd.prog.underlying ty = some (.array n E)) (hi : (Tryd.prog.info? ty).map (·.size) = some cs.size) :
    (results fn tmps).run Tryd.prog w = .ok (.tuple #[.agg cs, x, y]) w := by
  have hp' : tmps[p]?.getD undef = .pointer (some ⟨g, 0, none⟩) := by simpa using hp
  have hx' : tmps[u]?.getD undef = x := by simpa using hx
  have hy' : tmps[z]?.getD undef = y := by simpa using hy
  simp [results, h, hp', hx', hy', asAddr, run_loadVar_row w g t ty cs fr _ hg hu rfl hi]
def waitPz1 (i : Nat) : List Nat := ([[], [0], [1], [2], [3], [3], [3], [3, 6], [7], [8], [8, 9], [8], [8, 11], [8, 12], [8, 10, 13], [8, 14]] : List (List Nat)).getD i []
def slotsPz1 : List (Nat × Nat) := [(5, 0), (6, 1), (7, 2), (8, 3), (9, 4), (10, 5), (11, 6), (12, 7), (13, 8), (14, 9), (15, 10), (16, 11), (17, 12), (18, 13), (19, 14), (20, 15)]
theorem sbPz1 : slotsB slotsPz1 = true := by kernel_rfl
def waitPz2 (i : Nat) : List Nat := ([[], [0], [1], [2], [3], [3], [3], [3, 6], [7], [8], [8, 9], [8], [8, 11], [8, 12], [8, 10, 13], [8, 14]] : List (List Nat)).getD i []
def slotsPz2 : List (Nat × Nat) := [(5, 0), (6, 1), (7, 2), (8, 3), (9, 4), (10, 5), (11, 6), (12, 7), (13, 8), (14, 9), (15, 10), (16, 11), (17, 12), (18, 13), (19, 14), (20, 15)]
theorem sbPz2 : slotsB slotsPz2 = true := by kernel_rfl
def waitPn2 (i : Nat) : List Nat := ([[], [0], [0, 1], [0, 1, 2]] : List (List Nat)).getD i []
def slotsPn2 : List (Nat × Nat) := [(21, 0), (3, 2), (4, 3)]
theorem sbPn2 : slotsB slotsPn2 = true := by kernel_rfl
def waitPz3 (i : Nat) : List Nat := ([[], [0], [1], [2], [3], [3, 4], [3, 5], [3, 6], [7], [8], [8, 9], [8], [8, 11], [8, 12], [8, 10, 13], [8, 14]] : List (List Nat)).getD i []
def slotsPz3 : List (Nat × Nat) := [(5, 0), (6, 1), (7, 2), (8, 3), (9, 4), (10, 5), (11, 6), (12, 7), (13, 8), (14, 9), (15, 10), (16, 11), (17, 12), (18, 13), (19, 14), (20, 15)]
theorem sbPz3 : slotsB slotsPz3 = true := by kernel_rfl
def waitPz4 (i : Nat) : List Nat := ([[], [0], [1], [2], [3], [3, 4], [3, 5], [3, 6], [7], [8], [8, 9], [8], [8, 11], [8, 12], [8, 10, 13], [8, 14]] : List (List Nat)).getD i []
def slotsPz4 : List (Nat × Nat) := [(5, 0), (6, 1), (7, 2), (8, 3), (9, 4), (10, 5), (11, 6), (12, 7), (13, 8), (14, 9), (15, 10), (16, 11), (17, 12), (18, 13), (19, 14), (20, 15)]
theorem sbPz4 : slotsB slotsPz4 = true := by kernel_rfl
def waitPz5 (i : Nat) : List Nat := ([[], [0], [1], [2], [3], [3, 4], [3, 5], [3, 6], [7], [8], [8], [8], [8], [8], [8], [8, 14]] : List (List Nat)).getD i []
def slotsPz5 : List (Nat × Nat) := [(5, 0), (6, 1), (7, 2), (8, 3), (9, 4), (10, 5), (11, 6), (12, 7), (13, 8), (14, 9), (15, 10), (16, 11), (17, 12), (18, 13), (19, 14), (20, 15)]
theorem sbPz5 : slotsB slotsPz5 = true := by kernel_rfl
end Go.Proofs.YtbkddcafalhflaaDoor
/- Plain laws of cells: what is laid on and taken off again, in whatever order. No condition. -/
namespace Go.Proofs.YtbkddcafalhflaaDoor
open Go.RowKit
theorem as_any {P : Program} {g : FuncId} {us : Array Value} {w : World} {u u' : Value} (h : Calls P g us w fun e w' => (∃ v, e = .returned v ∧ v = u) ∧ Below w.heap.size w w') (e : u = u') : Calls P g us w fun e w' => (∃ v, e = .returned v ∧ v = u') ∧ Below w.heap.size w w' := e ▸ h
theorem at8_xor (x y : Su) (k : Nat) (h : k < 32) : (xorS x y).1[k]'(by rw [(xorS x y).2]; exact h) = x.1[k]'(by rw [x.2]; exact h) ^^^ y.1[k]'(by rw [y.2]; exact h) := by
  simp [xorS, xorL]
theorem su_ext {x y : Su} (h : ∀ k (hk : k < 32), x.1[k]'(by rw [x.2]; exact hk) = y.1[k]'(by rw [y.2]; exact hk)) : x = y := Subtype.ext (List.ext_getElem (x.2.trans y.2.symm) fun k h1 _ => h k (by rw [x.2] at h1; exact h1))
theorem xorS_comm (x y : Su) : xorS x y = xorS y x := su_ext fun k hk => by rw [at8_xor _ _ _ hk, at8_xor _ _ _ hk, BitVec.xor_comm]
theorem xorS_assoc (x y z : Su) : xorS (xorS x y) z = xorS x (xorS y z) := su_ext fun k hk => by rw [at8_xor _ _ _ hk, at8_xor _ _ _ hk, at8_xor _ _ _ hk, at8_xor _ _ _ hk, BitVec.xor_assoc]
theorem zS_at (k : Nat) (h : k < 32) : zS.1[k]'(by rw [zS.2]; exact h) = 0 := (List.getElem_of_eq (show zS.1 = List.replicate 32 (0 : BitVec 8) from rfl) _).trans (List.getElem_replicate _)
theorem xorS_self (x : Su) : xorS x x = zS := su_ext fun k hk => by rw [at8_xor _ _ _ hk, zS_at _ hk]; exact BitVec.xor_self
theorem xorS_zero (x : Su) : xorS x zS = x := su_ext fun k hk => by rw [at8_xor _ _ _ hk, zS_at _ hk]; simp
theorem zero_xorS (x : Su) : xorS zS x = x := by rw [xorS_comm, xorS_zero]
theorem xorS_back (x y : Su) : xorS (xorS x y) y = x := by rw [xorS_assoc, xorS_self, xorS_zero]
theorem xorS_right (x y z : Su) : xorS (xorS x y) z = xorS (xorS x z) y := by rw [xorS_assoc, xorS_comm y z, ← xorS_assoc]
theorem wrap_add (a b : Int) : IntKind.i64.wrap (IntKind.i64.wrap a + b) = IntKind.i64.wrap (a + b) := by simp only [IntKind.wrap_i64]; omega
theorem wrap_sub (a b : Int) : IntKind.i64.wrap (a + IntKind.i64.wrap (0 - b)) = IntKind.i64.wrap (a - b) := by simp only [IntKind.wrap_i64]; omega
theorem wrap_wrap (a : Int) : IntKind.i64.wrap (IntKind.i64.wrap a) = IntKind.i64.wrap a := by simp only [IntKind.wrap_i64]; omega
theorem wrap_in {a : Int} (h : -9223372036854775808 ≤ a ∧ a < 9223372036854775808) : IntKind.i64.wrap a = a := by rw [IntKind.wrap_i64]; omega
/-- What is laid on in whatever order. -/
theorem withC_right (c : Ce) (m n : Int) (k l d e : Su) : withC (withC c m k d) n l e = withC (withC c n l e) m k d := by
  unfold withC
  simp only [wrap_add, Prod.mk.injEq]
  refine ⟨by congr 1; omega, xorS_right _ _ _, xorS_right _ _ _⟩
theorem putC_right (c : Ce) (x y : Su) : putC (putC c x) y = putC (putC c y) x := withC_right _ _ _ _ _ _ _
theorem takeC_right (c : Ce) (x y : Su) : takeC (takeC c x) y = takeC (takeC c y) x := withC_right _ _ _ _ _ _ _
theorem put_take (c : Ce) (x y : Su) : takeC (putC c x) y = putC (takeC c y) x := withC_right _ _ _ _ _ _ _
/-- A count as a number of sixty-four bits has it. -/
def okC (c : Ce) : Prop := IntKind.i64.wrap c.1 = c.1
theorem okC_with (c : Ce) (n : Int) (k d : Su) : okC (withC c n k d) := wrap_wrap _
theorem okC_zero : okC zC := by unfold okC zC; decide
theorem take_put {c : Ce} (h : okC c) (x : Su) : takeC (putC c x) x = c := by
  unfold takeC putC withC
  simp only [wrap_add, xorS_back]
  unfold okC at h
  rw [show c.1 + 1 + -1 = c.1 by omega, h]
theorem put_take' {c : Ce} (h : okC c) (x : Su) : putC (takeC c x) x = c := by rw [← put_take, take_put h]
theorem putC_zero (x : Su) : putC zC x = (1, x, chkS x) := by
  unfold putC withC zC
  simp only [zero_xorS]
  rfl
theorem takeC_zero (x : Su) : takeC zC x = (-1, x, chkS x) := by
  unfold takeC withC zC
  simp only [zero_xorS]
  rfl
theorem pure_put (x : Su) : pureV (putC zC x) = .tuple #[.agg (encU x).toArray, .bool true, .bool true] := by
  rw [putC_zero, pureV_on (by simp [isPure])]
  rfl
theorem pure_take (x : Su) : pureV (takeC zC x) = .tuple #[.agg (encU x).toArray, .bool false, .bool true] := by
  rw [takeC_zero, pureV_on (by simp [isPure])]
  rfl
theorem putC_ne (x : Su) : decide (putC zC x = zC) = false := by
  rw [putC_zero]; simp [zC]
theorem minusC_self {a : Ce} : minusC a a = zC := by
  unfold minusC withC zC
  simp only [wrap_sub, xorS_self]
  rw [show a.1 - a.1 = 0 by omega]; rfl
theorem minusC_zero {a : Ce} (h : okC a) : minusC a zC = a := by
  unfold minusC withC
  simp only [wrap_sub]
  unfold okC at h
  rw [show zC.1 = 0 from rfl, show zC.2.1 = zS from rfl, show zC.2.2 = zS from rfl, xorS_zero, xorS_zero, show a.1 - 0 = a.1 by omega, h]
def tX : List (BitVec 8) := [120#8]
def tY : List (BitVec 8) := [121#8]
end Go.Proofs.YtbkddcafalhflaaDoor
/- Contracts: the document's own Check, PutCell, MinusCell, Pure; the law's cellOf. No condition. -/
namespace Go.Proofs.YtbkddcafalhflaaDoor
open Go.RowKit
theorem lp_call {ops : Array Oper} {rest : List Oper} {o : Oper} {a : Act} {w : World} {Q : Exit → Act → World → Prop} (hw : Region.wanted o (yielded ops a.tmps) = true) (g : FuncId) (xs : Array Operand) (ts : Array TypeId) (hop : o.op = .call { callee := .value (.func g), args := xs, argTypes := ts })
    (us : Array Value) (hx : xs.map a.eval = us) (hcf : ∀ w, (callFunc g us).run Tryd.prog w = .ok (.enter g us) w) {R : Ending → World → Prop} (hc : Calls Tryd.prog g us w R) (h : ∀ e w', R e w' → ∃ v, e = .returned v ∧ wpList Tryd.prog ops Q rest (a.put o.dst v) w') : wpList Tryd.prog ops Q (o :: rest) a w :=
  lp_step hw fun K hK => by
    unfold Oper.wp
    have he : (execOp a.eval o).run Tryd.prog w = .ok (.enter g us) w := by
      unfold execOp
      have hf : a.eval (.func g) = .func (.func g) #[] #[] := rfl
      simp [hop, resolve, invoke, hx, hf, Deferred.ofValue, hcf]
    rw [he, Oper.upon_enter]
    refine Calls.mono hc ?_
    intro e w' hr
    obtain ⟨v, rfl, hk⟩ := h e w' hr
    exact hK _ _ hk
theorem OwB.made (w : World) (x : List (BitVec 8)) (n : Nat) (hn : x.length = n) (hm : n ≤ 1000) : OwB (w.alloc (.cells (x.map u8v).toArray 5)) w.heap.size (.slice (some ⟨w.heap.size, 0, none⟩) n n) x := by
  subst hn
  exact ⟨by simp, .inr ⟨w.heap.size, x.length, (x.map u8v).toArray, rfl, Nat.le_refl _, heap_alloc_new _ _, Nat.le_refl _, by unfold maxLen; omega, by simp, by rw [Nat.mul_one]; exact List.take_of_length_le (by simp)⟩⟩
theorem rof_ow {w : World} {b : Nat} {v : Value} {x : List (BitVec 8)} (h : OwB w b v x) (hx : x.length ≤ 1000000) : Calls Tryd.prog 18 #[v] w fun e w' => e = .returned (.agg (encU (shaU x)).toArray) ∧ Below w.heap.size w w' := by
  obtain ⟨q, c, rfl, _, hq, hs⟩ := Bs.own h
  exact rof_any x q c w hs hq (by omega)
def waitRp1 (i : Nat) : List Nat := ([[], [0], [], [1, 2], [], [4], [], [5, 6], [], [8], [], [10], [9, 11], [3, 7, 12], [0, 1, 2, 3, 4, 5, 6, 7, 8, 9, 10, 11, 12, 13]] : List (List Nat)).getD i []
def slotsRp1 : List (Nat × Nat) := [(7, 0), (8, 1), (9, 2), (10, 3), (11, 4), (12, 5), (13, 6), (14, 7), (15, 8), (16, 9), (17, 10), (18, 11), (19, 12), (20, 13)]
theorem sbRp1 : slotsB slotsRp1 = true := by kernel_rfl
/-- As the document reckons it. -/
theorem minusC_eq (a b : Ce) : (IntKind.i64.wrap (a.1 - b.1), xorS a.2.1 b.2.1, xorS a.2.2 b.2.2) = minusC a b := by
  unfold minusC withC
  rw [wrap_sub]
def waitRm1 (i : Nat) : List Nat := ([[], [0], [], [2], [1, 3], [], [5], [], [7], [6, 8], [], [10], [], [12], [11, 13], [4, 9, 14], [0, 1, 2, 3, 4, 5, 6, 7, 8, 9, 10, 11, 12, 13, 14, 15]] : List (List Nat)).getD i []
def slotsRm1 : List (Nat × Nat) := [(5, 0), (6, 1), (7, 2), (8, 3), (9, 4), (10, 5), (11, 6), (12, 7), (13, 8), (14, 9), (15, 10), (16, 11), (17, 12), (18, 13), (19, 14), (20, 15)]
theorem sbRm1 : slotsB slotsRm1 = true := by kernel_rfl
def waitRc1 (i : Nat) : List Nat := ([[], [0], [], [2], [], [4], [1, 3, 5], [0, 1, 2, 3, 4, 5, 6]] : List (List Nat)).getD i []
def slotsRc1 : List (Nat × Nat) := [(3, 0), (4, 1), (5, 2), (6, 3), (7, 4), (8, 5), (9, 6)]
theorem sbRc1 : slotsB slotsRc1 = true := by kernel_rfl
def waitRq1 (i : Nat) : List Nat := ([[], [0], [1], [2], [3], [3], [3], [3, 6], [7], [8], [8, 9], [8], [8, 11], [8, 12], [8, 10, 13], [8, 14], [15]] : List (List Nat)).getD i []
def slotsRq1 : List (Nat × Nat) := [(3, 0), (4, 1), (5, 2), (6, 3), (7, 4), (8, 5), (9, 6), (10, 7), (11, 8), (12, 9), (13, 10), (14, 11), (15, 12), (16, 13), (17, 14), (18, 15), (2, 16)]
theorem sbRq1 : slotsB slotsRq1 = true := by kernel_rfl
def waitRq2 (i : Nat) : List Nat := ([[], [0], [1], [2], [3], [3], [3], [3, 6], [7], [8], [8, 9], [8], [8, 11], [8, 12], [8, 10, 13], [8, 14], [15]] : List (List Nat)).getD i []
def slotsRq2 : List (Nat × Nat) := [(3, 0), (4, 1), (5, 2), (6, 3), (7, 4), (8, 5), (9, 6), (10, 7), (11, 8), (12, 9), (13, 10), (14, 11), (15, 12), (16, 13), (17, 14), (18, 15), (2, 16)]
theorem sbRq2 : slotsB slotsRq2 = true := by kernel_rfl
def waitRq3 (i : Nat) : List Nat := ([[], [0], [1], [2], [3], [3, 4], [3, 5], [3, 6], [7], [8], [8, 9], [8], [8, 11], [8, 12], [8, 10, 13], [8, 14], [15]] : List (List Nat)).getD i []
def slotsRq3 : List (Nat × Nat) := [(3, 0), (4, 1), (5, 2), (6, 3), (7, 4), (8, 5), (9, 6), (10, 7), (11, 8), (12, 9), (13, 10), (14, 11), (15, 12), (16, 13), (17, 14), (18, 15), (2, 16)]
theorem sbRq3 : slotsB slotsRq3 = true := by kernel_rfl
def waitRq4 (i : Nat) : List Nat := ([[], [0], [1], [2], [3], [3, 4], [3, 5], [3, 6], [7], [8], [8, 9], [8], [8, 11], [8, 12], [8, 10, 13], [8, 14], [15]] : List (List Nat)).getD i []
def slotsRq4 : List (Nat × Nat) := [(3, 0), (4, 1), (5, 2), (6, 3), (7, 4), (8, 5), (9, 6), (10, 7), (11, 8), (12, 9), (13, 10), (14, 11), (15, 12), (16, 13), (17, 14), (18, 15), (2, 16)]
theorem sbRq4 : slotsB slotsRq4 = true := by kernel_rfl
def waitRq5 (i : Nat) : List Nat := ([[], [0], [1], [2], [3], [3, 4], [3, 5], [3, 6], [7], [8], [8], [8], [8], [8], [8], [8, 14], [15]] : List (List Nat)).getD i []
def slotsRq5 : List (Nat × Nat) := [(3, 0), (4, 1), (5, 2), (6, 3), (7, 4), (8, 5), (9, 6), (10, 7), (11, 8), (12, 9), (13, 10), (14, 11), (15, 12), (16, 13), (17, 14), (18, 15), (2, 16)]
theorem sbRq5 : slotsB slotsRq5 = true := by kernel_rfl
end Go.Proofs.YtbkddcafalhflaaDoor
