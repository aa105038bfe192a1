/- Places and levels: plain laws. No condition. -/
import Derived.Test.YtnkcehmgagpadaaDoorWord
import Derived.Test.YtnkcehmgagpadaaDoorFob
import Derived.Deep.OwnRows
namespace Go.Proofs.YtnkcehmgagpadaaDoor
open Go.RowKit
/-- The seed's bytes, the lowest first. -/
def seedB (s : Nat) (i : Nat) : BitVec 8 := BitVec.ofNat 8 (s / 2 ^ (8 * i))
def seedL (s : Nat) : List (BitVec 8) := (List.range 8).map (seedB s)
def goodN (n : Int) : Bool := decide (3 ≤ n) && decide (n ≤ 1024) && decide (n % 3 = 0)
def t80 : List (BitVec 8) := [80#8]
def t76 : List (BitVec 8) := [76#8]
/-- The sum by which a sum is placed. -/
def placeS (s : Nat) (x : Su) : Su := shaU (t80 ++ seedL s ++ x.1)
def placeAt (s : Nat) (n : Int) (x : Su) (i : Nat) : Int := i * (n / 3) + M (wordOf (placeS s x).1 i) % (n / 3)
def places (s : Nat) (n : Int) (x : Su) : List Int := if goodN n = true then (List.range 3).map (placeAt s n x) else []
end Go.Proofs.YtnkcehmgagpadaaDoor
/- Contracts: place.lowestFirst, place.Good, the document's own GoodCells. Condition: a seed of 64 bits. -/
namespace Go.Proofs.YtnkcehmgagpadaaDoor
open Go.RowKit
theorem make8 (w : World) : (Instr.makeSlice 45 (.int .i64 8) (.int .i64 8)).run Tryd.prog w = .ok (.slice (some ⟨w.heap.size, 0, none⟩) 8 8) (w.alloc (.cells (List.replicate 8 (Value.int .u8 0)).toArray 5)) := by
  have h := run_make_row' (P := Tryd.prog) 45 5 (.int .u8 0) 1 Tryd.underlying45 u8_infoF rfl .i64 .i64 8 (by omega) (by omega) w
  have e : madeCells #[Value.int .u8 0] 8 = (List.replicate 8 (Value.int .u8 0)).toArray := by kernel_rfl
  rw [e] at h
  exact h
/-- The seed's first k bytes, behind them noughts. -/
def seedTo (s k : Nat) : List (BitVec 8) := (List.range k).map (seedB s) ++ List.replicate (8 - k) 0
theorem seedTo_full (s : Nat) : seedTo s 8 = seedL s := by unfold seedTo seedL; simp
theorem seedTo_len (s k : Nat) (h : k ≤ 8) : (seedTo s k).length = 8 := by unfold seedTo; simp; omega
theorem seedTo_put (s k : Nat) (h : k < 8) : (seedTo s k).set k (seedB s k) = seedTo s (k + 1) := by
  unfold seedTo
  rw [List.set_append_right _ _ (by simp)]
  rw [show 8 - k = (8 - (k + 1)) + 1 by omega, List.replicate_succ, List.range_succ]
  simp
theorem seed_byte (s k : Nat) : ((s : Int) / 2 ^ (8 * k) % 256) = B (seedB s k) := by
  unfold seedB B
  simp
set_option maxHeartbeats 2000000 in
theorem lowest_any (s : Nat) (hs : s < 18446744073709551616) (w : World) :
    Calls Tryd.prog 74 #[.int .u64 s] w fun e w' => ∃ g, e = .returned (.slice (some ⟨g, 0, none⟩) 8 8) ∧ w.heap.size ≤ g ∧ Has w' g 5 ((seedL s).map u8v) ∧ Below w.heap.size w w' := by
  have HS := Lib.hid hs
  have mk := make8 w
  clear hs
  go_enter Tryd.func74, Tryd.ntmps74
  go_wp2_with fail
  generalize hw0 : w.alloc _ = w0
  have hH : Has w0 w.heap.size 5 ((seedTo s 0).map u8v) := by subst hw0; exact Has.made' _ _ _ _ rfl
  have hB : Below w.heap.size w w0 := by subst hw0; exact (Below.refl _ _).alloc (Nat.le_refl _) _
  clear hw0
  go_loopw [8] (fun i wr => ∃ k : Nat, k ≤ 8 ∧ i = .int .i64 k ∧ Has wr w.heap.size 5 ((seedTo s k).map u8v) ∧ Below w.heap.size w wr) (fun i _ => 8 - (intOf i).toNat)
  case atStart => exact ⟨0, by omega, rfl, hH, hB⟩
  case round =>
    clear hH hB
    rename_i wr
    obtain ⟨k, hk, rfl, hH, hB⟩ := hrel
    by_cases hlt : k < 8
    · have hp := seedTo_put s k hlt
      have HP := Lib.hid hp
      clear hp
      have ct := hH.cellv (at8_of (seedTo s k) k (by rw [seedTo_len _ _ hk]; omega))
      have ft := hH.free k
      have k1 : (k : Int) < 8 := by omega
      have k3 : 8 * (k : Int) < 64 := by omega
      have s0 : (0 : Int) ≤ (s : Int) := by omega
      have s1 : (s : Int) < 18446744073709551616 := by have := HS.out; omega
      go_wp2_with fail
      go_roundw
      case rel =>
        refine ⟨k + 1, by omega, by go_num, ?_, hB.setCell (by simp) _⟩
        have := hH.put k (u8v (seedB s k))
        rw [← List.map_set, HP.out] at this
        rw [seed_byte]
        exact this
      case measure => simp [intOf]; omega
    · have : k = 8 := by omega
      subst this
      rw [seedTo_full] at hH
      have k1 : ¬ ((8 : Nat) : Int) < 8 := by omega
      go_wp2_with fail
      go_ret
      exact ⟨_, rfl, Nat.le_refl _, hH, hB⟩
end Go.Proofs.YtnkcehmgagpadaaDoor
/- Contracts: place.Good, the document's own GoodCells. No condition. -/
namespace Go.Proofs.YtnkcehmgagpadaaDoor
open Go.RowKit
set_option maxHeartbeats 2000000 in
theorem good14_p (n : Int) (w : World) : Calls Tryd.prog 31 #[.int .i64 n] w fun e w' => e = .returned (.bool (goodN n)) ∧ Below w.heap.size w w' := by
  have hg : goodN n = (decide (3 ≤ n) && decide (n ≤ 1024) && decide (n % 3 = 0)) := rfl
  generalize goodN n = g at *
  have HG := Lib.hid hg
  clear hg
  by_cases h1 : 3 ≤ n
  · by_cases h2 : n ≤ 1024
    · obtain ⟨m, rfl⟩ := Int.eq_ofNat_of_zero_le (show 0 ≤ n by omega)
      go_enter Tryd.func31, Tryd.ntmps31
      go_wp2_with fail
      go_ret
      refine ⟨congrArg (fun b => Ending.returned (Value.bool b)) ?_, Below.refl _ _⟩
      rw [HG.out, decide_eq_true h1, decide_eq_true h2]
      exact Bool.eq_iff_iff.2 (by simp)
    · go_enter Tryd.func31, Tryd.ntmps31
      go_wp2_with fail
      go_ret
      refine ⟨congrArg (fun b => Ending.returned (Value.bool b)) ?_, Below.refl _ _⟩
      rw [HG.out, decide_eq_false (show ¬ n ≤ 1024 by omega), Bool.and_false, Bool.false_and]
  · go_enter Tryd.func31, Tryd.ntmps31
    go_wp2_with fail
    go_ret
    refine ⟨congrArg (fun b => Ending.returned (Value.bool b)) ?_, Below.refl _ _⟩
    rw [HG.out, decide_eq_false (show ¬ 3 ≤ n by omega), Bool.false_and, Bool.false_and]
theorem good14_any (n : Int) (w : World) : Calls Tryd.prog 31 #[.int .i64 n] w fun e w' => (∃ v, e = .returned v ∧ v = .bool (goodN n)) ∧ Below w.heap.size w w' := Calls.mono (good14_p n w) fun _ _ h => ⟨⟨_, h.1, rfl⟩, h.2⟩
end Go.Proofs.YtnkcehmgagpadaaDoor
/- Operations of such walks: a slice of three byte slices; the sum of three. No condition. -/
namespace Go.Proofs.YtnkcehmgagpadaaDoor
open Go.RowKit
section
variable {o : Oper} {a : Act} {w : World} {K : Act → World → Prop} {Q : Exit → Act → World → Prop}
theorem wp_three_bs (x y z : Operand) (ho : o.op = .buildSlice 74 3 #[(0, x), (1, y), (2, z)]) (qu : Option Addr) (nu cu : Nat) (qv : Option Addr) (nv cv : Nat) (qx : Option Addr) (nx cx : Nat) (hx : a.eval x = .slice qu nu cu) (hy : a.eval y = .slice qv nv cv) (hz : a.eval z = .slice qx nx cx)
    (h : K (a.put o.dst (.slice (some ⟨w.heap.size, 0, none⟩) 3 3)) (w.alloc (.cells #[.slice qu nu cu, .slice qv nv cv, .slice qx nx cx] 45))) : o.wp Tryd.prog a w K Q := by
  obtain ⟨i0, hi, hz0, hz1, hz2⟩ := info_parts slT_infoF
  refine wp_buildSlice 74 45 3 _ ho #[.slice qu nu cu, .slice qv nv cv, .slice qx nx cx] i0 _ Tryd.underlying74 hi hz0 (by rw [hz1]; omega) (by rw [hz1]; omega) ?_ h
  rw [hz1]
  simp only [List.map_toArray, List.map_cons, List.map_nil, hx, hy, hz]
  kernel_rfl
end
theorem of_at3 {w : World} {g : Nat} {u v t : Value} {x y z : List (BitVec 8)} (hc : Cl w g 45 [u, v, t]) (q : Option Addr) (c : Nat) (hu : u = .slice q x.length c) (hxc : x.length ≤ c) (hs : Sees w w.heap.size q (x.map u8v))
    (p : Option Addr) (d : Nat) (hv : v = .slice p y.length d) (hyd : y.length ≤ d) (ht : Sees w w.heap.size p (y.map u8v))
    (r : Option Addr) (e : Nat) (hw : t = .slice r z.length e) (hze : z.length ≤ e) (hr : Sees w w.heap.size r (z.map u8v)) (hx : x.length + y.length + z.length ≤ 1000000) (hL : Laid w) :
    Calls Tryd.prog 15 #[.slice (some ⟨g, 0, none⟩) 3 3] w fun e w' => (∃ v, e = .returned v ∧ v = .agg (encU (shaU (x ++ y ++ z))).toArray) ∧ Below w.heap.size w w' := by
  subst hu hv hw
  have hP : Parts w w.heap.size (some ⟨g, 0, none⟩) [x, y, z] := fun i hi => by
    match i, hi with
    | 0, _ => exact ⟨⟨g, 0, none⟩, q, c, rfl, hc.lt, by rw [add_lit', Nat.zero_add]; exact hc.cell 0, hxc, hs⟩
    | 1, _ => exact ⟨⟨g, 0, none⟩, p, d, rfl, hc.lt, by rw [add_lit', Nat.zero_add]; exact hc.cell 1, hyd, ht⟩
    | 2, _ => exact ⟨⟨g, 0, none⟩, r, e, rfl, hc.lt, by rw [add_lit', Nat.zero_add]; exact hc.cell 2, hze, hr⟩
    | n + 3, h => exact absurd h (by simp)
  have h := of_any [x, y, z] _ 3 _ hP (by simp) (by simp; omega) hL
  refine Calls.mono h ?_
  rintro e w' ⟨rfl, h2⟩
  have e : ([x, y, z] : List (List (BitVec 8))).flatten = x ++ y ++ z := by simp
  rw [e]
  exact ⟨⟨_, rfl, rfl⟩, h2⟩
theorem lowest_fresh (s : Nat) (hs : s < 18446744073709551616) (w : World) :
    Calls Tryd.prog 74 #[.int .u64 s] w fun e w' => (∃ v, e = .returned v ∧ ∃ g, v = .slice (some ⟨g, 0, none⟩) 8 8 ∧ w.heap.size ≤ g ∧ Cl w' g 5 ((seedL s).map u8v)) ∧ Below w.heap.size w w' :=
  Calls.mono (lowest_any s hs w) fun _ _ ⟨g, h1, h2, h3, h4⟩ => ⟨⟨_, h1, g, rfl, h2, h3.cl⟩, h4⟩
/-- A slice that reads as numbers. -/
def Ins (w : World) (v : Value) (l : List Int) : Prop := ∃ q c, v = .slice q l.length c ∧ Sees w w.heap.size q (l.map fun n => Value.int .i64 n)
theorem Ins.keep {w w' : World} {v : Value} {l : List Int} (h : Ins w v l) (hb : Below w.heap.size w w') : Ins w' v l := by
  obtain ⟨q, c, rfl, hs⟩ := h
  exact ⟨q, c, rfl, (hs.keep hb).more hb.size⟩
theorem Ins.flz {w w' : World} {v : Value} {l : List Int} (h : Ins w v l) (hb : Below w.heap.size w w') : Ins w' v l := h.keep hb
theorem Ins.none (w : World) : Ins w (.slice none 0 0) [] := ⟨Option.none, 0, rfl, Sees.nil _ _ _⟩
theorem Ins.has {w : World} {g : Nat} {l : List Int} {n : Nat} (h : Has w g 3 (l.map fun n => Value.int .i64 n)) (hn : l.length = n) : Ins w (.slice (some ⟨g, 0, .none⟩) n n) l := by
  subst hn
  exact ⟨_, _, rfl, Sees.of_has h h.lt⟩
theorem make3 (w : World) : (Instr.makeSlice 38 (.int .i64 3) (.int .i64 3)).run Tryd.prog w = .ok (.slice (some ⟨w.heap.size, 0, none⟩) 3 3) (w.alloc (.cells (List.replicate 3 (Value.int .i64 0)).toArray 3)) := by
  have h := run_make_row' (P := Tryd.prog) 38 3 (.int .i64 0) 8 Tryd.underlying38 (by kernel_rfl) rfl .i64 .i64 3 (by omega) (by omega) w
  have e : madeCells #[Value.int .i64 0] 3 = (List.replicate 3 (Value.int .i64 0)).toArray := by kernel_rfl
  rw [e] at h
  exact h
/-- The first k places, behind them noughts. -/
def placesTo (s : Nat) (n : Int) (x : Su) (k : Nat) : List Int := (List.range k).map (placeAt s n x) ++ List.replicate (3 - k) 0
theorem placesTo_put (s : Nat) (n : Int) (x : Su) (k : Nat) (h : k < 3) : (placesTo s n x k).set k (placeAt s n x k) = placesTo s n x (k + 1) := by
  unfold placesTo
  rw [List.set_append_right _ _ (by simp)]
  rw [show 3 - k = (3 - (k + 1)) + 1 by omega, List.replicate_succ, List.range_succ]
  simp
theorem placesTo_full {s : Nat} {n : Int} {x : Su} (h : goodN n = true) : placesTo s n x 3 = places s n x := by unfold placesTo places; rw [if_pos h]; simp
theorem placesTo_len (s : Nat) (n : Int) (x : Su) (k : Nat) (h : k ≤ 3) : (placesTo s n x k).length = 3 := by unfold placesTo; simp; omega
theorem places_len {s : Nat} {n : Int} {x : Su} (h : goodN n = true) : (places s n x).length = 3 := by unfold places; rw [if_pos h]; rfl
theorem places_none {s : Nat} {n : Int} {x : Su} (h : goodN n = false) : places s n x = [] := by unfold places; rw [if_neg (by rw [h]; simp)]
theorem good_part {n : Int} (h : goodN n = true) : ∃ p : Nat, 1 ≤ p ∧ p ≤ 341 ∧ n = 3 * p := by
  unfold goodN at h
  simp only [Bool.and_eq_true, decide_eq_true_eq] at h
  exact ⟨(n / 3).toNat, by omega, by omega, by omega⟩
/-- The same, in a block made since. -/
def InsF (b : Nat) (w : World) (v : Value) (l : List Int) : Prop := Ins w v l ∧ ∀ k, Value.ownBlock v = some k → b ≤ k
theorem InsF.none (b : Nat) (w : World) : InsF b w (.slice .none 0 0) [] := ⟨Ins.none w, fun _ h => by cases h⟩
end Go.Proofs.YtnkcehmgagpadaaDoor
