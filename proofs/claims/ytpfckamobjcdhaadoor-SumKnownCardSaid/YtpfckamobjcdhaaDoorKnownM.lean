/- What SumKnown asks of fixed sums: words, order, parts of abc. Condition: the variables as laid. -/
import Derived.Test.YtpfckamobjcdhaaDoorRaw
import Derived.Test.YtpfckamobjcdhaaDoorPbad
namespace Go.Proofs.YtpfckamobjcdhaaDoor
open Go.RowKit
def wv : List (BitVec 8) := [1, 2, 0, 0, 0, 0, 0, 128, 3] ++ List.replicate 23 0
def c13 : List (BitVec 8) := [1, 3] ++ List.replicate 30 0
def c2 : List (BitVec 8) := [2] ++ List.replicate 31 0
def wrw : Array Value := #[Value.int IntKind.u8 1, Value.int IntKind.u8 2, Value.int IntKind.u8 0, Value.int IntKind.u8 0, Value.int IntKind.u8 0, Value.int IntKind.u8 0, Value.int IntKind.u8 0, Value.int IntKind.u8 128, Value.int IntKind.u8 3, Value.int IntKind.u8 0, Value.int IntKind.u8 0, Value.int IntKind.u8 0, Value.int IntKind.u8 0, Value.int IntKind.u8 0, Value.int IntKind.u8 0, Value.int IntKind.u8 0, Value.int IntKind.u8 0, Value.int IntKind.u8 0, Value.int IntKind.u8 0, Value.int IntKind.u8 0, Value.int IntKind.u8 0, Value.int IntKind.u8 0, Value.int IntKind.u8 0, Value.int IntKind.u8 0, Value.int IntKind.u8 0, Value.int IntKind.u8 0, Value.int IntKind.u8 0, Value.int IntKind.u8 0, Value.int IntKind.u8 0, Value.int IntKind.u8 0, Value.int IntKind.u8 0, Value.int IntKind.u8 0]
theorem wrw_eq : wrw = (wv.map u8v).toArray := rfl
theorem wrw_size : (Tryd.prog.info? 24).map (·.size) = some wrw.size := by rw [sum_info]; rfl
theorem wrw_len : (brow 32 []).toArray.size = wrw.size := rfl
theorem wrw_one : wrw.all (·.oneCell') = true := by kernel_rfl
theorem eText_list : (strB (textOf (sha []))).toList = [101, 51, 98, 48, 99, 52, 52, 50, 57, 56, 102, 99, 49, 99, 49, 52, 57, 97, 102, 98, 102, 52, 99, 56, 57, 57, 54, 102, 98, 57, 50, 52, 50, 55, 97, 101, 52, 49, 101, 52, 54, 52, 57, 98, 57, 51, 52, 99, 97, 52, 57, 53, 57, 57, 49, 98, 55, 56, 53, 50, 98, 56, 53, 53] := by kernel_rfl
theorem word0 (w : World) : Calls Tryd.prog 14 #[.agg wrw, .int .i64 0] w fun e w' => e = .returned (.int .u64 9223372036854776321) ∧ Below w.heap.size w w' := by
  have := word_any wv rfl 0 w
  rw [← wrw_eq, show M (wordOf wv 0) = 9223372036854776321 by kernel_rfl] at this
  exact this
theorem word1 (w : World) : Calls Tryd.prog 14 #[.agg wrw, .int .i64 1] w fun e w' => e = .returned (.int .u64 3) ∧ Below w.heap.size w w' := by
  have := word_any wv rfl 1 w
  rw [← wrw_eq, show M (wordOf wv 1) = 3 by kernel_rfl] at this
  exact this
theorem wordQ (w : World) : Calls Tryd.prog 14 #[.agg wrw, .int .i64 4] w fun e w' => e = .returned (.int .u64 0) ∧ Below w.heap.size w w' := by
  have := word_any wv rfl 4 w
  rw [← wrw_eq, show M (wordOf wv 4) = 0 by kernel_rfl] at this
  exact this
theorem wordm (w : World) : Calls Tryd.prog 14 #[.agg wrw, .int .i64 (-1)] w fun e w' => e = .returned (.int .u64 0) ∧ Below w.heap.size w w' := by
  have := word_any wv rfl (-1) w
  rw [← wrw_eq, show M (wordOf wv (-1)) = 0 by kernel_rfl] at this
  exact this
theorem cmp13 (w : World) : Calls Tryd.prog 15 #[.agg wrw, .agg #[Value.int IntKind.u8 1, Value.int IntKind.u8 3, Value.int IntKind.u8 0, Value.int IntKind.u8 0, Value.int IntKind.u8 0, Value.int IntKind.u8 0, Value.int IntKind.u8 0, Value.int IntKind.u8 0, Value.int IntKind.u8 0, Value.int IntKind.u8 0, Value.int IntKind.u8 0, Value.int IntKind.u8 0, Value.int IntKind.u8 0, Value.int IntKind.u8 0, Value.int IntKind.u8 0, Value.int IntKind.u8 0, Value.int IntKind.u8 0, Value.int IntKind.u8 0, Value.int IntKind.u8 0, Value.int IntKind.u8 0, Value.int IntKind.u8 0, Value.int IntKind.u8 0, Value.int IntKind.u8 0, Value.int IntKind.u8 0, Value.int IntKind.u8 0, Value.int IntKind.u8 0, Value.int IntKind.u8 0, Value.int IntKind.u8 0, Value.int IntKind.u8 0, Value.int IntKind.u8 0, Value.int IntKind.u8 0, Value.int IntKind.u8 0]] w fun e w' => e = .returned (.int .i64 (-1)) ∧ Below w.heap.size w w' := by
  have := cmp_any wv c13 rfl rfl w
  rw [← wrw_eq, show cmpL wv c13 = -1 by kernel_rfl] at this
  exact this
theorem cmp2 (w : World) : Calls Tryd.prog 15 #[.agg #[Value.int IntKind.u8 2, Value.int IntKind.u8 0, Value.int IntKind.u8 0, Value.int IntKind.u8 0, Value.int IntKind.u8 0, Value.int IntKind.u8 0, Value.int IntKind.u8 0, Value.int IntKind.u8 0, Value.int IntKind.u8 0, Value.int IntKind.u8 0, Value.int IntKind.u8 0, Value.int IntKind.u8 0, Value.int IntKind.u8 0, Value.int IntKind.u8 0, Value.int IntKind.u8 0, Value.int IntKind.u8 0, Value.int IntKind.u8 0, Value.int IntKind.u8 0, Value.int IntKind.u8 0, Value.int IntKind.u8 0, Value.int IntKind.u8 0, Value.int IntKind.u8 0, Value.int IntKind.u8 0, Value.int IntKind.u8 0, Value.int IntKind.u8 0, Value.int IntKind.u8 0, Value.int IntKind.u8 0, Value.int IntKind.u8 0, Value.int IntKind.u8 0, Value.int IntKind.u8 0, Value.int IntKind.u8 0, Value.int IntKind.u8 0], .agg wrw] w fun e w' => e = .returned (.int .i64 1) ∧ Below w.heap.size w w' := by
  have := cmp_any c2 wv rfl rfl w
  rw [← wrw_eq, show cmpL c2 wv = 1 by kernel_rfl] at this
  exact this
theorem cmpw (w : World) : Calls Tryd.prog 15 #[.agg wrw, .agg wrw] w fun e w' => e = .returned (.int .i64 0) ∧ Below w.heap.size w w' := by
  have := cmp_any wv wv rfl rfl w
  rw [← wrw_eq, cmpL_self] at this
  exact this
theorem xorw (w : World) : Calls Tryd.prog 16 #[.agg wrw, .agg wrw] w fun e w' => e = .returned (.agg zrw) ∧ Below w.heap.size w w' := by
  have := xor_any wv wv rfl rfl w
  rw [← wrw_eq, xorL_self wv rfl, ← zrw_eq] at this
  exact this
theorem zerow (w : World) : Calls Tryd.prog 13 #[.agg wrw] w fun e w' => e = .returned (.bool false) ∧ Below w.heap.size w w' := by
  have := zero_any wv rfl w
  rw [← wrw_eq, show decide (wv = zero32) = false by decide] at this
  exact this
/-- The cells of a block read as these bytes. -/
def Reads (w : World) (g : Nat) (x : List (BitVec 8)) : Prop := g < w.heap.size ∧ ∀ j u, (x.map u8v)[j]? = some u → w.cell? ⟨g, j, none⟩ = some u
theorem Reads.alloc {w : World} {g : Nat} {x : List (BitVec 8)} (h : Reads w g x) (o : Obj) : Reads (w.alloc o) g x :=
  ⟨Nat.lt_of_lt_of_le h.1 (by simp), fun j u hu => by rw [World.cell?_alloc_lt _ _ ⟨g, j, none⟩ h.1]; exact h.2 j u hu⟩
theorem Reads.made (w : World) (x : List (BitVec 8)) (cs : Array Value) (f : Nat × Nat) (hx : cs = (x.map u8v).toArray) : Reads (w.alloc (.cells cs 5 f)) w.heap.size x :=
  ⟨by simp, fun j u hu => (cell_of_row _ w.heap.size j cs 5 f (heap_alloc_new w _)).trans (by rw [hx]; simpa using hu)⟩
theorem Reads.sees {w : World} {g : Nat} {x : List (BitVec 8)} (h : Reads w g x) : Sees w w.heap.size (some ⟨g, 0, none⟩) (x.map u8v) := fun _ =>
  ⟨_, rfl, h.1, fun j u hu => by rw [Addr.add_mid, Nat.zero_add]; exact h.2 j u hu⟩
theorem of_one (w : World) (x : List (BitVec 8)) (n : Nat) (hn : x.length = n) (hs : n < 1000) (a c : Nat) (ha : Reads w a x) (hc : Has w c 30 [.slice (some ⟨a, 0, none⟩) n n]) (hL : Laid w) :
    Calls Tryd.prog 10 #[.slice (some ⟨c, 0, none⟩) 1 1] w fun e w' => e = .returned (.agg ((sha x).map u8v).toArray) ∧ Below w.heap.size w w' := by
  subst hn
  have hP : Parts w w.heap.size (some ⟨c, 0, none⟩) [x] := by
    intro i hi
    have hi' : i = 0 := by simp at hi; omega
    subst hi'
    have hcell : w.cell? (Addr.add ⟨c, 0, none⟩ 0) = some (.slice (some ⟨a, 0, none⟩) x.length x.length) := hc.cellv (i := 0) rfl
    exact ⟨_, _, x.length, rfl, hc.lt, hcell, Nat.le_refl _, ha.sees⟩
  have := of_any [x] (some ⟨c, 0, none⟩) 1 w hP (by simp) (by simp; omega) hL
  rw [show [x].flatten = x by simp] at this
  exact this
theorem of_pair (w : World) (x y : List (BitVec 8)) (n m : Nat) (hn : x.length = n) (hm : y.length = m) (hs : n + m < 1000) (a b c : Nat) (ha : Reads w a x) (hb : Reads w b y) (hc : Has w c 30 [.slice (some ⟨a, 0, none⟩) n n, .slice (some ⟨b, 0, none⟩) m m]) (hL : Laid w) :
    Calls Tryd.prog 10 #[.slice (some ⟨c, 0, none⟩) 2 2] w fun e w' => e = .returned (.agg ((sha (x ++ y)).map u8v).toArray) ∧ Below w.heap.size w w' := by
  subst hn hm
  have hP : Parts w w.heap.size (some ⟨c, 0, none⟩) [x, y] := by
    intro i hi
    have hi' : i = 0 ∨ i = 1 := by simp at hi; omega
    rcases hi' with rfl | rfl
    · have hcell : w.cell? (Addr.add ⟨c, 0, none⟩ 0) = some (.slice (some ⟨a, 0, none⟩) x.length x.length) := hc.cellv (i := 0) rfl
      exact ⟨_, _, x.length, rfl, hc.lt, hcell, Nat.le_refl _, ha.sees⟩
    · have hcell : w.cell? (Addr.add ⟨c, 0, none⟩ 1) = some (.slice (some ⟨b, 0, none⟩) y.length y.length) := hc.cellv (i := 1) rfl
      exact ⟨_, _, y.length, rfl, hc.lt, hcell, Nat.le_refl _, hb.sees⟩
  have := of_any [x, y] (some ⟨c, 0, none⟩) 2 w hP (by simp) (by simp; omega) hL
  rw [show [x, y].flatten = x ++ y by simp] at this
  exact this
end Go.Proofs.YtpfckamobjcdhaaDoor
