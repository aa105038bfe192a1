/- What stands under the openers of sums, at a seat with package sum's variables laid. No condition. -/
import Derived.Test.YtnkcehmgagpadaaDoorLaid
import Derived.Below
import Derived.ShutString
import Derived.Test.YtnkcehmgagpadaaDoorUm
import Derived.Deep.Slices
import Derived.ChangeSlices
import Derived.Lib.SmallJoins
import Derived.Test.YtnkcehmgagpadaaDoorGp2
import Derived.Test.YtnkcehmgagpadaaDoorGp3
namespace Go.Proofs.YtnkcehmgagpadaaDoor
open Go.ChangeShapes Go.WideShapes Go.ChangeAt Go.RowKit
theorem laidOut : laidOutB Tryd.prog = true := by kernel_rfl
def byteOf : Value → BitVec 8
  | .int _ n => BitVec.ofInt 8 n
  | _ => 0
theorem u8v_byteOf (n : Int) (h : (Lit.int .u8 n).wf = true) : u8v (byteOf (.int .u8 n)) = .int .u8 n := by
  have hb : 0 ≤ n ∧ n ≤ 255 := bounds_u8 h
  obtain ⟨m, rfl⟩ := Int.eq_ofNat_of_zero_le hb.1
  show Value.int .u8 (B (BitVec.ofInt 8 (m : Int))) = _
  rw [BitVec.ofInt_natCast, ← B_ofNat m (by omega)]
end Go.Proofs.YtnkcehmgagpadaaDoor
/- A sum by value, a slice of sums, that came in. No condition. -/
namespace Go.Proofs.YtnkcehmgagpadaaDoor
open Go.ChangeShapes Go.WideShapes Go.ChangeAt Go.RowKit Go.Deep
theorem cell_ltU {w : World} {a : Addr} {v : Value} (h : w.cell? a = some v) : a.block < w.heap.size := by
  rcases Nat.lt_or_ge a.block w.heap.size with hl | hl
  · exact hl
  · unfold World.cell? at h
    rw [Array.getElem?_eq_none hl] at h
    cases h
end Go.Proofs.YtnkcehmgagpadaaDoor
/- A slice of numbers that came in. No condition. -/
namespace Go.Proofs.YtnkcehmgagpadaaDoor
open Go.ChangeShapes Go.WideShapes Go.ChangeAt Go.RowKit Go.ChangeMaps Go.Deep Go.Joins
set_option maxRecDepth 100000 in
theorem open_intsF {H : Type} {enc : TypeId × Value → H} {w : World} {base fuel : Nat} {held : Bool} {v : Value} {y : DataW H × List MemPlace}
    (hf : DataW.trod enc Tryd.prog w base (fun _ => true) held fuel 38 [v] = some y) :
    ∃ (K : List Int) (q : Option Addr) (c : Nat), v = .slice q K.length c ∧ (q = none → c = 0) ∧ Sees w w.heap.size q (K.map (Value.int .i64)) := by
  obtain ⟨a0, len0, cap0, hv⟩ := slice_form Tryd.underlying38 hf
  obtain rfl : v = .slice a0 len0 cap0 := by simpa using hv
  obtain ⟨d, ps⟩ := y
  rcases open_ints Tryd.underlying38 Tryd.underlying3 (by kernel_rfl) hf with ⟨hcs, _⟩ | ⟨x, l, c, zs, hcs, _, hl, hm, hz, _, hcell, hwz⟩
  · simp at hcs
    obtain ⟨rfl, rfl, rfl⟩ := hcs
    exact ⟨[], none, 0, rfl, fun _ => rfl, Sees.nil _ _ _⟩
  · simp at hcs
    obtain ⟨rfl, rfl, rfl⟩ := hcs
    have hz' : zs.length = cap0 := by simpa using hz
    have hbl : (zs.take len0).length = len0 := by simp; omega
    refine ⟨zs.take len0, some x, cap0, by rw [hbl], fun h => (by cases h), fun h0 => ?_⟩
    have hp : 0 < zs.length := by simp at h0; omega
    refine ⟨x, rfl, by have := cell_ltU (hcell 0 hp); rwa [add_block] at this, fun j u hu => ?_⟩
    have hj : j < len0 := by have := (List.getElem?_eq_some_iff.1 hu).1; simp at this; omega
    rw [hcell j (by omega), ← hu, List.getElem?_map, List.getElem?_take, if_pos hj, List.getElem?_eq_getElem (show j < zs.length by omega)]
    simp [List.getD_eq_getElem?_getD, List.getElem?_eq_getElem (show j < zs.length by omega)]
set_option maxRecDepth 100000 in
theorem open_intsC {H : Type} {enc : TypeId × Value → H} {w : World} {base b0 : Nat} {held : Bool} {r : Reach} {v : Value} {d : DataW H} {ps : List MemPlace}
    (hval : Value.okWide Tryd.prog w r b0 38 v) (h : DataW.Trod enc Tryd.prog w base (fun _ => true) held 38 v d ps) : ∃ (K : List Int) (q : Option Addr) (c : Nat), v = .slice q K.length c ∧ (q = none → c = 0) ∧ Sees w w.heap.size q (K.map (Value.int .i64)) := by
  obtain ⟨a0, len0, cap0, rfl⟩ := okWide_slice Tryd.underlying38 hval
  obtain ⟨fuel, hf⟩ := h
  exact open_intsF (by simpa [Value.cells] using hf)
end Go.Proofs.YtnkcehmgagpadaaDoor
/- A cell by value that came in. No condition. -/
namespace Go.Proofs.YtnkcehmgagpadaaDoor
open Go.ChangeShapes Go.WideShapes Go.ChangeAt Go.RowKit Go.Deep
set_option maxRecDepth 100000 in
theorem open_suG {H : Type} {enc : TypeId × Value → H} {w : World} {base fuel : Nat} {held : Bool} {cs : List Value} {y : DataW H × List MemPlace}
    (hf : DataW.trod enc Tryd.prog w base (fun _ => true) held fuel 42 cs = some y) : ∃ s : Su, cs = encU s := by
  obtain ⟨d, ps⟩ := y
  obtain ⟨xs, m, rfl, _, hlen, hxl, hel⟩ := DataW.trod_array Tryd.underlying42 hf
  have c1 : Tryd.prog.cellsOf 5 = 1 := by kernel_rfl
  have c32 : Tryd.prog.cellsOf 42 = 32 := by kernel_rfl
  have hs : cs.length = 32 := by rw [c32] at hlen; exact hlen
  refine ⟨⟨cs.map byteOf, by simpa using hs⟩, ?_⟩
  show cs = (cs.map byteOf).map u8v
  symm
  apply List.ext_getElem?
  intro i
  rcases Nat.lt_or_ge i 32 with hi | hi
  · have hxi := hel i hi
    rw [c1, List.getElem?_eq_getElem (by omega)] at hxi
    obtain ⟨n, e1, _, e3⟩ := DataW.trod_int Tryd.underlying5 hxi
    have hd : (cs.drop (i * 1)).take 1 = [cs[i]] := by
      rw [Nat.mul_one, List.drop_eq_getElem_cons (by omega)]; rfl
    have e4 : cs[i] = .int .u8 n := by
      rw [hd] at e1
      simpa using e1
    rw [List.getElem?_map, List.getElem?_map, List.getElem?_eq_getElem (by omega), e4]
    simp [u8v_byteOf n e3]
  · rw [List.getElem?_eq_none (by simp; omega), List.getElem?_eq_none (by omega)]
theorem threeL {α : Type} {l : List α} (h : l.length = 3) : ∃ a b c, l = [a, b, c] := by
  match l, h with
  | [a, b, c], _ => exact ⟨a, b, c, rfl⟩
theorem ce_cells : Tryd.prog.cellsOf 47 = 65 := by kernel_rfl
theorem i64_cells : Tryd.prog.cellsOf 2 = 1 := by kernel_rfl
theorem sum_cells : Tryd.prog.cellsOf 42 = 32 := by kernel_rfl
end Go.Proofs.YtnkcehmgagpadaaDoor
/- A slice of cells that came in: it reads as cells whose counts are numbers of sixty-four bits. No condition. -/
namespace Go.Proofs.YtnkcehmgagpadaaDoor
open Go.ChangeShapes Go.WideShapes Go.ChangeAt Go.RowKit Go.Deep
set_option maxRecDepth 100000 in
theorem open_ceF {H : Type} {enc : TypeId × Value → H} {w : World} {base fuel : Nat} {held : Bool} {cs : List Value} {y : DataW H × List MemPlace}
    (hf : DataW.trod enc Tryd.prog w base (fun _ => true) held fuel 47 cs = some y) : ∃ c : Ce, cs = encC c ∧ okC c := by
  obtain ⟨xs, n, _, _, hlen, hxl, hel⟩ := DataW.trod_struct Tryd.underlying47 hf
  obtain ⟨y0, y1, y2, rfl⟩ := threeL hxl
  have g0 : DataW.trod enc Tryd.prog w base (fun _ => true) held n 2 (cs.take 1) = some y0 := by have := hel 0 _ rfl; rw [show cs.take 1 = (cs.drop 0).take 1 from rfl, ← i64_cells]; exact this
  have g1 : DataW.trod enc Tryd.prog w base (fun _ => true) held n 42 ((cs.drop 1).take 32) = some y1 := by have := hel 1 _ rfl; rw [← sum_cells]; exact this
  have g2 : DataW.trod enc Tryd.prog w base (fun _ => true) held n 42 ((cs.drop 33).take 32) = some y2 := by have := hel 2 _ rfl; rw [← sum_cells]; exact this
  obtain ⟨k, e0, _, hw⟩ := DataW.trod_int Tryd.underlying2 g0
  obtain ⟨s1, e1⟩ := open_suG g1
  obtain ⟨s2, e2⟩ := open_suG g2
  rw [ce_cells] at hlen
  have hb := bounds_i64 hw
  refine ⟨(k, s1, s2), ?_, wrap_in (by omega)⟩
  have h1 : cs = cs.take 1 ++ ((cs.drop 1).take 32 ++ (cs.drop 33).take 32) := by
    have h2 : (cs.drop 33).take 32 = cs.drop 33 := List.take_of_length_le (by rw [List.length_drop]; omega)
    have h3 : (cs.drop 1).take 32 ++ cs.drop 33 = cs.drop 1 := by
      have := List.take_append_drop 32 (cs.drop 1)
      rw [List.drop_drop] at this
      exact this
    rw [h2, h3, List.take_append_drop]
  rw [h1, e0, e1, e2]
  rfl
set_option maxRecDepth 100000 in
theorem open_ces {H : Type} {enc : TypeId × Value → H} {w : World} {base b0 : Nat} {held : Bool} {r : Reach} {v : Value} {d : DataW H} {ps : List MemPlace}
    (hval : Value.okWide Tryd.prog w r b0 26 v) (h : DataW.Trod enc Tryd.prog w base (fun _ => true) held 26 v d ps) :
    ∃ (L : List Ce) (q : Option Addr) (c : Nat), v = .slice q L.length c ∧ L.length ≤ c ∧ (q = none → c = 0) ∧ Sees w w.heap.size q (rowC L) ∧ ∀ x ∈ L, okC x := by
  obtain ⟨a0, len0, cap0, rfl⟩ := okWide_slice Tryd.underlying26 hval
  obtain ⟨fuel, hf⟩ := h
  have hc : Tryd.prog.cellsOf 47 = 65 := by kernel_rfl
  rcases open_slice Tryd.underlying26 hf with ⟨hcs, _⟩ | ⟨a, len, cap, m, n, D, Pl, hcs, hbk, hl, hm, hmm, hx, hel⟩
  · simp [Value.cells] at hcs
    obtain ⟨rfl, rfl, rfl⟩ := hcs
    exact ⟨[], none, 0, rfl, Nat.le_refl _, fun _ => rfl, Sees.nil _ _ _, fun _ h => by cases h⟩
  · simp [Value.cells] at hcs
    obtain ⟨rfl, rfl, rfl⟩ := hcs
    have hmc : m = cap0 := by rw [hmm]; rfl
    have key : ∀ i, i < len0 → ∃ s : Ce, okC s ∧ ∀ j, j < 65 → w.cell? (a.add (i * 65 + j)) = (encC s)[j]? := fun i hi => by
      obtain ⟨cs', h1, h2⟩ := hel i (by omega)
      obtain ⟨s, rfl, hok⟩ := open_ceF h2
      rw [hc] at h1
      obtain ⟨_, _, h5⟩ := World.cells?_some h1
      exact ⟨s, hok, fun j hj => by rw [← add_add]; exact h5 j hj⟩
    have ⟨f, hfk⟩ : ∃ f : Nat → Ce, ∀ i, i < len0 → okC (f i) ∧ ∀ j, j < 65 → w.cell? (a.add (i * 65 + j)) = (encC (f i))[j]? := by
      refine ⟨fun i => if h : i < len0 then Classical.choose (key i h) else zC, fun i hi => ?_⟩
      simp only [dif_pos hi]
      exact Classical.choose_spec (key i hi)
    have hlen : ((List.range len0).map f).length = len0 := by simp
    refine ⟨(List.range len0).map f, some a, cap0, by rw [hlen], by rw [hlen]; omega, fun h => (by cases h), fun h0 => ?_, fun x hx => ?_⟩
    · rw [rowC_len, hlen] at h0
      have hp : 0 < len0 := by omega
      have e0 : (encC (f 0))[0]? = some ((encC (f 0))[0]'(by rw [encC_len]; decide)) := List.getElem?_eq_getElem _
      have hc0 := (hfk 0 hp).2 0 (by decide)
      rw [e0] at hc0
      refine ⟨a, rfl, by have := cell_ltU hc0; rwa [add_block] at this, fun j u hu => ?_⟩
      have hj := (List.getElem?_eq_some_iff.1 hu).1
      rw [rowC_len, hlen] at hj
      have hi : j / 65 < len0 := by omega
      have hg : ((List.range len0).map f)[j / 65]'(by rw [hlen]; exact hi) = f (j / 65) := by simp
      have h1 := rowC_get ((List.range len0).map f) (j / 65) (by rw [hlen]; exact hi) (j % 65) (Nat.mod_lt _ (by decide))
      rw [hg, show j / 65 * 65 + j % 65 = j by omega] at h1
      have h2 := (hfk (j / 65) hi).2 (j % 65) (Nat.mod_lt _ (by decide))
      rw [show j / 65 * 65 + j % 65 = j by omega] at h2
      rw [h2, ← h1, hu]
    · obtain ⟨i, hi, rfl⟩ := List.mem_map.1 hx
      exact (hfk i (List.mem_range.1 hi)).1
end Go.Proofs.YtnkcehmgagpadaaDoor
