/- What stands under the openers of sums, at a seat with package sum's variables laid. No condition. -/
import Derived.Test.YtnkcehmgagpadaaDoorLaid
import Derived.Below
import Derived.ShutString
import Derived.Test.YtnkcehmgagpadaaDoorUm
import Derived.Deep.Slices
import Derived.ChangeSlices
import Derived.Lib.SmallJoins
namespace Go.Proofs.YtnkcehmgagpadaaDoor
open Go.ChangeShapes Go.WideShapes Go.ChangeAt Go.RowKit
theorem laidOut : laidOutB Tryd.prog = true := by kernel_rfl
end Go.Proofs.YtnkcehmgagpadaaDoor
/- A sum by value, a slice of sums, that came in. No condition. -/
namespace Go.Proofs.YtnkcehmgagpadaaDoor
open Go.ChangeShapes Go.WideShapes Go.ChangeAt Go.RowKit Go.Deep
theorem cell_ltU {w : World} {a : Addr} {v : Value} (h : w.cell? a = some v) : a.block < w.heap.size := by
  rcases Nat.lt_or_ge a.block w.heap.size with hl | hl
  · exact hl
  · unfold World.cell? at h
    rw [Array.getElem?_eq_none hl] at h
    cases h
end Go.Proofs.YtnkcehmgagpadaaDoor
/- A slice of numbers that came in. No condition. -/
namespace Go.Proofs.YtnkcehmgagpadaaDoor
open Go.ChangeShapes Go.WideShapes Go.ChangeAt Go.RowKit Go.ChangeMaps Go.Deep Go.Joins
set_option maxRecDepth 100000 in
theorem open_intsF {H : Type} {enc : TypeId × Value → H} {w : World} {base fuel : Nat} {held : Bool} {v : Value} {y : DataW H × List MemPlace}
    (hf : DataW.trod enc Tryd.prog w base (fun _ => true) held fuel 38 [v] = some y) :
    ∃ (K : List Int) (q : Option Addr) (c : Nat), v = .slice q K.length c ∧ (q = none → c = 0) ∧ Sees w w.heap.size q (K.map (Value.int .i64)) := by
  obtain ⟨a0, len0, cap0, hv⟩ := slice_form Tryd.underlying38 hf
  obtain rfl : v = .slice a0 len0 cap0 := by simpa using hv
  obtain ⟨d, ps⟩ := y
  rcases open_ints Tryd.underlying38 Tryd.underlying3 (by kernel_rfl) hf with ⟨hcs, _⟩ | ⟨x, l, c, zs, hcs, _, hl, hm, hz, _, hcell, hwz⟩
  · simp at hcs
    obtain ⟨rfl, rfl, rfl⟩ := hcs
    exact ⟨[], none, 0, rfl, fun _ => rfl, Sees.nil _ _ _⟩
  · simp at hcs
    obtain ⟨rfl, rfl, rfl⟩ := hcs
    have hz' : zs.length = cap0 := by simpa using hz
    have hbl : (zs.take len0).length = len0 := by simp; omega
    refine ⟨zs.take len0, some x, cap0, by rw [hbl], fun h => (by cases h), fun h0 => ?_⟩
    have hp : 0 < zs.length := by simp at h0; omega
    refine ⟨x, rfl, by have := cell_ltU (hcell 0 hp); rwa [add_block] at this, fun j u hu => ?_⟩
    have hj : j < len0 := by have := (List.getElem?_eq_some_iff.1 hu).1; simp at this; omega
    rw [hcell j (by omega), ← hu, List.getElem?_map, List.getElem?_take, if_pos hj, List.getElem?_eq_getElem (show j < zs.length by omega)]
    simp [List.getD_eq_getElem?_getD, List.getElem?_eq_getElem (show j < zs.length by omega)]
set_option maxRecDepth 100000 in
theorem open_intsC {H : Type} {enc : TypeId × Value → H} {w : World} {base b0 : Nat} {held : Bool} {r : Reach} {v : Value} {d : DataW H} {ps : List MemPlace}
    (hval : Value.okWide Tryd.prog w r b0 38 v) (h : DataW.Trod enc Tryd.prog w base (fun _ => true) held 38 v d ps) : ∃ (K : List Int) (q : Option Addr) (c : Nat), v = .slice q K.length c ∧ (q = none → c = 0) ∧ Sees w w.heap.size q (K.map (Value.int .i64)) := by
  obtain ⟨a0, len0, cap0, rfl⟩ := okWide_slice Tryd.underlying38 hval
  obtain ⟨fuel, hf⟩ := h
  exact open_intsF (by simpa [Value.cells] using hf)
end Go.Proofs.YtnkcehmgagpadaaDoor
