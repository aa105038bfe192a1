/- What stands under the openers of sums, at a seat with package sum's variables laid. No condition. -/
import Derived.Test.YtepeloenijlnhaaDoorLaid
import Derived.Below
import Derived.ShutString
import Derived.Test.YtepeloenijlnhaaDoorUm
import Derived.Deep.Slices
namespace Go.Proofs.YtepeloenijlnhaaDoor
open Go.ChangeShapes Go.WideShapes Go.ChangeAt Go.RowKit
theorem laidOut : laidOutB Tryd.prog = true := by kernel_rfl
def byteOf : Value → BitVec 8
  | .int _ n => BitVec.ofInt 8 n
  | _ => 0
theorem u8v_byteOf (n : Int) (h : (Lit.int .u8 n).wf = true) : u8v (byteOf (.int .u8 n)) = .int .u8 n := by
  have hb : 0 ≤ n ∧ n ≤ 255 := bounds_u8 h
  obtain ⟨m, rfl⟩ := Int.eq_ofNat_of_zero_le hb.1
  show Value.int .u8 (B (BitVec.ofInt 8 (m : Int))) = _
  rw [BitVec.ofInt_natCast, ← B_ofNat m (by omega)]
end Go.Proofs.YtepeloenijlnhaaDoor
/- A sum by value, a slice of sums, that came in. No condition. -/
namespace Go.Proofs.YtepeloenijlnhaaDoor
open Go.ChangeShapes Go.WideShapes Go.ChangeAt Go.RowKit Go.Deep
theorem cell_ltU {w : World} {a : Addr} {v : Value} (h : w.cell? a = some v) : a.block < w.heap.size := by
  rcases Nat.lt_or_ge a.block w.heap.size with hl | hl
  · exact hl
  · unfold World.cell? at h
    rw [Array.getElem?_eq_none hl] at h
    cases h
set_option maxRecDepth 100000 in
theorem open_suF {H : Type} {enc : TypeId × Value → H} {w : World} {base fuel : Nat} {held : Bool} {cs : List Value} {y : DataW H × List MemPlace}
    (hf : DataW.trod enc Tryd.prog w base (fun _ => true) held fuel 40 cs = some y) : ∃ s : Su, cs = encU s := by
  obtain ⟨d, ps⟩ := y
  obtain ⟨xs, m, rfl, _, hlen, hxl, hel⟩ := DataW.trod_array Tryd.underlying40 hf
  have c1 : Tryd.prog.cellsOf 5 = 1 := by kernel_rfl
  have c32 : Tryd.prog.cellsOf 40 = 32 := by kernel_rfl
  have hs : cs.length = 32 := by rw [c32] at hlen; exact hlen
  refine ⟨⟨cs.map byteOf, by simpa using hs⟩, ?_⟩
  show cs = (cs.map byteOf).map u8v
  symm
  apply List.ext_getElem?
  intro i
  rcases Nat.lt_or_ge i 32 with hi | hi
  · have hxi := hel i hi
    rw [c1, List.getElem?_eq_getElem (by omega)] at hxi
    obtain ⟨n, e1, _, e3⟩ := DataW.trod_int Tryd.underlying5 hxi
    have hd : (cs.drop (i * 1)).take 1 = [cs[i]] := by
      rw [Nat.mul_one, List.drop_eq_getElem_cons (by omega)]; rfl
    have e4 : cs[i] = .int .u8 n := by
      rw [hd] at e1
      simpa using e1
    rw [List.getElem?_map, List.getElem?_map, List.getElem?_eq_getElem (by omega), e4]
    simp [u8v_byteOf n e3]
  · rw [List.getElem?_eq_none (by simp; omega), List.getElem?_eq_none (by omega)]
set_option maxRecDepth 100000 in
theorem open_su {H : Type} {enc : TypeId × Value → H} {w : World} {base b0 : Nat} {held : Bool} {r : Reach} {v : Value} {d : DataW H} {ps : List MemPlace}
    (hval : Value.okWide Tryd.prog w r b0 40 v) (h : DataW.Trod enc Tryd.prog w base (fun _ => true) held 40 v d ps) : ∃ s : Su, v = .agg (encU s).toArray := by
  unfold Value.okWide at hval
  rw [Tryd.underlying40] at hval
  obtain ⟨cs, rfl, _, _⟩ := hval
  obtain ⟨fuel, hf⟩ := h
  obtain ⟨s, hs⟩ := open_suF hf
  refine ⟨s, ?_⟩
  have e : cs.toList = encU s := hs
  rw [← e]
set_option maxRecDepth 100000 in
theorem open_sus {H : Type} {enc : TypeId × Value → H} {w : World} {base b0 : Nat} {held : Bool} {r : Reach} {v : Value} {d : DataW H} {ps : List MemPlace}
    (hval : Value.okWide Tryd.prog w r b0 42 v) (h : DataW.Trod enc Tryd.prog w base (fun _ => true) held 42 v d ps) :
    ∃ (L : List Su) (q : Option Addr) (c : Nat), v = .slice q L.length c ∧ L.length ≤ c ∧ (q = none → c = 0) ∧ Sees w w.heap.size q (rowU L) := by
  obtain ⟨a0, len0, cap0, rfl⟩ := okWide_slice Tryd.underlying42 hval
  obtain ⟨fuel, hf⟩ := h
  have hc : Tryd.prog.cellsOf 40 = 32 := by kernel_rfl
  rcases open_slice Tryd.underlying42 hf with ⟨hcs, _⟩ | ⟨a, len, cap, m, n, D, Pl, hcs, hbk, hl, hm, hmm, hx, hel⟩
  · simp [Value.cells] at hcs
    obtain ⟨rfl, rfl, rfl⟩ := hcs
    exact ⟨[], none, 0, rfl, Nat.le_refl _, fun _ => rfl, Sees.nil _ _ _⟩
  · simp [Value.cells] at hcs
    obtain ⟨rfl, rfl, rfl⟩ := hcs
    have hmc : m = cap0 := by rw [hmm]; rfl
    have key : ∀ i, i < len0 → ∃ s : Su, ∀ j, j < 32 → w.cell? (a.add (i * 32 + j)) = (encU s)[j]? := fun i hi => by
      obtain ⟨cs', h1, h2⟩ := hel i (by omega)
      obtain ⟨s, rfl⟩ := open_suF h2
      rw [hc] at h1
      obtain ⟨_, _, h5⟩ := World.cells?_some h1
      exact ⟨s, fun j hj => by rw [← add_add]; exact h5 j hj⟩
    have ⟨f, hfk⟩ : ∃ f : Nat → Su, ∀ i, i < len0 → ∀ j, j < 32 → w.cell? (a.add (i * 32 + j)) = (encU (f i))[j]? := by
      refine ⟨fun i => if h : i < len0 then Classical.choose (key i h) else default, fun i hi => ?_⟩
      simp only [dif_pos hi]
      exact Classical.choose_spec (key i hi)
    have hlen : ((List.range len0).map f).length = len0 := by simp
    refine ⟨(List.range len0).map f, some a, cap0, by rw [hlen], by rw [hlen]; omega, fun h => (by cases h), fun h0 => ?_⟩
    rw [rowU_len, hlen] at h0
    have hp : 0 < len0 := by omega
    have e0 : (encU (f 0))[0]? = some ((encU (f 0))[0]'(by rw [encU_len]; decide)) := List.getElem?_eq_getElem _
    have hc0 := hfk 0 hp 0 (by decide)
    rw [e0] at hc0
    refine ⟨a, rfl, by have := cell_ltU hc0; rwa [add_block] at this, fun j u hu => ?_⟩
    have hj := (List.getElem?_eq_some_iff.1 hu).1
    rw [rowU_len, hlen] at hj
    have hi : j / 32 < len0 := by omega
    have hg : ((List.range len0).map f)[j / 32]'(by rw [hlen]; exact hi) = f (j / 32) := by simp
    have h1 := rowU_get ((List.range len0).map f) (j / 32) (by rw [hlen]; exact hi) (j % 32) (Nat.mod_lt _ (by decide))
    rw [hg, show j / 32 * 32 + j % 32 = j by omega] at h1
    have h2 := hfk (j / 32) hi (j % 32) (Nat.mod_lt _ (by decide))
    rw [show j / 32 * 32 + j % 32 = j by omega] at h2
    rw [h2, ← h1, hu]
end Go.Proofs.YtepeloenijlnhaaDoor
