/- A cell by value that came in. No condition. -/
import Derived.Test.YtihkbblapfjobaaDoorOpS
import Derived.Test.YtihkbblapfjobaaDoorCe
import Derived.Lib.SmallJoins
namespace Go.Proofs.YtihkbblapfjobaaDoor
open Go.ChangeShapes Go.WideShapes Go.ChangeAt Go.RowKit Go.Deep
set_option maxRecDepth 100000 in
theorem open_suG {H : Type} {enc : TypeId × Value → H} {w : World} {base fuel : Nat} {held : Bool} {cs : List Value} {y : DataW H × List MemPlace}
    (hf : DataW.trod enc Tryd.prog w base (fun _ => true) held fuel 24 cs = some y) : ∃ s : Su, cs = encU s := by
  obtain ⟨d, ps⟩ := y
  obtain ⟨xs, m, rfl, _, hlen, hxl, hel⟩ := DataW.trod_array Tryd.underlying24 hf
  have c1 : Tryd.prog.cellsOf 5 = 1 := by kernel_rfl
  have c32 : Tryd.prog.cellsOf 24 = 32 := by kernel_rfl
  have hs : cs.length = 32 := by rw [c32] at hlen; exact hlen
  refine ⟨⟨cs.map byteOf, by simpa using hs⟩, ?_⟩
  show cs = (cs.map byteOf).map u8v
  symm
  apply List.ext_getElem?
  intro i
  rcases Nat.lt_or_ge i 32 with hi | hi
  · have hxi := hel i hi
    rw [c1, List.getElem?_eq_getElem (by omega)] at hxi
    obtain ⟨n, e1, _, e3⟩ := DataW.trod_int Tryd.underlying5 hxi
    have hd : (cs.drop (i * 1)).take 1 = [cs[i]] := by
      rw [Nat.mul_one, List.drop_eq_getElem_cons (by omega)]; rfl
    have e4 : cs[i] = .int .u8 n := by
      rw [hd] at e1
      simpa using e1
    rw [List.getElem?_map, List.getElem?_map, List.getElem?_eq_getElem (by omega), e4]
    simp [u8v_byteOf n e3]
  · rw [List.getElem?_eq_none (by simp; omega), List.getElem?_eq_none (by omega)]
theorem threeL {α : Type} {l : List α} (h : l.length = 3) : ∃ a b c, l = [a, b, c] := by
  match l, h with
  | [a, b, c], _ => exact ⟨a, b, c, rfl⟩
theorem ce_cells : Tryd.prog.cellsOf 28 = 65 := by kernel_rfl
theorem i64_cells : Tryd.prog.cellsOf 2 = 1 := by kernel_rfl
theorem sum_cells : Tryd.prog.cellsOf 24 = 32 := by kernel_rfl
set_option maxRecDepth 100000 in
theorem open_ce {H : Type} {enc : TypeId × Value → H} {w : World} {base b0 : Nat} {held : Bool} {r : Reach} {v : Value} {d : DataW H} {ps : List MemPlace}
    (hval : Value.okWide Tryd.prog w r b0 28 v) (h : DataW.Trod enc Tryd.prog w base (fun _ => true) held 28 v d ps) : ∃ c : Ce, v = aggC c := by
  obtain ⟨cs, rfl, hsz⟩ := okWide_struct Tryd.underlying28 hval
  rw [ce_cells] at hsz
  obtain ⟨fuel, hf⟩ := h
  obtain ⟨xs, n, _, _, hlen, hxl, hel⟩ := DataW.trod_struct Tryd.underlying28 hf
  obtain ⟨y0, y1, y2, rfl⟩ := threeL hxl
  have g0 : DataW.trod enc Tryd.prog w base (fun _ => true) held n 2 (cs.toList.take 1) = some y0 := by have := hel 0 _ rfl; rw [show (cs.toList.take 1) = ((Value.agg cs).cells.toList.drop 0).take 1 from rfl, ← i64_cells]; exact this
  have g1 : DataW.trod enc Tryd.prog w base (fun _ => true) held n 24 ((cs.toList.drop 1).take 32) = some y1 := by have := hel 1 _ rfl; rw [← sum_cells]; exact this
  have g2 : DataW.trod enc Tryd.prog w base (fun _ => true) held n 24 ((cs.toList.drop 33).take 32) = some y2 := by have := hel 2 _ rfl; rw [← sum_cells]; exact this
  obtain ⟨k, e0, _, _⟩ := DataW.trod_int Tryd.underlying2 g0
  obtain ⟨s1, e1⟩ := open_suG g1
  obtain ⟨s2, e2⟩ := open_suG g2
  refine ⟨(k, s1, s2), ?_⟩
  have hl : cs.toList.length = 65 := by simpa using hsz
  have e3 : cs.toList = encC (k, s1, s2) := by
    have h1 : cs.toList = cs.toList.take 1 ++ ((cs.toList.drop 1).take 32 ++ (cs.toList.drop 33).take 32) := by
      have h2 : (cs.toList.drop 33).take 32 = cs.toList.drop 33 := List.take_of_length_le (by rw [List.length_drop]; omega)
      have h3 : (cs.toList.drop 1).take 32 ++ cs.toList.drop 33 = cs.toList.drop 1 := by
        have := List.take_append_drop 32 (cs.toList.drop 1)
        rw [List.drop_drop] at this
        exact this
      rw [h2, h3, List.take_append_drop]
    rw [h1, e0, e1, e2]
    rfl
  show Value.agg cs = .agg (encC (k, s1, s2)).toArray
  rw [← e3]
end Go.Proofs.YtihkbblapfjobaaDoor
