/- Arguments read as data: thirty-two bytes by value; a slice of bytes; a slice of ints. -/
import Derived.Test.YtgaphplndpdhaaaDoorLaid
import Derived.Below
namespace Go.Proofs.YtgaphplndpdhaaaDoor
open Go.ChangeShapes Go.WideShapes Go.ChangeAt Go.RowKit
theorem laidOut : laidOutB Tryd.prog = true := by kernel_rfl
def byteOf : Value → BitVec 8
  | .int _ n => BitVec.ofInt 8 n
  | _ => 0
theorem u8v_byteOf (n : Int) (h : (Lit.int .u8 n).wf = true) : u8v (byteOf (.int .u8 n)) = .int .u8 n := by
  have hb : 0 ≤ n ∧ n ≤ 255 := bounds_u8 h
  obtain ⟨m, rfl⟩ := Int.eq_ofNat_of_zero_le hb.1
  show Value.int .u8 (B (BitVec.ofInt 8 (m : Int))) = _
  rw [BitVec.ofInt_natCast, ← B_ofNat m (by omega)]
theorem open_bytes32 {H : Type} {enc : TypeId × Value → H} {w : World} {base b0 : Nat} {spare : Nat → Bool} {held : Bool} {r : Reach} {v : Value} {d : DataW H} {ps : List MemPlace}
    (hval : Value.okWide Tryd.prog w r b0 24 v) (h : DataW.Trod enc Tryd.prog w base spare held 24 v d ps) :
    ∃ l : List (BitVec 8), l.length = 32 ∧ v = .agg (l.map u8v).toArray := by
  unfold Value.okWide at hval
  rw [Tryd.underlying24] at hval
  obtain ⟨cs, rfl, _, _⟩ := hval
  obtain ⟨fuel, hf⟩ := h
  obtain ⟨xs, m, rfl, _, hlen, hxl, hel⟩ := DataW.trod_array Tryd.underlying24 hf
  have c1 : Tryd.prog.cellsOf 5 = 1 := by kernel_rfl
  have c32 : Tryd.prog.cellsOf 24 = 32 := by kernel_rfl
  have hs : cs.toList.length = 32 := by rw [c32] at hlen; simpa [Value.cells] using hlen
  refine ⟨cs.toList.map byteOf, by simpa using hs, ?_⟩
  have key : (cs.toList.map byteOf).map u8v = cs.toList := by
    apply List.ext_getElem?
    intro i
    rcases Nat.lt_or_ge i 32 with hi | hi
    · have hxi := hel i hi
      rw [c1, List.getElem?_eq_getElem (by omega)] at hxi
      obtain ⟨n, e1, _, e3⟩ := DataW.trod_int Tryd.underlying5 hxi
      have hd : (cs.toList.drop (i * 1)).take 1 = [cs.toList[i]] := by
        rw [Nat.mul_one, List.drop_eq_getElem_cons (by omega)]; rfl
      have e4 : cs.toList[i] = .int .u8 n := by
        have : ((Value.agg cs).cells.toList.drop (i * 1)).take 1 = (cs.toList.drop (i * 1)).take 1 := rfl
        rw [this, hd] at e1
        simpa using e1
      rw [List.getElem?_map, List.getElem?_map, List.getElem?_eq_getElem (by omega), e4]
      simp [u8v_byteOf n e3]
    · rw [List.getElem?_eq_none (by simp at hs ⊢; omega), List.getElem?_eq_none (by omega)]
  rw [key]
end Go.Proofs.YtgaphplndpdhaaaDoor
