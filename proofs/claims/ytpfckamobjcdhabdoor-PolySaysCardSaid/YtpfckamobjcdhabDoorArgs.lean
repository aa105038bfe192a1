/- What the rows' condition on the table of rests gives the walks; that the program's own start meets it; a slice of bytes that came in. -/
import Derived.Test.YtpfckamobjcdhabDoorRows
import Derived.Test.YtpfckamobjcdhabDoorSeal
import Derived.Lib.LaidTab
import Derived.ProofKit
import Derived.LaidMore
import Derived.OpenShut
import Derived.Stop.Joined
import Derived.Stop.LaidErr
import Derived.Below
namespace Go.Proofs.YtpfckamobjcdhabDoor
open Go.ChangeShapes Go.WideShapes Go.ChangeAt Go.RowKit
theorem own : ownKnob Tryd.prog.godebug = none := by kernel_rfl
theorem laidOut : laidOutB Tryd.prog = true := by kernel_rfl
theorem gRests : Tryd.prog.globalNamed "tallyman/poly.rests" = some 2 := by kernel_rfl
theorem tRests : (Tryd.prog.globals[2]?).map (·.type) = some 80 := by kernel_rfl
def laidVars : List (String × DataW Unit) := [("tallyman/poly.rests", Rows.laid_tallyman_poly_rests)]
def restInts : List Int := restRow.map N
theorem laidVars_eq : laidVars = [("tallyman/poly.rests", Lib.tabData .u32 restInts)] := by kernel_rfl
theorem cell_lt {w : World} {a : Addr} {v : Value} (h : w.cell? a = some v) : a.block < w.heap.size := by
  rcases Nat.lt_or_ge a.block w.heap.size with hl | hl
  · exact hl
  · unfold World.cell? at h
    rw [Array.getElem?_eq_none hl] at h
    cases h
set_option maxRecDepth 100000 in
theorem of_laid {W : World} (h : laidMetH Tryd.prog laidVars W) : Rests W := by
  rw [MakeChecks.laidMetH_plain _ _ _ (by kernel_rfl), laidVars_eq] at h
  have h1 := Lib.tabIs_of_head gRests tRests Tryd.underlying80 Tryd.underlying41 (by kernel_rfl) (by kernel_rfl) h
  refine ⟨cell_lt (h1.cell gRests 0 (by decide)), fun i hi => ?_⟩
  have hl : restRow.length = 16 := rfl
  have := h1.cell gRests i (by simpa [restInts, hl] using hi)
  rw [this]
  simp [restInts, List.getD_eq_getElem?_getD, List.getElem?_map, List.getElem?_eq_getElem (show i < restRow.length by rw [hl]; exact hi)]
/-- The door's own heap meets the condition: closed facts. -/
theorem door_met (os : Os) (args : Array Value) : laidMetH Tryd.prog laidVars ((World.doorLaid Tryd.prog 400 os).forCall (fun _ _ => 0) ⟨#[], args, []⟩).memory :=
  laidMetH_of_parts3 (fuel := 8) (laidMet_of_run' 8 (by kernel_rfl) (by kernel_rfl)) (by kernel_rfl) (by kernel_rfl)
def byteOf : Value → BitVec 8
  | .int _ n => BitVec.ofInt 8 n
  | _ => 0
theorem u8v_byteOf (n : Int) (h : (Lit.int .u8 n).wf = true) : u8v (byteOf (.int .u8 n)) = .int .u8 n := by
  have hb : 0 ≤ n ∧ n ≤ 255 := bounds_u8 h
  obtain ⟨m, rfl⟩ := Int.eq_ofNat_of_zero_le hb.1
  show Value.int .u8 (B (BitVec.ofInt 8 (m : Int))) = _
  rw [BitVec.ofInt_natCast, ← B_ofNat m (by omega)]
set_option maxRecDepth 100000 in
theorem open_bytes {H : Type} {enc : TypeId × Value → H} {w : World} {base b0 : Nat} {held : Bool} {r : Reach} {v : Value} {d : DataW H} {ps : List MemPlace}
    (hval : Value.okWide Tryd.prog w r b0 43 v) (h : DataW.Trod enc Tryd.prog w base (fun _ => true) held 43 v d ps) :
    ∃ (b : List (BitVec 8)) (q : Option Addr) (c : Nat), v = .slice q b.length c ∧ b.length ≤ c ∧ (q = none → c = 0) ∧ b.length ≤ maxLen ∧ Sees w w.heap.size q (b.map u8v) := by
  obtain ⟨a0, len0, cap0, rfl⟩ := okWide_slice Tryd.underlying43 hval
  obtain ⟨fuel, hf⟩ := h
  rcases open_ints Tryd.underlying43 Tryd.underlying5 (by kernel_rfl) hf with ⟨hcs, _⟩ | ⟨x, l, c, zs, hcs, _, hl, hm, hz, _, hcell, hwz⟩
  · simp [Value.cells] at hcs
    obtain ⟨rfl, rfl, rfl⟩ := hcs
    exact ⟨[], none, 0, rfl, Nat.le_refl _, fun _ => rfl, by simp, Sees.nil _ _ _⟩
  · simp [Value.cells] at hcs
    obtain ⟨rfl, rfl, rfl⟩ := hcs
    have hz' : zs.length = cap0 := by simpa using hz
    refine ⟨(zs.take len0).map fun n => byteOf (.int .u8 n), some x, cap0, by simp; omega, by simp; omega, fun h => (by cases h), by simp; omega, fun h0 => ?_⟩
    have hp : 0 < zs.length := by simp at h0; omega
    refine ⟨x, rfl, by have := cell_lt (hcell 0 hp); rwa [add_block] at this, fun j u hu => ?_⟩
    have hj : j < len0 := by have := (List.getElem?_eq_some_iff.1 hu).1; simp at this; omega
    rw [hcell j (by omega), ← hu, List.getElem?_map, List.getElem?_map, List.getElem?_take, if_pos hj, List.getElem?_eq_getElem (show j < zs.length by omega)]
    simp [List.getD_eq_getElem?_getD, List.getElem?_eq_getElem (show j < zs.length by omega), u8v_byteOf _ (hwz _ (List.getElem_mem _))]
end Go.Proofs.YtpfckamobjcdhabDoor
