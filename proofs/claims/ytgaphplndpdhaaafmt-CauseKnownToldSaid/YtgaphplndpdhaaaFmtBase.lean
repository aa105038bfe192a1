/- What the rows' condition on the two listed variables gives the walks; that the program's own start meets it. -/
import Derived.Test.YtgaphplndpdhaaaFmtRows
import Derived.ProofKit
import Derived.LaidMore
import Derived.LaidHandle
import Derived.OpenShut
import Derived.Stop.Joined
import Derived.Stop.LaidErr
import Derived.Deep.Strs
import Derived.Lib.Hide
import Derived.WalkKit
namespace Go.Proofs.YtgaphplndpdhaaaFmt
open Go.ChangeShapes Go.WideShapes Go.ChangeAt Go.RowKit
/-- The six stages, by their places. -/
def stg : Nat → ByteArray
  | 0 => ⟨#[108, 105, 110, 107]⟩
  | 1 => ⟨#[104, 101, 108, 108, 111]⟩
  | 2 => ⟨#[114, 101, 99, 111, 110]⟩
  | 3 => ⟨#[102, 101, 116, 99, 104]⟩
  | 4 => ⟨#[119, 114, 105, 116, 101]⟩
  | _ => ⟨#[99, 104, 101, 99, 107]⟩
def theErr : Value := .iface 62 (.agg #[.pointer (some ⟨5, 24, none⟩)])
/-- What lies in the two variables. -/
structure Laid (w : World) (a : Addr) (cap : Nat) : Prop where
  size : 1 < w.heap.size
  err : w.cell? ⟨1, 0, none⟩ = some theErr
  at0 : w.cell? ⟨0, 0, none⟩ = some (.slice (some a) 6 cap)
  low : a.block < w.heap.size
  row : ∀ j, j < 6 → w.cell? (a.add j) = some (.string (stg j))
theorem add_block (a : Addr) (n : Nat) : (a.add n).block = a.block := by unfold Addr.add; split <;> rfl
namespace Laid
variable {w w' : World} {a : Addr} {cap : Nat}
theorem keep (h : Laid w a cap) (hb : Below w.heap.size w w') : Laid w' a cap :=
  ⟨Nat.lt_of_lt_of_le h.size hb.size, (hb.cell (p := ⟨1, 0, none⟩) (by have := h.size; show 1 < _; omega)).trans h.err, (hb.cell (p := ⟨0, 0, none⟩) (by have := h.size; show 0 < _; omega)).trans h.at0,
    Nat.lt_of_lt_of_le h.low hb.size, fun j hj => (hb.cell (by rw [add_block]; exact h.low)).trans (h.row j hj)⟩
theorem keepB {b : Nat} (h : Laid w a cap) (hw : b = w.heap.size) (hb : Below b w w') : Laid w' a cap := by subst hw; exact h.keep hb
end Laid
theorem own : ownKnob Tryf.prog.godebug = none := by kernel_rfl
theorem gErr : Tryf.prog.globalNamed "errors.errorType" = some 1 := by kernel_rfl
theorem gStages : Tryf.prog.globalNamed "tallyman/cause.Stages" = some 0 := by kernel_rfl
theorem tStages : (Tryf.prog.globals[0]?).map (·.type) = some 40 := by kernel_rfl
theorem rt : (Tryf.prog.cutTypes.find? (·.1 == "internal/reflectlite.rtype")).map (·.2) = some 62 := by kernel_rfl
theorem typesSize : Tryf.prog.types.size = 136 := by kernel_rfl
theorem oneRow : ((List.range 136).filter fun t => Tryf.prog.rowNamed t [101, 114, 114, 111, 114]) = [24] := by kernel_rfl
def laidVars : List (String × DataW Unit) := [("math/bits.deBruijn32tab", Rows.laid_math_bits_deBruijn32tab), ("math/bits.deBruijn64tab", Rows.laid_math_bits_deBruijn64tab), ("internal/strconv.uint64pow10", Rows.laid_internal_strconv_uint64pow10), ("errors.errorType", Rows.laid_errors_errorType), ("tallyman/cause.Stages", Rows.laid_tallyman_cause_Stages)]
def laidRest : List (String × DataW Unit) := [("math/bits.deBruijn32tab", Rows.laid_math_bits_deBruijn32tab), ("math/bits.deBruijn64tab", Rows.laid_math_bits_deBruijn64tab), ("internal/strconv.uint64pow10", Rows.laid_internal_strconv_uint64pow10), ("tallyman/cause.Stages", Rows.laid_tallyman_cause_Stages)]
theorem laid_split {W : World} (h : laidMetH Tryf.prog laidVars W) : laidMet Tryf.prog laidRest W ∧ handlesMet Tryf.prog [("errors.errorType", Rows.laid_errors_errorType)] W := h
theorem handle_of {W : World} (h : handlesMet Tryf.prog [("errors.errorType", Rows.laid_errors_errorType)] W) : W.cell? ⟨1, 0, none⟩ = some theErr := by
  obtain ⟨name, u, ty, e1, e2, e3, e4, e5⟩ := h _ (List.mem_singleton.2 rfl)
  have en : name = [101, 114, 114, 111, 114] := (Option.some.inj e1).symm
  subst en
  obtain rfl := Option.some.inj (rt.symm.trans e2)
  have hm : ty ∈ (List.range 136).filter fun t => Tryf.prog.rowNamed t [101, 114, 114, 111, 114] := List.mem_filter.2 ⟨List.mem_range.2 (by rw [← typesSize]; exact e3), e4⟩
  rw [oneRow] at hm
  obtain rfl := List.mem_singleton.1 hm
  have hh : typeHandle Tryf.prog 24 = .pointer (some ⟨5, 24, none⟩) := by kernel_rfl
  rw [hh] at e5
  unfold theErr
  simpa using World.var?_cell gErr e5 0
theorem stages_of {W : World} (h : laidMet Tryf.prog [("tallyman/cause.Stages", Rows.laid_tallyman_cause_Stages)] W) :
    ∃ a cap, W.cell? ⟨0, 0, none⟩ = some (.slice (some a) 6 cap) ∧ ∀ j, j < 6 → W.cell? (a.add j) = some (.string (stg j)) := by
  obtain ⟨ps, ⟨g', t', cs, fuel, p, q, hg', ht', hvar, hd, _, _⟩, _⟩ := h
  obtain rfl := Option.some.inj (gStages.symm.trans hg')
  obtain rfl := Option.some.inj (tStages.symm.trans ht')
  obtain ⟨a, cap, hcs, _, hrow⟩ := open_row Tryf.underlying40 (by kernel_rfl) hd
  rw [Array.eq_one_of_toList hcs] at hvar
  refine ⟨a, cap, by simpa using World.var?_cell gStages hvar 0, fun j hj => ?_⟩
  have each : ∀ d, ([.lit (.string [108, 105, 110, 107]), .lit (.string [104, 101, 108, 108, 111]), .lit (.string [114, 101, 99, 111, 110]), .lit (.string [102, 101, 116, 99, 104]), .lit (.string [119, 114, 105, 116, 101]), .lit (.string [99, 104, 101, 99, 107])] : List (DataW Unit))[j]? = some d → ∃ s : ByteArray, W.cell? (a.add j) = some (.string s) ∧ d = .lit (.string s.data.toList) := fun d hd => by
    obtain ⟨v, n, q', hc, ht⟩ := hrow j d hd
    obtain ⟨s, h1, h2, _⟩ := DataW.trod_string Tryf.underlying9 ht
    simp only [Prod.mk.injEq] at h2
    obtain rfl := (List.cons.inj h1).1
    exact ⟨s, hc, h2.1⟩
  have fin : ∀ (s : ByteArray) (l : List UInt8), (.lit (.string l) : DataW Unit) = .lit (.string s.data.toList) → s = ⟨l.toArray⟩ := fun s l h => by
    injection h with h; injection h with h
    cases s; simp at h ⊢; rw [h]
  have : j = 0 ∨ j = 1 ∨ j = 2 ∨ j = 3 ∨ j = 4 ∨ j = 5 := by omega
  rcases this with rfl | rfl | rfl | rfl | rfl | rfl <;> (obtain ⟨s, hc, hs⟩ := each _ rfl; rw [hc, fin s _ hs]; rfl)
theorem cell_lt {W : World} {p : Addr} {v : Value} (h : W.cell? p = some v) : p.block < W.heap.size := by
  rcases Nat.lt_or_ge p.block W.heap.size with h' | h'
  · exact h'
  · unfold World.cell? at h
    rw [Array.getElem?_eq_none h'] at h
    cases h
theorem of_laid {W : World} (h : laidMetH Tryf.prog laidVars W) : ∃ a cap, Laid W a cap := by
  obtain ⟨h1, h2⟩ := laid_split h
  obtain ⟨a, cap, h0, hr⟩ := stages_of h1.tail.tail.tail
  refine ⟨a, cap, cell_lt (handle_of h2), handle_of h2, h0, ?_, hr⟩
  have := cell_lt (hr 0 (by omega))
  rwa [add_block] at this
/-- The door's own heap meets the condition: closed facts. -/
theorem door_met (os : Os) (args : Array Value) : laidMetH Tryf.prog laidVars ((World.doorLaid Tryf.prog 400 os).forCall (fun _ _ => 0) ⟨#[], args, []⟩).memory :=
  laidMetH_of_parts (laidMet_of_run' 8 (by kernel_rfl) (by kernel_rfl)) (by kernel_rfl)
end Go.Proofs.YtgaphplndpdhaaaFmt
