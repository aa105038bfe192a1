/- Plain laws of cells: what is laid on and taken off again, in whatever order. No condition. -/
import Derived.Test.YtihkbblapfjobaaDoorPr
namespace Go.Proofs.YtihkbblapfjobaaDoor
open Go.RowKit
theorem as_any {P : Program} {g : FuncId} {us : Array Value} {w : World} {u u' : Value} (h : Calls P g us w fun e w' => (∃ v, e = .returned v ∧ v = u) ∧ Below w.heap.size w w') (e : u = u') : Calls P g us w fun e w' => (∃ v, e = .returned v ∧ v = u') ∧ Below w.heap.size w w' := e ▸ h
theorem at8_xor (x y : Su) (k : Nat) (h : k < 32) : (xorS x y).1[k]'(by rw [(xorS x y).2]; exact h) = x.1[k]'(by rw [x.2]; exact h) ^^^ y.1[k]'(by rw [y.2]; exact h) := by
  simp [xorS, xorL]
theorem su_ext {x y : Su} (h : ∀ k (hk : k < 32), x.1[k]'(by rw [x.2]; exact hk) = y.1[k]'(by rw [y.2]; exact hk)) : x = y := Subtype.ext (List.ext_getElem (x.2.trans y.2.symm) fun k h1 _ => h k (by rw [x.2] at h1; exact h1))
theorem xorS_comm (x y : Su) : xorS x y = xorS y x := su_ext fun k hk => by rw [at8_xor _ _ _ hk, at8_xor _ _ _ hk, BitVec.xor_comm]
theorem xorS_assoc (x y z : Su) : xorS (xorS x y) z = xorS x (xorS y z) := su_ext fun k hk => by rw [at8_xor _ _ _ hk, at8_xor _ _ _ hk, at8_xor _ _ _ hk, at8_xor _ _ _ hk, BitVec.xor_assoc]
theorem zS_at (k : Nat) (h : k < 32) : zS.1[k]'(by rw [zS.2]; exact h) = 0 := (List.getElem_of_eq (show zS.1 = List.replicate 32 (0 : BitVec 8) from rfl) _).trans (List.getElem_replicate _)
theorem xorS_self (x : Su) : xorS x x = zS := su_ext fun k hk => by rw [at8_xor _ _ _ hk, zS_at _ hk]; exact BitVec.xor_self
theorem xorS_zero (x : Su) : xorS x zS = x := su_ext fun k hk => by rw [at8_xor _ _ _ hk, zS_at _ hk]; simp
theorem zero_xorS (x : Su) : xorS zS x = x := by rw [xorS_comm, xorS_zero]
theorem xorS_back (x y : Su) : xorS (xorS x y) y = x := by rw [xorS_assoc, xorS_self, xorS_zero]
theorem xorS_right (x y z : Su) : xorS (xorS x y) z = xorS (xorS x z) y := by rw [xorS_assoc, xorS_comm y z, ← xorS_assoc]
theorem wrap_add (a b : Int) : IntKind.i64.wrap (IntKind.i64.wrap a + b) = IntKind.i64.wrap (a + b) := by simp only [IntKind.wrap_i64]; omega
theorem wrap_sub (a b : Int) : IntKind.i64.wrap (a + IntKind.i64.wrap (0 - b)) = IntKind.i64.wrap (a - b) := by simp only [IntKind.wrap_i64]; omega
theorem wrap_wrap (a : Int) : IntKind.i64.wrap (IntKind.i64.wrap a) = IntKind.i64.wrap a := by simp only [IntKind.wrap_i64]; omega
theorem wrap_in {a : Int} (h : -9223372036854775808 ≤ a ∧ a < 9223372036854775808) : IntKind.i64.wrap a = a := by rw [IntKind.wrap_i64]; omega
/-- What is laid on in whatever order. -/
theorem withC_right (c : Ce) (m n : Int) (k l d e : Su) : withC (withC c m k d) n l e = withC (withC c n l e) m k d := by
  unfold withC
  simp only [wrap_add, Prod.mk.injEq]
  refine ⟨by congr 1; omega, xorS_right _ _ _, xorS_right _ _ _⟩
theorem putC_right (c : Ce) (x y : Su) : putC (putC c x) y = putC (putC c y) x := withC_right _ _ _ _ _ _ _
theorem takeC_right (c : Ce) (x y : Su) : takeC (takeC c x) y = takeC (takeC c y) x := withC_right _ _ _ _ _ _ _
theorem put_take (c : Ce) (x y : Su) : takeC (putC c x) y = putC (takeC c y) x := withC_right _ _ _ _ _ _ _
/-- A count as a number of sixty-four bits has it. -/
def okC (c : Ce) : Prop := IntKind.i64.wrap c.1 = c.1
theorem okC_with (c : Ce) (n : Int) (k d : Su) : okC (withC c n k d) := wrap_wrap _
theorem okC_zero : okC zC := by unfold okC zC; decide
theorem take_put {c : Ce} (h : okC c) (x : Su) : takeC (putC c x) x = c := by
  unfold takeC putC withC
  simp only [wrap_add, xorS_back]
  unfold okC at h
  rw [show c.1 + 1 + -1 = c.1 by omega, h]
theorem put_take' {c : Ce} (h : okC c) (x : Su) : putC (takeC c x) x = c := by rw [← put_take, take_put h]
theorem putC_zero (x : Su) : putC zC x = (1, x, chkS x) := by
  unfold putC withC zC
  simp only [zero_xorS]
  rfl
theorem takeC_zero (x : Su) : takeC zC x = (-1, x, chkS x) := by
  unfold takeC withC zC
  simp only [zero_xorS]
  rfl
theorem pure_put (x : Su) : pureV (putC zC x) = .tuple #[.agg (encU x).toArray, .bool true, .bool true] := by
  rw [putC_zero, pureV_on (by simp [isPure])]
  rfl
theorem pure_take (x : Su) : pureV (takeC zC x) = .tuple #[.agg (encU x).toArray, .bool false, .bool true] := by
  rw [takeC_zero, pureV_on (by simp [isPure])]
  rfl
theorem putC_ne (x : Su) : decide (putC zC x = zC) = false := by
  rw [putC_zero]; simp [zC]
theorem minusC_self {a : Ce} : minusC a a = zC := by
  unfold minusC withC zC
  simp only [wrap_sub, xorS_self]
  rw [show a.1 - a.1 = 0 by omega]; rfl
theorem minusC_zero {a : Ce} (h : okC a) : minusC a zC = a := by
  unfold minusC withC
  simp only [wrap_sub]
  unfold okC at h
  rw [show zC.1 = 0 from rfl, show zC.2.1 = zS from rfl, show zC.2.2 = zS from rfl, xorS_zero, xorS_zero, show a.1 - 0 = a.1 by omega, h]
def tX : List (BitVec 8) := [120#8]
def tY : List (BitVec 8) := [121#8]
end Go.Proofs.YtihkbblapfjobaaDoor
