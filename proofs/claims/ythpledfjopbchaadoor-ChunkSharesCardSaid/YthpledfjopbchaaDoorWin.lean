/- Contracts: roll.New, Len, Sum, Reset: a window in memory. No condition. -/
import Derived.Test.YthpledfjopbchaaDoorOfr
import Derived.StillTailTactics
import Derived.Deep.DeepCutAuto
import Derived.Laws.Rows
import Derived.Laws.Tables
namespace Go.Proofs.YthpledfjopbchaaDoor
open Go.RowKit
/-- But for block g the world is as it was. -/
structure Only (g : Nat) (w w' : World) : Prop where
  os : w'.os = w.os
  tape : w'.tape = w.tape
  output : w'.output = w.output
  size : w'.heap.size = w.heap.size
  block : ∀ k, k ≠ g → w'.heap[k]? = w.heap[k]?
namespace Only
variable {g : Nat} {a b c : World}
theorem refl (g : Nat) (w : World) : Only g w w := ⟨rfl, rfl, rfl, rfl, fun _ _ => rfl⟩
theorem trans (h : Only g a b) (k : Only g b c) : Only g a c := ⟨k.os.trans h.os, k.tape.trans h.tape, k.output.trans h.output, k.size.trans h.size, fun i hi => (k.block i hi).trans (h.block i hi)⟩
theorem drew (h : Only g a b) : Only g a b.drew := ⟨h.os, h.tape, h.output, h.size, h.block⟩
theorem drewN (h : Only g a b) (n : Nat) : Only g a (b.drewN n) := ⟨h.os, h.tape, h.output, h.size, h.block⟩
theorem setCell (h : Only g a b) (i : Nat) (u : Value) : Only g a (b.setCell ⟨g, i, none⟩ u) :=
  h.trans ⟨rfl, rfl, rfl, by simp [World.setCell], fun k hk => Below.heap_setCell _ _ _ _ hk⟩
theorem setRow (h : Only g a b) (cs : Array Value) : Only g a (b.setRow g cs) := h.trans ⟨rfl, rfl, rfl, by rw [size_setRow], fun k hk => setRow_other b g k cs hk⟩
theorem below (h : Only g a b) : Below g a b := ⟨h.os, h.tape, h.output, Nat.le_of_eq h.size.symm, fun k hk => h.block k (by omega)⟩
theorem has (h : Only g a b) {k : Nat} {t : TypeId} {l : List Value} (hk : k ≠ g) (hh : Has a k t l) : Has b k t l := (h.block k hk).trans hh
end Only
/-- A window's cells. -/
def roll5 (P : List Value) (a b c d e : Value) : List Value := P ++ [a, b, c, d, e]
section
variable (P : List Value) (a b c d e v : Value) (h : P.length = 64)
include h
theorem roll5_64 : (roll5 P a b c d e)[64]? = some a := by unfold roll5; rw [List.getElem?_append_right (by omega), h]; rfl
theorem roll5_65 : (roll5 P a b c d e)[65]? = some b := by unfold roll5; rw [List.getElem?_append_right (by omega), h]; rfl
theorem roll5_66 : (roll5 P a b c d e)[66]? = some c := by unfold roll5; rw [List.getElem?_append_right (by omega), h]; rfl
theorem roll5_67 : (roll5 P a b c d e)[67]? = some d := by unfold roll5; rw [List.getElem?_append_right (by omega), h]; rfl
theorem roll5_68 : (roll5 P a b c d e)[68]? = some e := by unfold roll5; rw [List.getElem?_append_right (by omega), h]; rfl
theorem roll5_at (i : Nat) (hi : i < 64) : (roll5 P a b c d e)[i]? = P[i]? := by unfold roll5; rw [List.getElem?_append_left (by omega)]
theorem roll5_put65 : (roll5 P a b c d e).set 65 v = roll5 P a v c d e := by unfold roll5; rw [List.set_append_right _ _ (by omega), h]; rfl
theorem roll5_put66 : (roll5 P a b c d e).set 66 v = roll5 P a b v d e := by unfold roll5; rw [List.set_append_right _ _ (by omega), h]; rfl
theorem roll5_put68 : (roll5 P a b c d e).set 68 v = roll5 P a b c d v := by unfold roll5; rw [List.set_append_right _ _ (by omega), h]; rfl
theorem roll5_put (i : Nat) (hi : i < 64) : (roll5 P a b c d e).set i v = roll5 (P.set i v) a b c d e := by unfold roll5; rw [List.set_append_left _ _ (by omega)]
end
/-- The last n of what was let in. -/
def lastN (n : Nat) (H : List (BitVec 8)) : List (BitVec 8) := H.drop (H.length - n)
/-- The ring holds them. -/
def Rg (R : List (BitVec 8)) (n : Nat) (H : List (BitVec 8)) : Prop := R.length = 64 ∧ ∀ i, H.length - n ≤ i → i < H.length → R[i % n]? = H[i]?
def winL (R : List (BitVec 8)) (n : Nat) (H : List (BitVec 8)) : List Value :=
  roll5 (R.map u8v) (.int .i64 (n : Int)) (.int .i64 ((min H.length n : Nat) : Int)) (.int .i64 ((H.length % n : Nat) : Int)) (.int .u64 ((pw (n - 1) : Nat) : Int)) (.int .u64 ((rsum (lastN n H) : Nat) : Int))
/-- Block g is a window of n bytes that H was let into. -/
def WinAt (w : World) (g n : Nat) (H : List (BitVec 8)) : Prop := ∃ R, Rg R n H ∧ Has w g 126 (winL R n H)
theorem WinAt.lt {w : World} {g n : Nat} {H : List (BitVec 8)} (h : WinAt w g n H) : g < w.heap.size := by obtain ⟨R, _, h⟩ := h; exact h.lt
theorem WinAt.drew {w : World} {g n : Nat} {H : List (BitVec 8)} (h : WinAt w g n H) : WinAt w.drew g n H := by obtain ⟨R, hR, h⟩ := h; exact ⟨R, hR, h.drew⟩
theorem WinAt.keep {w w' : World} {g n b : Nat} {H : List (BitVec 8)} (h : WinAt w g n H) (hb : Below b w w') (hg : g < b) : WinAt w' g n H := by obtain ⟨R, hR, h⟩ := h; exact ⟨R, hR, h.keep hb hg⟩
theorem WinAt.only {w w' : World} {g k n : Nat} {H : List (BitVec 8)} (h : WinAt w g n H) (hb : Only k w w') (hg : g ≠ k) : WinAt w' g n H := by obtain ⟨R, hR, h⟩ := h; exact ⟨R, hR, hb.has hg h⟩
theorem rg_nil (n : Nat) : Rg (List.replicate 64 0#8) n [] := ⟨by simp, fun i _ h => by simp at h⟩
def zeroL (m f : Int) : List Value := roll5 ((List.replicate 64 0#8).map u8v) (.int .i64 m) (.int .i64 0) (.int .i64 0) (.int .u64 f) (.int .u64 0)
theorem zeroL_win (n : Nat) : zeroL (n : Int) ((pw (n - 1) : Nat) : Int) = winL (List.replicate 64 0#8) n [] := by unfold winL; simp [zeroL, lastN, rsum_nil]
set_option maxRecDepth 100000 in
theorem roll_built (m f : Int) : Tryd.prog.built 126 [(1, .int .i64 m), (4, .int .u64 f)] = some (zeroL m f).toArray := by kernel_rfl
theorem wpList_builtW {P : Program} {ops : Array Oper} {Q : Exit → Act → World → Prop} {rest : List Oper} {o : Oper} {a : Act} {w : World} (hgd : o.guard = none) (t : TypeId) (parts : Array (Nat × Operand)) (ho : o.op = .build t parts) (cs : Array Value)
    (hf : P.built t (parts.map fun (i, x) => (i, a.eval x)).toList = some cs) (h : wpList P ops Q rest (a.put o.dst (.agg cs)) w) : wpList P ops Q (o :: rest) a w := by
  refine wpList_step (fun K hK => ?_)
  rw [if_pos (by simp [Region.wanted, hgd])]
  refine wp_build t parts ho (by rw [hf]; rfl) ?_
  rw [hf]
  exact hK _ _ h
set_option maxHeartbeats 1000000 in
set_option maxRecDepth 100000 in
theorem new_any (n : Int) (w : World) :
    Calls Tryd.prog 59 #[.int .i64 n] w fun e w' => e = .returned (.pointer (some ⟨w.heap.size, 0, none⟩)) ∧ WinAt w' w.heap.size (hw n) [] ∧ Below w.heap.size w w' ∧ w'.heap.size = w.heap.size + 1 := by
  obtain ⟨b1, b2⟩ := hw_bd n
  have H1 := Lib.hid (fun w1 => held_any n w1)
  generalize hw n = m at *
  have H2 := Lib.hid (fun w1 => power_any (m - 1) (by omega) w1)
  have k1 : IntKind.i64.wrap ((m : Int) - 1) = ((m - 1 : Nat) : Int) := by rw [IntWalk.i64_in _ (by omega)]; omega
  have HB := Lib.hid (roll_built (m : Int) ((pw (m - 1) : Nat) : Int))
  have HZ := Lib.hid (zeroL_win m)
  generalize pw (m - 1) = f at *
  generalize m - 1 = m1 at *
  clear b1 b2
  go_enter Tryd.func59, Tryd.ntmps59
  go_wp2_with (first | ((with_reducible refine (H1.out _).mono ?_); rintro e w1 ⟨rfl, rfl⟩) | ((with_reducible refine (H2.out _).mono ?_); rintro e w1 ⟨rfl, rfl⟩) | (refine wpList_builtW rfl 126 _ rfl (zeroL (m : Int) (f : Int)).toArray (by kernel_rfl) ?_))
  go_ret
  rw [HZ.out]
  exact ⟨rfl, ⟨_, rg_nil m, Has.made' _ _ _ _ rfl⟩, (Below.refl _ _).alloc (Nat.le_refl _) _, by simp⟩
theorem u8v_len (R : List (BitVec 8)) (h : R.length = 64) : (R.map u8v).length = 64 := by rw [List.length_map, h]
theorem wpStill_valW {P : Program} {ops : Array Oper} {w : World} {Q : Act → Prop} {o : Oper} {rest : List Oper} {a : Act} {v : Value} (hw : Region.wanted o (yielded ops a.tmps) = true) (hy : (execOp a.eval o).run P w = .ok (.value v) w)
    (h : wpStill P ops w Q rest (a.put o.dst v)) : wpStill P ops w Q (o :: rest) a := by
  show if _ then _ else _
  rw [if_pos hw]
  unfold Oper.still
  rw [hy, Oper.stillUpon_value]
  exact h
theorem build_at {P : Program} {o : Oper} {ev : Operand → Value} (t : TypeId) (parts : Array (Nat × Operand)) (ho : o.op = .build t parts) (cs : Array Value) (w : World)
    (hf : P.built t (parts.map fun (i, x) => (i, ev x)).toList = some cs) : (execOp ev o).run P w = .ok (.value (.agg cs)) w := by
  unfold execOp
  simp only [ho, Sem.run_bind, run_build w t _ cs hf, Result.andThen_ok]
  rfl
theorem zeroL_one (m f : Int) : (zeroL m f).toArray.all (·.oneCell') = true :=
  Array.all_eq_true_iff_forall_mem.2 (fun v hv => by
    have : v ∈ zeroL m f := by simpa using hv
    unfold zeroL roll5 at this
    rcases List.mem_append.1 this with h | h
    · obtain ⟨x, _, rfl⟩ := List.mem_map.1 h; rfl
    · simp at h; rcases h with rfl | rfl | rfl | rfl <;> rfl)
theorem zeroL_len (m f : Int) : (zeroL m f).length = 69 := by simp [zeroL, roll5]
theorem winL_len (R : List (BitVec 8)) (n : Nat) (H : List (BitVec 8)) (h : R.length = 64) : (winL R n H).length = 69 := by simp [winL, roll5, h]
set_option maxHeartbeats 1000000 in
set_option maxRecDepth 100000 in
theorem reset_any (w : World) (g n : Nat) (H : List (BitVec 8)) (h : WinAt w g n H) :
    Calls Tryd.prog 78 #[.pointer (some ⟨g, 0, none⟩)] w fun e w' => e = .returned (.tuple #[]) ∧ WinAt w' g n [] ∧ Only g w w' := by
  obtain ⟨R, hR, h⟩ := h
  have c64 := h.cellv (roll5_64 _ _ _ _ _ _ (u8v_len R hR.1))
  have c67 := h.cellv (roll5_67 _ _ _ _ _ _ (u8v_len R hR.1))
  have HH := Lib.hid h
  have HZ := Lib.hid (zeroL_win n)
  have HO := Lib.hid (zeroL_one (n : Int) ((pw (n - 1) : Nat) : Int))
  have HL := Lib.hid (zeroL_len (n : Int) ((pw (n - 1) : Nat) : Int))
  have HWL := Lib.hid (winL_len R n H hR.1)
  clear h hR
  generalize pw (n - 1) = f at *
  go_enter Tryd.func78, Tryd.ntmps78
  go_still_tail 11, (by kernel_rfl)
  have hzc : ((Tryd.zeroCells126.setIfInBounds 64 (Value.int IntKind.i64 (n : Int))).setIfInBounds 67 (Value.int IntKind.u64 (f : Int))) = (zeroL (n : Int) (f : Int)).toArray := by kernel_rfl
  rw [hzc]
  change wpList _ _ _ _ _ w.drew
  refine wpList_store_row rfl 126 _ _ rfl g (zeroL (n : Int) (f : Int)).toArray rfl rfl 126 _ HH.out.drew (by rw [List.size_toArray, HL.out]; kernel_rfl) (by rw [List.size_toArray, List.size_toArray, HL.out, HWL.out]) HO.out ?_
  go_wp2_with fail
  go_end0
  rw [HZ.out]
  exact ⟨rfl, ⟨_, rg_nil n, HH.out.drew.rowl _⟩, ((Only.refl g w).drew).setRow _⟩
end Go.Proofs.YthpledfjopbchaaDoor
