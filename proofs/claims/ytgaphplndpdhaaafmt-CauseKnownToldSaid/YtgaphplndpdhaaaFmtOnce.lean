/- Contract: cause.Once at a chain of two. Conditions: the two variables as laid; the blocks known whole. -/
import Derived.Test.YtgaphplndpdhaaaFmtCauses
import Derived.WideMake
namespace Go.Proofs.YtgaphplndpdhaaaFmt
open Go.RowKit
theorem find_one (s t : ByteArray) (v : Value) (n : Nat) : Instr.findNow .string (.string s) [{ key := .string t, val := v, born := n }] 0 = some (if s == t then some (0, v) else none) := by
  simp only [Instr.findNow, Instr.sameNow]
  cases s == t <;> rfl
theorem lookup_empty (r clock : Nat) (s : ByteArray) (w : World) (hb : w.heap[r]? = some (.map #[] clock)) :
    (Instr.lookup 49 (.map (some r)) (.string s) true).run Tryf.prog w = .ok (.tuple #[.agg #[], .bool false]) w := by
  have hf : Instr.findNow .string (.string s) ([] : List MapEntry) 0 = some none := rfl
  have hc : ∀ e, (Instr.checkKey e 10000 9 (.string s)).run Tryf.prog w = .ok () w := fun e => MapKept.run_checkKey (k := .string s) Tryf.underlying9 (by simp [MapKept.IsKey]) e 9999
  have hz : (zeroValue 50).run Tryf.prog w = .ok (.agg #[]) w := by kernel_rfl
  simp [Instr.lookup, run_underlying Tryf.underlying49, MapKept.run_getObj_map hb, hc, MapKept.run_findKey Tryf.underlying9 hf, Result.andThen, hz]
theorem lookup_one (r clock n : Nat) (s t : ByteArray) (b : Bool) (w : World) (hb : w.heap[r]? = some (.map #[{ key := .string t, val := .agg #[], born := n }] clock)) (h : (s == t) = b) :
    (Instr.lookup 49 (.map (some r)) (.string s) true).run Tryf.prog w = .ok (.tuple #[.agg #[], .bool b]) w := by
  have hf := find_one s t (.agg #[]) n
  have hc : ∀ e, (Instr.checkKey e 10000 9 (.string s)).run Tryf.prog w = .ok () w := fun e => MapKept.run_checkKey (k := .string s) Tryf.underlying9 (by simp [MapKept.IsKey]) e 9999
  have hz : (zeroValue 50).run Tryf.prog w = .ok (.agg #[]) w := by kernel_rfl
  rw [h] at hf
  cases b with
  | true => simp [Instr.lookup, run_underlying Tryf.underlying49, MapKept.run_getObj_map hb, hc, MapKept.run_findKey Tryf.underlying9 hf, Result.andThen]
  | false => simp [Instr.lookup, run_underlying Tryf.underlying49, MapKept.run_getObj_map hb, hc, MapKept.run_findKey Tryf.underlying9 hf, Result.andThen, hz]
def putMap (w : World) (r : Nat) (es : Array MapEntry) (clock : Nat) : World := { w with heap := w.heap.setIfInBounds r (.map es clock) }
theorem update_empty (r clock : Nat) (s : ByteArray) (val : Value) (w : World) (hb : w.heap[r]? = some (.map #[] clock)) :
    (Instr.mapUpdate 49 (.map (some r)) (.string s) val).run Tryf.prog w = .ok () (putMap w r #[{ key := .string s, val := val, born := clock }] (clock + 1)) :=
  run_mapUpdate_first w _ _ _ r clock s val Tryf.underlying49 Tryf.underlying9 hb
theorem update_one (r clock n : Nat) (s t : ByteArray) (v val : Value) (w : World) (hb : w.heap[r]? = some (.map #[{ key := .string t, val := v, born := n }] clock)) (h : (s == t) = false) :
    (Instr.mapUpdate 49 (.map (some r)) (.string s) val).run Tryf.prog w = .ok () (putMap w r #[{ key := .string t, val := v, born := n }, { key := .string s, val := val, born := clock }] (clock + 1)) := by
  have hf := find_one s t v n
  rw [h] at hf
  have hc : (Instr.checkKey false 10000 9 (.string s)).run Tryf.prog w = .ok () w := MapKept.run_checkKey (k := .string s) Tryf.underlying9 (by simp [MapKept.IsKey]) false 9999
  simp [Instr.mapUpdate, run_underlying Tryf.underlying49, MapKept.run_getObj_map hb, hc, MapKept.run_findKey Tryf.underlying9 hf, MapKept.run_setObj_map _ hb, Result.andThen, putMap]
theorem putMap_at {w : World} {r : Nat} {o : Obj} (hb : w.heap[r]? = some o) (es : Array MapEntry) (clock : Nat) : (putMap w r es clock).heap[r]? = some (.map es clock) := (MapKept.heap_set hb).1
theorem below_putMap {b : Nat} {a w : World} (h : Below b a w) {r : Nat} (hr : b ≤ r) (es : Array MapEntry) (clock : Nat) : Below b a (putMap w r es clock) :=
  ⟨h.os, h.tape, h.output, by show _ ≤ (w.heap.setIfInBounds r _).size; rw [Array.size_setIfInBounds]; exact h.size, fun k hk => by
    show (w.heap.setIfInBounds r _)[k]? = _
    rw [Array.getElem?_setIfInBounds_ne (by omega)]; exact h.block k hk⟩
theorem heap_alloc {w : World} {r : Nat} {o : Obj} (h : w.heap[r]? = some o) (o' : Obj) : (w.alloc o').heap[r]? = some o := (Below.heap_alloc w o' r (Array.getElem?_eq_some_iff.1 h).1).trans h
set_option maxRecDepth 100000 in
set_option maxHeartbeats 4000000 in
theorem once_2 (f g : Nat) (t s : ByteArray) (m n c : Int) (b : Bool) (w : World) (hs : 1 < w.heap.size) (hg : w.cell? ⟨1, 0, none⟩ = some theErr)
    (hF : IsC w f t m (ofC g)) (hC : IsC w g s n (.iface 26 (.int .i64 c))) (hb : (s == t) = b) :
    Calls Tryf.prog 10 #[ofC f] w fun e w' => e = .returned (.bool (!b)) ∧ Below w.heap.size w w' := by
  have hK := Lib.hid (causes_2 f g t s m n c (w.alloc (.map #[] 0)) (by simp; omega) (by rw [World.cell?_alloc_lt _ _ ⟨1, 0, none⟩ hs]; exact hg) (Has.alloc hF _) (Has.alloc hC _))
  have HF := Lib.hid hF
  have HC := Lib.hid hC
  have HB0 := Lib.hid hb
  have hm0 : (w.alloc (.map #[] 0)).heap[w.heap.size]? = some (.map #[] 0) := heap_alloc_new w _
  have HM0 := Lib.hid hm0
  have b0 : Below w.heap.size w (w.alloc (.map #[] 0)) := (Below.refl _ _).alloc (Nat.le_refl _) _
  have B0 := Lib.hid b0
  have mm := run_makeMap_plain (P := Tryf.prog) w 49
  clear hF hC hg hs hb hm0 b0
  unfold ofC at *
  go_enter Tryf.func10, Tryf.ntmps10
  go_wp2_with (go_at_call 17; refine hK.out.mono ?_; rintro e w1 ⟨v, rfl, R0⟩; obtain ⟨gg, cap, rfl, hcell⟩ := R0.first (by simp); have c0 := hcell 0 _ rfl; have c1 := hcell 1 _ rfl; have hB := R0.2.1; clear hcell R0)
  have c0 : w1.cell? ⟨gg, 0, none⟩ = some (.pointer (some ⟨f, 0, none⟩)) := c0
  have c1 : w1.cell? ⟨gg, 1, none⟩ = some (.pointer (some ⟨g, 0, none⟩)) := c1
  have HC1 := Lib.hid c1
  have hm1 : w1.heap[w.heap.size]? = some (.map #[] 0) := (hB.block _ (by simp)).trans HM0.out
  have B1 := Lib.hid (B0.out.trans (hB.mono B0.out.size))
  have F1 := Lib.hid (Has.keep HF.out B1.out (Has.lt HF.out))
  have C1 := Lib.hid (Has.keep HC.out B1.out (Has.lt HC.out))
  have f1 := F1.out.cellv (i := 0) (v := .string t) rfl
  have l1 := lookup_empty w.heap.size 0 t w1 hm1
  have hm1' := heap_alloc hm1 (.cells #[] 50)
  have u1 := update_empty w.heap.size 0 t (.agg #[]) _ hm1'
  have HM1 := Lib.hid hm1'
  have f1b := (Has.alloc F1.out (.cells #[] 50)).cellv (i := 0) (v := .string t) rfl
  have hgg : gg ≠ w.heap.size := by
    intro h
    have hx := HC1.out
    unfold World.cell? at hx
    rw [h] at hx
    simp [hm1] at hx
  have HGG := Lib.hid hgg
  clear hB c1 hm1 hm1' hgg
  refine wp_loop_rounds 3 ?_
  rw [rounds_succ]
  go_wp2_with fail
  generalize hw2 : putMap _ _ _ _ = w2
  have hm2 : w2.heap[w.heap.size]? = some (.map #[{ key := .string t, val := .agg #[], born := 0 }] (0 + 1)) := by rw [← hw2]; exact putMap_at HM1.out _ _
  have b2 : Below w.heap.size w w2 := by rw [← hw2]; exact below_putMap (B1.out.alloc B1.out.size _) (Nat.le_refl _) _ _
  have k2 : ∀ p : Addr, p.block ≠ w.heap.size → p.block < w1.heap.size → w2.cell? p = w1.cell? p := fun p h1 h2 => by
    rw [← hw2, ← World.cell?_alloc_lt w1 (.cells #[] 50) p h2]
    unfold World.cell? putMap
    simp only [Array.getElem?_setIfInBounds_ne (Ne.symm h1)]
  have c2 : w2.cell? ⟨gg, 1, none⟩ = some (.pointer (some ⟨g, 0, none⟩)) := (k2 ⟨gg, 1, none⟩ HGG.out (cell_lt HC1.out)).trans HC1.out
  have C2 := Lib.hid (Has.keep HC.out b2 (Has.lt HC.out))
  have f2 := C2.out.cellv (i := 0) (v := .string s) rfl
  have l2 := lookup_one w.heap.size (0 + 1) 0 s t b w2 hm2 HB0.out
  have f2b := (Has.alloc C2.out (.cells #[] 50)).cellv (i := 0) (v := .string s) rfl
  have HM2 := Lib.hid hm2
  have B2 := Lib.hid b2
  clear hw2 u1 l1 f1 f1b c0 k2 hm2 b2
  cases b with
  | true =>
    rw [rounds_succ]
    go_wp2_with fail
    go_ret
    exact ⟨rfl, B2.out.alloc B2.out.size _⟩
  | false =>
    have u2 := update_one w.heap.size (0 + 1) 0 s t (.agg #[]) (.agg #[]) _ (heap_alloc HM2.out (.cells #[] 50)) HB0.out
    rw [rounds_succ]
    go_wp2_with fail
    generalize hw3 : putMap _ _ _ _ = w3
    have b3 : Below w.heap.size w w3 := by rw [← hw3]; exact below_putMap (B2.out.alloc B2.out.size _) (Nat.le_refl _) _ _
    clear hw3 u2
    rw [rounds_succ]
    go_wp2_with fail
    go_ret
    exact ⟨rfl, b3⟩
end Go.Proofs.YtgaphplndpdhaaaFmt
