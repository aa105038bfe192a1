/- cause.Once at a chain of three: the third stage is the first's. cause.In at a stage that is none, and of nil. Conditions: the two variables as laid; the blocks known whole. -/
import Derived.Test.YtgaphplndpdhaaaFmtFcb
namespace Go.Proofs.YtgaphplndpdhaaaFmt
open Go.RowKit
theorem find_two (s r t : ByteArray) (v u : Value) (n m : Nat) (h : (s == r) = true) : Instr.findNow .string (.string s) [{ key := .string r, val := v, born := n }, { key := .string t, val := u, born := m }] 0 = some (some (0, v)) := by
  simp only [Instr.findNow, Instr.sameNow, h]
theorem lookup_two (p clock n m : Nat) (s r t : ByteArray) (w : World) (hb : w.heap[p]? = some (.map #[{ key := .string r, val := .agg #[], born := n }, { key := .string t, val := .agg #[], born := m }] clock)) (h : (s == r) = true) :
    (Instr.lookup 49 (.map (some p)) (.string s) true).run Tryf.prog w = .ok (.tuple #[.agg #[], .bool true]) w := by
  have hf := find_two s r t (.agg #[]) (.agg #[]) n m h
  have hc : ∀ e, (Instr.checkKey e 10000 9 (.string s)).run Tryf.prog w = .ok () w := fun e => MapKept.run_checkKey (k := .string s) Tryf.underlying9 (by simp [MapKept.IsKey]) e 9999
  simp [Instr.lookup, run_underlying Tryf.underlying49, MapKept.run_getObj_map hb, hc, MapKept.run_findKey Tryf.underlying9 hf, Result.andThen]
set_option maxRecDepth 100000 in
set_option maxHeartbeats 4000000 in
theorem once_3 (k f h g : Nat) (r t tx s : ByteArray) (l m n c : Int) (w : World) (hs : 1 < w.heap.size) (hg : w.cell? ⟨1, 0, none⟩ = some theErr)
    (hK : IsC w k r l (ofC f)) (hF : IsC w f t m (ofW h)) (hW : IsW w h tx (ofC g)) (hC : IsC w g s n (.iface 26 (.int .i64 c))) (hb : (t == r) = false) (hb2 : (s == r) = true) :
    Calls Tryf.prog 10 #[ofC k] w fun e w' => e = .returned (.bool false) ∧ Below w.heap.size w w' := by
  have hCS := Lib.hid (causes_3 k f h g r t tx s l m n c (w.alloc (.map #[] 0)) (by simp; omega) (by rw [World.cell?_alloc_lt _ _ ⟨1, 0, none⟩ hs]; exact hg) (Has.alloc hK _) (Has.alloc hF _) (Has.alloc hW _) (Has.alloc hC _))
  have HK := Lib.hid hK
  have HF := Lib.hid hF
  have HC := Lib.hid hC
  have HB0 := Lib.hid hb
  have HB2 := Lib.hid hb2
  have hm0 : (w.alloc (.map #[] 0)).heap[w.heap.size]? = some (.map #[] 0) := heap_alloc_new w _
  have HM0 := Lib.hid hm0
  have b0 : Below w.heap.size w (w.alloc (.map #[] 0)) := (Below.refl _ _).alloc (Nat.le_refl _) _
  have B0 := Lib.hid b0
  have mm := run_makeMap_plain (P := Tryf.prog) w 49
  clear hK hF hC hW hg hs hb hb2 hm0 b0
  unfold ofC at *
  unfold ofW at *
  go_enter Tryf.func10, Tryf.ntmps10
  go_wp2_with (go_at_call 17; refine hCS.out.mono ?_; rintro e w1 ⟨v, rfl, R0⟩; obtain ⟨gg, cap, rfl, hcell⟩ := R0.first (by simp); have c0 := hcell 0 _ rfl; have c1 := hcell 1 _ rfl; have c2 := hcell 2 _ rfl; have hB := R0.2.1; clear hcell R0)
  have c0 : w1.cell? ⟨gg, 0, none⟩ = some (.pointer (some ⟨k, 0, none⟩)) := c0
  have c1 : w1.cell? ⟨gg, 1, none⟩ = some (.pointer (some ⟨f, 0, none⟩)) := c1
  have c2 : w1.cell? ⟨gg, 2, none⟩ = some (.pointer (some ⟨g, 0, none⟩)) := c2
  have HC1 := Lib.hid c1
  have HC2 := Lib.hid c2
  have hm1 : w1.heap[w.heap.size]? = some (.map #[] 0) := (hB.block _ (by simp)).trans HM0.out
  have B1 := Lib.hid (B0.out.trans (hB.mono B0.out.size))
  have K1 := Lib.hid (Has.keep HK.out B1.out (Has.lt HK.out))
  have f1 := K1.out.cellv (i := 0) (v := .string r) rfl
  have l1 := lookup_empty w.heap.size 0 r w1 hm1
  have hm1' := heap_alloc hm1 (.cells #[] 50)
  have u1 := update_empty w.heap.size 0 r (.agg #[]) _ hm1'
  have HM1 := Lib.hid hm1'
  have f1b := (Has.alloc K1.out (.cells #[] 50)).cellv (i := 0) (v := .string r) rfl
  have hgg : gg ≠ w.heap.size := by
    intro h
    have hx := HC1.out
    unfold World.cell? at hx
    rw [h] at hx
    simp [hm1] at hx
  have HGG := Lib.hid hgg
  clear hB c1 c2 hm1 hm1' hgg
  refine wp_loop_rounds 3 ?_
  rw [rounds_succ]
  go_wp2_with fail
  generalize hw2 : putMap _ _ _ _ = w2
  have hm2 : w2.heap[w.heap.size]? = some (.map #[{ key := .string r, val := .agg #[], born := 0 }] (0 + 1)) := by rw [← hw2]; exact putMap_at HM1.out _ _
  have b2 : Below w.heap.size w w2 := by rw [← hw2]; exact below_putMap (B1.out.alloc B1.out.size _) (Nat.le_refl _) _ _
  have k2 : ∀ p : Addr, p.block ≠ w.heap.size → p.block < w1.heap.size → w2.cell? p = w1.cell? p := fun p h1 h2 => by
    rw [← hw2, ← World.cell?_alloc_lt w1 (.cells #[] 50) p h2]
    unfold World.cell? putMap
    simp only [Array.getElem?_setIfInBounds_ne (Ne.symm h1)]
  have c1 : w2.cell? ⟨gg, 1, none⟩ = some (.pointer (some ⟨f, 0, none⟩)) := (k2 ⟨gg, 1, none⟩ HGG.out (cell_lt HC1.out)).trans HC1.out
  have C22 := Lib.hid ((k2 ⟨gg, 2, none⟩ HGG.out (cell_lt HC2.out)).trans HC2.out)
  have F2 := Lib.hid (Has.keep HF.out b2 (Has.lt HF.out))
  have f2 := F2.out.cellv (i := 0) (v := .string t) rfl
  have l2 := lookup_one w.heap.size (0 + 1) 0 t r false w2 hm2 HB0.out
  have f2b := (Has.alloc F2.out (.cells #[] 50)).cellv (i := 0) (v := .string t) rfl
  have u2 := update_one w.heap.size (0 + 1) 0 t r (.agg #[]) (.agg #[]) _ (heap_alloc hm2 (.cells #[] 50)) HB0.out
  have HM2 := Lib.hid (heap_alloc hm2 (.cells #[] 50))
  have B2 := Lib.hid b2
  clear hw2 u1 l1 f1 f1b c0 k2 hm2 b2
  rw [rounds_succ]
  go_wp2_with fail
  generalize hw3 : putMap _ _ _ _ = w3
  have hm3 : w3.heap[w.heap.size]? = some (.map #[{ key := .string r, val := .agg #[], born := 0 }, { key := .string t, val := .agg #[], born := 0 + 1 }] (0 + 1 + 1)) := by rw [← hw3]; exact putMap_at HM2.out _ _
  have b3 : Below w.heap.size w w3 := by rw [← hw3]; exact below_putMap (B2.out.alloc B2.out.size _) (Nat.le_refl _) _ _
  have c2 : w3.cell? ⟨gg, 2, none⟩ = some (.pointer (some ⟨g, 0, none⟩)) := by
    rw [← C22.out, ← hw3, ← World.cell?_alloc_lt w2 (.cells #[] 50) ⟨gg, 2, none⟩ (cell_lt C22.out)]
    unfold World.cell? putMap
    simp only [Array.getElem?_setIfInBounds_ne (Ne.symm HGG.out)]
  have f3 := (Has.keep HC.out b3 (Has.lt HC.out)).cellv (i := 0) (v := .string s) rfl
  have l3 := lookup_two w.heap.size _ _ _ s r t w3 hm3 HB2.out
  have B3 := Lib.hid b3
  clear hw3 u2 l2 f2 f2b c1 hm3 b3
  rw [rounds_succ]
  go_wp2_with fail
  go_ret
  exact ⟨rfl, B3.out.alloc B3.out.size _⟩
theorem stg_none : ∀ j : Fin 6, ((stg j).toList == (⟨#[119, 104, 97, 116]⟩ : ByteArray).toList) = false := by decide +kernel
set_option maxHeartbeats 1000000 in
/-- known of "what": the last stage. -/
theorem known_what (w : World) (a : Addr) (cap : Nat) (hL : Laid w a cap) :
    Calls Tryf.prog 15 #[.string ⟨#[119, 104, 97, 116]⟩] w fun e w' => e = .returned (.string (stg 5)) ∧ w = w' := by
  have HO := Lib.hid stg_none
  have hr := Lib.hid hL.row
  have h0 := hL.at0
  obtain ⟨s, hsk⟩ : ∃ s : ByteArray, s = ⟨#[119, 104, 97, 116]⟩ := ⟨_, rfl⟩
  have Hs := Lib.hid hsk
  rw [← hsk]
  clear hsk hL
  go_enter Tryf.func15, Tryf.ntmps15
  go_wp2_with fail
  go_loop [7] (fun i => ∃ j : Nat, j ≤ 6 ∧ i = .int .i64 j) (fun i => (6 - intOf i).toNat)
  case atStart => exact ⟨0, by omega, rfl⟩
  case round =>
    obtain ⟨j, hj, rfl⟩ := hrel
    by_cases h6 : j = 6
    · subst h6
      go_wp2_with fail
      go_ret
      exact ⟨rfl, rfl⟩
    · have hc := hr.out j (by omega)
      have hj6 : (j : Int) < 6 := by omega
      have h1 : ((stg j).toList == s.toList) = false := by rw [Hs.out]; exact HO.out ⟨j, by omega⟩
      generalize stg j = t at *
      go_wp2_with fail
      go_round
      case rel => exact ⟨j + 1, by omega, by go_num⟩
      case measure => simp [intOf]; omega
theorem in_what (n : Int) (T : TypeId) (v : Value) (w : World) (a : Addr) (cap : Nat) (hL : Laid w a cap) :
    Calls Tryf.prog 5 #[.string ⟨#[119, 104, 97, 116]⟩, .int .i64 n, .iface T v] w fun e w' => e = .returned (.iface 31 (.pointer (some ⟨w.heap.size, 0, none⟩))) ∧ w' = w.alloc (.cells #[.string (stg 5), .int .i64 n, .iface T v] 33) := by
  have hk := Lib.hid (known_what w a cap hL)
  clear hL
  generalize stg 5 = s at *
  go_enter Tryf.func5, Tryf.ntmps5
  go_wp2_with (go_at_call 15; with_reducible refine hk.out.mono ?_; rintro e w' ⟨rfl, rfl⟩)
  go_ret
  exact ⟨rfl, rfl⟩
theorem in_nil (s : ByteArray) (n : Int) (w : World) : Calls Tryf.prog 5 #[.string s, .int .i64 n, .nilIface] w fun e w' => e = .returned .nilIface ∧ w' = w := by
  go_enter Tryf.func5, Tryf.ntmps5
  go_wp2_with fail
  go_ret
  exact ⟨rfl, rfl⟩
end Go.Proofs.YtgaphplndpdhaaaFmt
