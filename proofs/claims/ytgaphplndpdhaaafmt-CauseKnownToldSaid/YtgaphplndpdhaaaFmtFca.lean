/- cause.causes, Steps, Stage, Once at a *Cause of a *fmt.wrapError of a *Cause of a number (written by gen_fca.py). Conditions: errors.errorType as laid; the blocks known whole. -/
import Derived.Test.YtgaphplndpdhaaaFmtOnce
import Derived.Test.YtgaphplndpdhaaaFmtFout
namespace Go.Proofs.YtgaphplndpdhaaaFmt
open Go.RowKit
set_option maxRecDepth 100000 in
set_option maxHeartbeats 4000000 in
theorem causes_W (f h g : Nat) (t tx s : ByteArray) (m n c : Int) (w : World) (hs : 1 < w.heap.size) (hg : w.cell? ⟨1, 0, none⟩ = some theErr)
    (hF : IsC w f t m (ofW h)) (hW : IsW w h tx (ofC g)) (hC : IsC w g s n (.iface 26 (.int .i64 c))) :
    Calls Tryf.prog 17 #[ofC f] w fun e w' => ∃ v, e = .returned v ∧ RowT 31 w w.heap.size v [.pointer (some ⟨f, 0, none⟩), .pointer (some ⟨g, 0, none⟩)] w' := by
  have kS : Hid (∀ w', Below w.heap.size w w' → 1 < w'.heap.size) := Lib.hid fun w' hb => Nat.lt_of_lt_of_le hs hb.size
  have kG : Hid (∀ w', Below w.heap.size w w' → w'.cell? ⟨1, 0, none⟩ = some theErr) := Lib.hid fun w' hb => keepErr hs hg hb
  have HF := Lib.hid hF
  have HC := Lib.hid hC
  have HW := Lib.hid hW
  have R0 := RowT.start 31 w
  clear hF hC hW hg hs
  unfold ofC at *
  unfold ofW at *
  go_enter Tryf.func17, Tryf.ntmps17
  go_wp2_with (go_at_call 24; refine (out_cause f _ (kS.out _ R0.2.1) (kG.out _ R0.2.1)).mono ?_; rintro e w1 ⟨rfl, hb⟩; have R1 := R0.keep hb; clear hb R0)
  refine wp_loop_rounds 3 ?_
  rw [rounds_succ]
  go_wp2_with (first
    | (refine wp_one Tryf.underlying47 pc_info rfl rfl (.tmp 14) (.tmp 16) rfl (R1.alloc (.cells #[.pointer (some ⟨f, 0, none⟩)] 31)) rfl w1.heap.size (.pointer (some ⟨f, 0, none⟩)) rfl (by simp) rfl (by decide) ?_; intro v2 w2 R2; have c1 := (Has.keep HF.out R2.2.1 (Has.lt HF.out)).cellv (i := 2) (v := .iface 43 (.pointer (some ⟨h, 0, none⟩))) rfl; clear R1)
    | (go_at_call 24; refine (out_wrap h tx g _ (kS.out _ R2.2.1) (kG.out _ R2.2.1) (Has.keep HW.out R2.2.1 (Has.lt HW.out))).mono ?_; rintro e w3 ⟨rfl, hb⟩; have R3 := R2.keep hb; clear hb R2 c1))
  rw [rounds_succ]
  go_wp2_with (first
    | (refine wp_one Tryf.underlying47 pc_info rfl rfl (.tmp 14) (.tmp 16) rfl (R3.alloc (.cells #[.pointer (some ⟨g, 0, none⟩)] 31)) rfl w3.heap.size (.pointer (some ⟨g, 0, none⟩)) rfl (by simp) rfl (by simp) ?_; intro v4 w4 R4; have c1 := (Has.keep HC.out R4.2.1 (Has.lt HC.out)).cellv (i := 2) (v := .iface 26 (.int .i64 c)) rfl; clear R3)
    | (go_at_call 24; refine (out_num c _ (kS.out _ R4.2.1) (kG.out _ R4.2.1)).mono ?_; rintro e w5 ⟨rfl, hb⟩; have R5 := R4.keep hb; clear hb R4 c1))
  rw [rounds_succ]
  go_wp2_with fail
  go_ret
  exact ⟨v4, rfl, R5⟩
set_option maxRecDepth 100000 in
set_option maxHeartbeats 4000000 in
theorem steps_W (f h g : Nat) (t tx s : ByteArray) (m n c : Int) (w : World) (hs : 1 < w.heap.size) (hg : w.cell? ⟨1, 0, none⟩ = some theErr)
    (hF : IsC w f t m (ofW h)) (hW : IsW w h tx (ofC g)) (hC : IsC w g s n (.iface 26 (.int .i64 c))) :
    Calls Tryf.prog 8 #[ofC f] w fun e w' => ∃ p cap, e = .returned (.slice (some ⟨p, 0, none⟩) 2 cap) ∧ w'.cell? ⟨p, 0, none⟩ = some (.int .i64 m) ∧ w'.cell? ⟨p, 1, none⟩ = some (.int .i64 n) ∧ Below w.heap.size w w' := by
  have hK := Lib.hid (causes_W f h g t tx s m n c w hs hg hF hW hC)
  have HF := Lib.hid hF
  have HC := Lib.hid hC
  clear hF hC hW hg hs
  unfold ofC at *
  unfold ofW at *
  go_enter Tryf.func8, Tryf.ntmps8
  go_wp2_with (go_at_call 17; refine hK.out.mono ?_; rintro e w1 ⟨v, rfl, R0⟩; obtain ⟨gg, cap, rfl, hcell⟩ := R0.first (by simp); have c0 := hcell 0 _ rfl; have c1 := hcell 1 _ rfl; have hB := R0.2.1; clear hcell R0)
  have c0 : w1.cell? ⟨gg, 0, none⟩ = some (.pointer (some ⟨f, 0, none⟩)) := c0
  have c1 : w1.cell? ⟨gg, 1, none⟩ = some (.pointer (some ⟨g, 0, none⟩)) := c1
  have HC1 := Lib.hid c1
  have HB := Lib.hid hB
  have F1 := Lib.hid (Has.keep HF.out hB (Has.lt HF.out))
  have C1 := Lib.hid (Has.keep HC.out hB (Has.lt HC.out))
  have f1 := F1.out.cellv (i := 1) (v := .int .i64 m) rfl
  have R0 := RowT.start 2 w1
  clear hB c1
  refine wp_loop_rounds 3 ?_
  rw [rounds_succ]
  go_wp2_with (refine wp_one Tryf.underlying29 i64_info rfl rfl (.tmp 13) (.tmp 18) rfl (R0.alloc (.cells #[.int .i64 m] 2)) rfl w1.heap.size (.int .i64 m) rfl (by simp) rfl (by simp) ?_; intro v2 w2 R2; clear R0)
  have c2 := (R2.2.1.cell (p := ⟨gg, 1, none⟩) (cell_lt HC1.out)).trans HC1.out
  have f2 := (Has.keep C1.out R2.2.1 (Has.lt C1.out)).cellv (i := 1) (v := .int .i64 n) rfl
  clear c0 f1
  rw [rounds_succ]
  go_wp2_with (refine wp_one Tryf.underlying29 i64_info rfl rfl (.tmp 13) (.tmp 18) rfl (R2.alloc (.cells #[.int .i64 n] 2)) rfl w2.heap.size (.int .i64 n) rfl (by simp) rfl (by simp) ?_; intro v3 w3 R3; clear R2)
  rw [rounds_succ]
  go_wp2_with fail
  obtain ⟨g3, cap3, rfl, hc3⟩ := R3.first (by simp)
  have HC3 := Lib.hid hc3
  clear hc3
  go_ret
  exact ⟨g3, cap3, rfl, HC3.out 0 _ rfl, HC3.out 1 _ rfl, HB.out.trans (R3.2.1.mono HB.out.size)⟩
set_option maxRecDepth 100000 in
set_option maxHeartbeats 4000000 in
theorem stage_W (f h g : Nat) (t tx s : ByteArray) (m n c : Int) (w : World) (hs : 1 < w.heap.size) (hg : w.cell? ⟨1, 0, none⟩ = some theErr)
    (hF : IsC w f t m (ofW h)) (hW : IsW w h tx (ofC g)) (hC : IsC w g s n (.iface 26 (.int .i64 c))) :
    Calls Tryf.prog 9 #[ofC f] w fun e w' => e = .returned (.string s) ∧ Below w.heap.size w w' := by
  have hK := Lib.hid (causes_W f h g t tx s m n c w hs hg hF hW hC)
  have HF := Lib.hid hF
  have HC := Lib.hid hC
  clear hF hC hW hg hs
  unfold ofC at *
  unfold ofW at *
  go_enter Tryf.func9, Tryf.ntmps9
  go_wp2_with (go_at_call 17; refine hK.out.mono ?_; rintro e w1 ⟨v, rfl, R0⟩; obtain ⟨gg, cap, rfl, hcell⟩ := R0.first (by simp); have c0 := hcell 0 _ rfl; have c1 := hcell 1 _ rfl; have hB := R0.2.1; clear hcell R0)
  have c0 : w1.cell? ⟨gg, 0, none⟩ = some (.pointer (some ⟨f, 0, none⟩)) := c0
  have c1 : w1.cell? ⟨gg, 1, none⟩ = some (.pointer (some ⟨g, 0, none⟩)) := c1
  have HB := Lib.hid hB
  have f1 := (Has.keep HF.out hB (Has.lt HF.out)).cellv (i := 0) (v := .string t) rfl
  have f2 := (Has.keep HC.out hB (Has.lt HC.out)).cellv (i := 0) (v := .string s) rfl
  clear hB
  refine wp_loop_rounds 3 ?_
  rw [rounds_succ]
  go_wp2_with fail
  rw [rounds_succ]
  go_wp2_with fail
  rw [rounds_succ]
  go_wp2_with fail
  go_ret
  exact ⟨rfl, HB.out⟩
set_option maxRecDepth 100000 in
set_option maxHeartbeats 4000000 in
theorem once_W (f h g : Nat) (t tx s : ByteArray) (m n c : Int) (b : Bool) (w : World) (hs : 1 < w.heap.size) (hg : w.cell? ⟨1, 0, none⟩ = some theErr)
    (hF : IsC w f t m (ofW h)) (hW : IsW w h tx (ofC g)) (hC : IsC w g s n (.iface 26 (.int .i64 c))) (hb : (s == t) = b) :
    Calls Tryf.prog 10 #[ofC f] w fun e w' => e = .returned (.bool (!b)) ∧ Below w.heap.size w w' := by
  have hK := Lib.hid (causes_W f h g t tx s m n c (w.alloc (.map #[] 0)) (by simp; omega) (by rw [World.cell?_alloc_lt _ _ ⟨1, 0, none⟩ hs]; exact hg) (Has.alloc hF _) (Has.alloc hW _) (Has.alloc hC _))
  have HF := Lib.hid hF
  have HC := Lib.hid hC
  have HB0 := Lib.hid hb
  have hm0 : (w.alloc (.map #[] 0)).heap[w.heap.size]? = some (.map #[] 0) := heap_alloc_new w _
  have HM0 := Lib.hid hm0
  have b0 : Below w.heap.size w (w.alloc (.map #[] 0)) := (Below.refl _ _).alloc (Nat.le_refl _) _
  have B0 := Lib.hid b0
  have mm := run_makeMap_plain (P := Tryf.prog) w 49
  clear hF hC hW hg hs hb hm0 b0
  unfold ofC at *
  unfold ofW at *
  go_enter Tryf.func10, Tryf.ntmps10
  go_wp2_with (go_at_call 17; refine hK.out.mono ?_; rintro e w1 ⟨v, rfl, R0⟩; obtain ⟨gg, cap, rfl, hcell⟩ := R0.first (by simp); have c0 := hcell 0 _ rfl; have c1 := hcell 1 _ rfl; have hB := R0.2.1; clear hcell R0)
  have c0 : w1.cell? ⟨gg, 0, none⟩ = some (.pointer (some ⟨f, 0, none⟩)) := c0
  have c1 : w1.cell? ⟨gg, 1, none⟩ = some (.pointer (some ⟨g, 0, none⟩)) := c1
  have HC1 := Lib.hid c1
  have hm1 : w1.heap[w.heap.size]? = some (.map #[] 0) := (hB.block _ (by simp)).trans HM0.out
  have B1 := Lib.hid (B0.out.trans (hB.mono B0.out.size))
  have F1 := Lib.hid (Has.keep HF.out B1.out (Has.lt HF.out))
  have C1 := Lib.hid (Has.keep HC.out B1.out (Has.lt HC.out))
  have f1 := F1.out.cellv (i := 0) (v := .string t) rfl
  have l1 := lookup_empty w.heap.size 0 t w1 hm1
  have hm1' := heap_alloc hm1 (.cells #[] 50)
  have u1 := update_empty w.heap.size 0 t (.agg #[]) _ hm1'
  have HM1 := Lib.hid hm1'
  have f1b := (Has.alloc F1.out (.cells #[] 50)).cellv (i := 0) (v := .string t) rfl
  have hgg : gg ≠ w.heap.size := by
    intro h
    have hx := HC1.out
    unfold World.cell? at hx
    rw [h] at hx
    simp [hm1] at hx
  have HGG := Lib.hid hgg
  clear hB c1 hm1 hm1' hgg
  refine wp_loop_rounds 3 ?_
  rw [rounds_succ]
  go_wp2_with fail
  generalize hw2 : putMap _ _ _ _ = w2
  have hm2 : w2.heap[w.heap.size]? = some (.map #[{ key := .string t, val := .agg #[], born := 0 }] (0 + 1)) := by rw [← hw2]; exact putMap_at HM1.out _ _
  have b2 : Below w.heap.size w w2 := by rw [← hw2]; exact below_putMap (B1.out.alloc B1.out.size _) (Nat.le_refl _) _ _
  have k2 : ∀ p : Addr, p.block ≠ w.heap.size → p.block < w1.heap.size → w2.cell? p = w1.cell? p := fun p h1 h2 => by
    rw [← hw2, ← World.cell?_alloc_lt w1 (.cells #[] 50) p h2]
    unfold World.cell? putMap
    simp only [Array.getElem?_setIfInBounds_ne (Ne.symm h1)]
  have c2 : w2.cell? ⟨gg, 1, none⟩ = some (.pointer (some ⟨g, 0, none⟩)) := (k2 ⟨gg, 1, none⟩ HGG.out (cell_lt HC1.out)).trans HC1.out
  have C2 := Lib.hid (Has.keep HC.out b2 (Has.lt HC.out))
  have f2 := C2.out.cellv (i := 0) (v := .string s) rfl
  have l2 := lookup_one w.heap.size (0 + 1) 0 s t b w2 hm2 HB0.out
  have f2b := (Has.alloc C2.out (.cells #[] 50)).cellv (i := 0) (v := .string s) rfl
  have HM2 := Lib.hid hm2
  have B2 := Lib.hid b2
  clear hw2 u1 l1 f1 f1b c0 k2 hm2 b2
  cases b with
  | true =>
    rw [rounds_succ]
    go_wp2_with fail
    go_ret
    exact ⟨rfl, B2.out.alloc B2.out.size _⟩
  | false =>
    have u2 := update_one w.heap.size (0 + 1) 0 s t (.agg #[]) (.agg #[]) _ (heap_alloc HM2.out (.cells #[] 50)) HB0.out
    rw [rounds_succ]
    go_wp2_with fail
    generalize hw3 : putMap _ _ _ _ = w3
    have b3 : Below w.heap.size w w3 := by rw [← hw3]; exact below_putMap (B2.out.alloc B2.out.size _) (Nat.le_refl _) _ _
    clear hw3 u2
    rw [rounds_succ]
    go_wp2_with fail
    go_ret
    exact ⟨rfl, b3⟩
end Go.Proofs.YtgaphplndpdhaaaFmt
