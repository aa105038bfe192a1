/- cause.causes, Steps, Stage, Once where nothing is found; Once at a chain of three (written by gen_fca.py). Conditions: errors.errorType as laid; the blocks known whole. -/
import Derived.Test.YtgaphplndpdhaaaFmtFca
namespace Go.Proofs.YtgaphplndpdhaaaFmt
open Go.RowKit
/-- causes finds none. -/
theorem causes_none (x : Value) (w : World) (hO : Calls Tryf.prog 24 #[x] w fun e w' => e = .returned (.pointer none) ∧ Below w.heap.size w w') :
    Calls Tryf.prog 17 #[x] w fun e w' => e = .returned (.slice none 0 0) ∧ Below w.heap.size w w' := by
  have hO := Lib.hid hO
  go_enter Tryf.func17, Tryf.ntmps17
  go_wp2_with (go_at_call 24; refine hO.out.mono ?_; rintro e w1 ⟨rfl, hb⟩)
  refine wp_loop_rounds 1 ?_
  rw [rounds_succ]
  go_wp2_with fail
  go_ret
  exact ⟨rfl, hb⟩
theorem steps_none (x : Value) (w : World) (hO : Calls Tryf.prog 24 #[x] w fun e w' => e = .returned (.pointer none) ∧ Below w.heap.size w w') :
    Calls Tryf.prog 8 #[x] w fun e w' => e = .returned (.slice none 0 0) ∧ Below w.heap.size w w' := by
  have hK := Lib.hid (causes_none x w hO)
  clear hO
  go_enter Tryf.func8, Tryf.ntmps8
  go_wp2_with (go_at_call 17; refine hK.out.mono ?_; rintro e w1 ⟨rfl, hb⟩)
  refine wp_loop_rounds 1 ?_
  rw [rounds_succ]
  go_wp2_with fail
  go_ret
  exact ⟨rfl, hb⟩
theorem stage_none (x : Value) (w : World) (hO : Calls Tryf.prog 24 #[x] w fun e w' => e = .returned (.pointer none) ∧ Below w.heap.size w w') :
    Calls Tryf.prog 9 #[x] w fun e w' => e = .returned (.string ByteArray.empty) ∧ Below w.heap.size w w' := by
  have hK := Lib.hid (causes_none x w hO)
  clear hO
  go_enter Tryf.func9, Tryf.ntmps9
  go_wp2_with (go_at_call 17; refine hK.out.mono ?_; rintro e w1 ⟨rfl, hb⟩)
  refine wp_loop_rounds 1 ?_
  rw [rounds_succ]
  go_wp2_with fail
  go_ret
  exact ⟨rfl, hb⟩
theorem once_none (x : Value) (w : World) (hO : Calls Tryf.prog 24 #[x] (w.alloc (.map #[] 0)) fun e w' => e = .returned (.pointer none) ∧ Below (w.alloc (.map #[] 0)).heap.size (w.alloc (.map #[] 0)) w') :
    Calls Tryf.prog 10 #[x] w fun e w' => e = .returned (.bool true) ∧ Below w.heap.size w w' := by
  have hK := Lib.hid (causes_none x _ hO)
  have mm := run_makeMap_plain (P := Tryf.prog) w 49
  clear hO
  go_enter Tryf.func10, Tryf.ntmps10
  go_wp2_with (go_at_call 17; refine hK.out.mono ?_; rintro e w1 ⟨rfl, hb⟩)
  refine wp_loop_rounds 1 ?_
  rw [rounds_succ]
  go_wp2_with fail
  go_ret
  exact ⟨rfl, ((Below.refl _ _).alloc (Nat.le_refl _) _).trans (hb.mono (by simp))⟩
set_option maxRecDepth 100000 in
set_option maxHeartbeats 4000000 in
theorem causes_3 (k f h g : Nat) (r t tx s : ByteArray) (l m n c : Int) (w : World) (hs : 1 < w.heap.size) (hg : w.cell? ⟨1, 0, none⟩ = some theErr)
    (hK : IsC w k r l (ofC f)) (hF : IsC w f t m (ofW h)) (hW : IsW w h tx (ofC g)) (hC : IsC w g s n (.iface 26 (.int .i64 c))) :
    Calls Tryf.prog 17 #[ofC k] w fun e w' => ∃ v, e = .returned v ∧ RowT 31 w w.heap.size v [.pointer (some ⟨k, 0, none⟩), .pointer (some ⟨f, 0, none⟩), .pointer (some ⟨g, 0, none⟩)] w' := by
  have kS : Hid (∀ w', Below w.heap.size w w' → 1 < w'.heap.size) := Lib.hid fun w' hb => Nat.lt_of_lt_of_le hs hb.size
  have kG : Hid (∀ w', Below w.heap.size w w' → w'.cell? ⟨1, 0, none⟩ = some theErr) := Lib.hid fun w' hb => keepErr hs hg hb
  have HK := Lib.hid hK
  have HF := Lib.hid hF
  have HC := Lib.hid hC
  have HW := Lib.hid hW
  have R0 := RowT.start 31 w
  clear hF hC hW hK hg hs
  unfold ofC at *
  unfold ofW at *
  go_enter Tryf.func17, Tryf.ntmps17
  go_wp2_with (go_at_call 24; refine (out_cause k _ (kS.out _ R0.2.1) (kG.out _ R0.2.1)).mono ?_; rintro e w1 ⟨rfl, hb⟩; have R1 := R0.keep hb; clear hb R0)
  refine wp_loop_rounds 4 ?_
  rw [rounds_succ]
  go_wp2_with (first
    | (refine wp_one Tryf.underlying47 pc_info rfl rfl (.tmp 14) (.tmp 16) rfl (R1.alloc (.cells #[.pointer (some ⟨k, 0, none⟩)] 31)) rfl w1.heap.size (.pointer (some ⟨k, 0, none⟩)) rfl (by simp) rfl (by simp) ?_; intro v2 w2 R2; have c1 := (Has.keep HK.out R2.2.1 (Has.lt HK.out)).cellv (i := 2) (v := .iface 31 (.pointer (some ⟨f, 0, none⟩))) rfl; clear R1)
    | (go_at_call 24; refine (out_cause f _ (kS.out _ R2.2.1) (kG.out _ R2.2.1)).mono ?_; rintro e w3 ⟨rfl, hb⟩; have R3 := R2.keep hb; clear hb R2 c1))
  rw [rounds_succ]
  go_wp2_with (first
    | (refine wp_one Tryf.underlying47 pc_info rfl rfl (.tmp 14) (.tmp 16) rfl (R3.alloc (.cells #[.pointer (some ⟨f, 0, none⟩)] 31)) rfl w3.heap.size (.pointer (some ⟨f, 0, none⟩)) rfl (by simp) rfl (by simp) ?_; intro v4 w4 R4; have c1 := (Has.keep HF.out R4.2.1 (Has.lt HF.out)).cellv (i := 2) (v := .iface 43 (.pointer (some ⟨h, 0, none⟩))) rfl; clear R3)
    | (go_at_call 24; refine (out_wrap h tx g _ (kS.out _ R4.2.1) (kG.out _ R4.2.1) (Has.keep HW.out R4.2.1 (Has.lt HW.out))).mono ?_; rintro e w5 ⟨rfl, hb⟩; have R5 := R4.keep hb; clear hb R4 c1))
  rw [rounds_succ]
  go_wp2_with (first
    | (refine wp_one Tryf.underlying47 pc_info rfl rfl (.tmp 14) (.tmp 16) rfl (R5.alloc (.cells #[.pointer (some ⟨g, 0, none⟩)] 31)) rfl w5.heap.size (.pointer (some ⟨g, 0, none⟩)) rfl (by simp) rfl (by simp) ?_; intro v6 w6 R6; have c1 := (Has.keep HC.out R6.2.1 (Has.lt HC.out)).cellv (i := 2) (v := .iface 26 (.int .i64 c)) rfl; clear R5)
    | (go_at_call 24; refine (out_num c _ (kS.out _ R6.2.1) (kG.out _ R6.2.1)).mono ?_; rintro e w7 ⟨rfl, hb⟩; have R7 := R6.keep hb; clear hb R6 c1))
  rw [rounds_succ]
  go_wp2_with fail
  go_ret
  exact ⟨v6, rfl, R7⟩
end Go.Proofs.YtgaphplndpdhaaaFmt
