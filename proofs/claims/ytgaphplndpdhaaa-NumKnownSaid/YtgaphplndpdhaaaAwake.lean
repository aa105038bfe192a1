/- Contract: the law's own awake: true. No condition. -/
import Derived.Test.YtgaphplndpdhaaaGet
namespace Go.Proofs.Ytgaphplndpdhaaa
open Go.RowKit
theorem digs300 : digs 300 = [172, 2] := by rw [digs_ge 300 (by omega), digs_lt _ (by omega)]; rfl
set_option maxHeartbeats 1000000 in
theorem awake_any (w : World) : Calls Try.prog 7 #[] w fun e w' => e = .returned (.bool true) ∧ Below w.heap.size w w' := by
  have h1 := put_any [] none 0 300 w (Sees.nil _ _ _) (fun _ => rfl) (by simp) (by omega)
  rw [List.nil_append, digs300] at h1
  have H1 := Lib.hid h1
  have hg := getL_digs 300 [] (by omega)
  rw [List.append_nil, digs300] at hg
  have HG := Lib.hid hg
  clear h1 hg
  go_enter Try.func7, Try.ntmps7
  go_wp2_with fail
  refine H1.out.mono ?_
  rintro e w1 ⟨v, rfl, ⟨q1, c1, rfl, hc1, hq1, hs1⟩, hb1⟩
  have h2 := get_any [172, 2] q1 c1 w1 hs1 (by simp)
  rw [HG.out] at h2
  unfold tri at h2
  have H2 := Lib.hid h2
  have s1 := str_run [172, 2] q1 c1 _ w1 hs1
  rw [show ([172, 2] : List (BitVec 8)).length = 2 from rfl] at s1
  have hb2 : strB [172, 2] = (⟨#[172, 2]⟩ : ByteArray) := rfl
  rw [hb2] at s1
  clear hb2
  have HB := Lib.hid hb1
  clear h2 hs1 hb1 H1 hc1 hq1
  go_wp2_with fail
  refine H2.out.mono ?_
  rintro e w2 ⟨rfl, rfl⟩
  go_wp2_with fail
  go_ret
  exact ⟨rfl, HB.out⟩
end Go.Proofs.Ytgaphplndpdhaaa
