/- Contract: bytes.Clone. Condition: a nil slice has no capacity. -/
import Derived.Test.YtgaphplndpdhaaaByte
namespace Go.Proofs.Ytgaphplndpdhaaa
open Go.RowKit
set_option maxHeartbeats 400000 in
theorem clone_any (x : List (BitVec 8)) (q : Option Addr) (c : Nat) (w : World) (hx : Sees w w.heap.size q (x.map u8v)) (hq : q = none → c = 0) (hl : x.length ≤ 140737488355328) :
    Calls Try.prog 23 #[.slice q x.length c] w (Gives w x) := by
  have HX := Lib.hid hx
  have HQ := Lib.hid hq
  have HL := Lib.hid hl
  have hn := run_eql_slice_nil (P := Try.prog) w 23 5 q x.length c Try.underlying23
  clear hx hq hl
  rcases q with _ | a
  · have hx0 : x = [] := by
      rcases x with _ | ⟨y, l⟩
      · rfl
      · obtain ⟨a, h1, _⟩ := HX.out.get (by simp)
        cases h1
    subst hx0
    simp only [Option.isNone_none, List.length_nil] at hn
    go_enter Try.func23, Try.ntmps23
    go_wp2_with fail
    go_ret
    exact ⟨_, rfl, Bs.nil _, Below.refl _ _⟩
  · simp only [Option.isNone_some] at hn
    have ho : (w.alloc (.cells #[] 5)).ownsRow w.heap.size 5 1 (.slice (some ⟨w.heap.size, 0, none⟩) 0 0) 0 [] := World.ownsRow_made w #[] 0 (Nat.le_refl _) (by unfold maxLen; omega) (by simp)
    have HO := Lib.hid ho
    have HS : Hid (Sees (w.alloc (.cells #[] 5)) w.heap.size (some a) (x.map u8v)) := Lib.hid (HX.out.keep ((Below.refl _ _).alloc (Nat.le_refl _) _))
    have HB : Hid (Below w.heap.size w (w.alloc (.cells #[] 5))) := Lib.hid ((Below.refl _ _).alloc (Nat.le_refl _) _)
    clear ho
    go_enter Try.func23, Try.ntmps23
    go_wp2_with (at_builtin; refine wpList_append_sees rfl _ _ rfl w.heap.size _ 0 [] rfl HO.out (some a) x c w.heap.size rfl HQ.out HS.out (by have := HL.out; omega) HB.out.size ?_; intro v' w' h1 h2; have H1 := Lib.hid h1; have H2 := Lib.hid (HB.out.trans h2); clear h1 h2)
    go_ret
    have h1 := H1.out
    rw [List.nil_append] at h1
    exact ⟨_, rfl, Bs.own h1, H2.out⟩
end Go.Proofs.Ytgaphplndpdhaaa
