/- Contract: the law's awake: it returns true. No condition. -/
import Derived.Test.YtaeoaaajkcnbkaaAddw
namespace Go.Proofs.Ytaeoaaajkcnbkaa
open Go.RowKit
def la : List (BitVec 8) := [97]
theorem la_sum : rsum la = 98 := by decide +kernel
theorem la_last : lastN 3 ([] ++ [97#8]) = la := rfl
theorem freeze_new (w : World) (cs : Array Value) (e : TypeId) (n : Nat) : (w.alloc (.cells cs e)).freeze ⟨w.heap.size, n, none⟩ 1 = w.alloc (.cells cs e (n, n + 1)) := by
  have hm : ∀ (a : Array Obj) (x : Obj) (f : Obj → Obj), (a.push x).modify a.size f = a.push (f x) := by
    intro a x f
    apply Array.ext
    · simp
    · intro i h1 h2
      simp only [Array.getElem_modify, Array.getElem_push]
      by_cases h : a.size = i
      · subst h; simp
      · have hi : i < a.size := by simp at h1; omega
        simp [h, hi]
  unfold World.freeze
  rw [if_neg (by decide)]
  show ({ w.alloc (.cells cs e) with heap := (w.heap.push (.cells cs e)).modify w.heap.size _ } : World) = _
  rw [hm]
  rfl
/-- A byte slice's literal, converted to its own type: the block's end is marked. -/
theorem conv_new (w : World) (cs : Array Value) (n c : Nat) :
    (convert 31 31 (.slice (some ⟨w.heap.size, 0, none⟩) n c)).run Try.prog (w.alloc (.cells cs 5)) =
      .ok (.slice (some ⟨w.heap.size, 0, none⟩) n c) (w.alloc (.cells cs 5 (cs.size, cs.size + 1))) := by
  have hsh : (w.alloc (.cells cs 5)).shape? w.heap.size = some (5, cs.size) := by
    have : (w.alloc (.cells cs 5)).heap[w.heap.size]? = some (.cells cs 5) := heap_alloc_new _ _
    unfold World.shape?
    rw [this]
  have hfr := freeze_new w cs 5 cs.size
  simp [convert, run_underlying Try.underlying31, run_underlying Try.underlying5, markStringish, hsh, hfr]
theorem made_sees (w : World) (x : List (BitVec 8)) (cs : Array Value) (f : Nat × Nat) (hx : cs = (x.map u8v).toArray) :
    Sees (w.alloc (.cells cs 5 f)) (w.heap.size + 1) (some ⟨w.heap.size, 0, none⟩) (x.map u8v) := fun _ =>
  ⟨_, rfl, Nat.lt_succ_self _, fun j u hu => by
    rw [Addr.add_mid, Nat.zero_add]
    exact (cell_of_row _ w.heap.size j cs 5 f (heap_alloc_new w _)).trans (by rw [hx]; simpa using hu)⟩
set_option maxHeartbeats 1000000 in
set_option maxRecDepth 100000 in
theorem awake_any (w : World) :
    Calls Try.prog 8 #[] w fun e w' => e = .returned (.bool true) ∧ Below w.heap.size w w' := by
  have H1 := Lib.hid (new_any 3 w)
  rw [show hw 3 = 3 from rfl] at H1
  go_enter Try.func8, Try.ntmps8
  go_wp2_with fail
  refine H1.out.mono ?_
  rintro e w1 ⟨rfl, hw1, hb1, hz1⟩
  clear H1
  have hl1 := hw1.lt
  have HB1 := Lib.hid hb1
  have HW1 := Lib.hid hw1
  have HL1 := Lib.hid hl1
  clear hb1 hw1 hl1 hz1
  generalize hg : w.heap.size = g at *
  have HG := Lib.hid hg
  clear hg
  obtain ⟨w2, hA⟩ : ∃ w2, w2 = w1.alloc (.cells #[.int .u8 97] 5 (1, 2)) := ⟨_, rfl⟩
  have hcv := conv_new w1 #[.int .u8 97] 1 1
  rw [show (#[Value.int .u8 97] : Array Value).size = 1 from rfl, ← hA] at hcv
  have hB2 : Below w1.heap.size w1 w2 := by rw [hA]; exact (Below.refl _ _).alloc (Nat.le_refl _) _
  have hS2 : Sees w2 w2.heap.size (some ⟨w1.heap.size, 0, none⟩) (la.map u8v) := by rw [hA]; exact (made_sees w1 la _ (1, 2) rfl).more (by simp)
  have h3 := of_any la (some ⟨w1.heap.size, 0, none⟩) 1 w2 hS2 (by decide)
  rw [la_sum] at h3
  replace h3 : Calls Try.prog 14 #[.slice (some ⟨w1.heap.size, 0, none⟩) 1 1] w2 fun e w' => e = .returned (.int .u64 98) ∧ w2 = w' := h3
  have h4 := add_any w2 g 3 [] 97#8 (by omega) (by omega) (HW1.out.keep hB2 HL1.out)
  rw [la_last, la_sum] at h4
  replace h4 : Calls Try.prog 10 #[.pointer (some ⟨g, 0, none⟩), .int .u8 97] w2 fun e w' => e = .returned (.int .u64 98) ∧ WinAt w' g 3 la ∧ Only g w2 w' := h4
  have H3 := Lib.hid h3
  have H4 := Lib.hid h4
  have HB2 := Lib.hid (HB1.out.trans (hB2.mono (Nat.le_of_lt HL1.out)))
  clear hA hS2 hB2 h3 h4 HW1 HB1
  go_wp2_with ((with_reducible refine H3.out.mono ?_); rintro e w3 ⟨rfl, rfl⟩)
  refine H4.out.mono ?_
  rintro e w4 ⟨rfl, hw4, ho4⟩
  have H5 := Lib.hid (len_any w4 g 3 la hw4)
  rw [show min la.length 3 = 1 from rfl] at H5
  replace H5 : Hid (Calls Try.prog 12 #[.pointer (some ⟨g, 0, none⟩)] w4 fun e w' => e = .returned (.int .i64 1) ∧ w4 = w') := H5
  have HB4 := Lib.hid (HB2.out.trans ho4.below)
  clear hw4 ho4 H4 H3 hcv HB2
  go_wp2_with ((with_reducible refine H5.out.mono ?_); rintro e w5 ⟨rfl, rfl⟩)
  go_ret
  exact ⟨rfl, by rw [HG.out]; exact HB4.out⟩
end Go.Proofs.Ytaeoaaajkcnbkaa
