/- Contract: the law's own awake: true. No condition but the variables as laid. -/
import Derived.Test.YtgaphplndpdhaaaDoorText
namespace Go.Proofs.YtgaphplndpdhaaaDoor
open Go.RowKit
def abc : List (BitVec 8) := [97, 98, 99]
def abcText : List UInt8 := [98, 97, 55, 56, 49, 54, 98, 102, 56, 102, 48, 49, 99, 102, 101, 97, 52, 49, 52, 49, 52, 48, 100, 101, 53, 100, 97, 101, 50, 50, 50, 51, 98, 48, 48, 51, 54, 49, 97, 51, 57, 54, 49, 55, 55, 97, 57, 99, 98, 52, 49, 48, 102, 102, 54, 49, 102, 50, 48, 48, 49, 53, 97, 100]
theorem abc_text : strB (textOf (sha abc)) = ⟨abcText.toArray⟩ := by kernel_rfl

theorem freeze_new (w : World) (cs : Array Value) (e : TypeId) (n : Nat) : (w.alloc (.cells cs e)).freeze ⟨w.heap.size, n, none⟩ 1 = w.alloc (.cells cs e (n, n + 1)) := by
  have hm : ∀ (a : Array Obj) (x : Obj) (f : Obj → Obj), (a.push x).modify a.size f = a.push (f x) := by
    intro a x f
    apply Array.ext
    · simp
    · intro i h1 h2
      simp only [Array.getElem_modify, Array.getElem_push]
      by_cases h : a.size = i
      · subst h; simp
      · have hi : i < a.size := by simp at h1; omega
        simp [h, hi]
  unfold World.freeze
  rw [if_neg (by decide)]
  show ({ w.alloc (.cells cs e) with heap := (w.heap.push (.cells cs e)).modify w.heap.size _ } : World) = _
  rw [hm]
  rfl
/-- A byte slice's literal, converted to its own type: the block's end is marked. -/
theorem conv_new (w : World) (cs : Array Value) (n c : Nat) :
    (convert 22 22 (.slice (some ⟨w.heap.size, 0, none⟩) n c)).run Tryd.prog (w.alloc (.cells cs 5)) =
      .ok (.slice (some ⟨w.heap.size, 0, none⟩) n c) (w.alloc (.cells cs 5 (cs.size, cs.size + 1))) := by
  have hsh : (w.alloc (.cells cs 5)).shape? w.heap.size = some (5, cs.size) := by
    have : (w.alloc (.cells cs 5)).heap[w.heap.size]? = some (.cells cs 5) := heap_alloc_new _ _
    unfold World.shape?
    rw [this]
  have hfr := freeze_new w cs 5 cs.size
  simp [convert, run_underlying Tryd.underlying22, run_underlying Tryd.underlying5, markStringish, hsh, hfr]
set_option maxHeartbeats 1000000 in
theorem awake_any (w : World) (hL : Laid w) : Calls Tryd.prog 4 #[] w fun e w' => e = .returned (.bool true) ∧ Below w.heap.size w w' := by
  have HL := Lib.hid hL
  have hsz := hL.size
  have hcv := conv_new w #[.int .u8 97, .int .u8 98, .int .u8 99] 3 3
  clear hL
  go_enter Tryd.func4, Tryd.ntmps4
  go_wp2_with fail
  generalize hw0 : (w.alloc _).alloc _ = w0
  have h1 : ∀ j u, (abc.map u8v)[j]? = some u → w0.cell? ⟨w.heap.size, j, none⟩ = some u := by
    subst hw0
    intro j u hu
    rw [World.cell?_alloc_lt _ _ _ (by simp)]
    exact (cell_of_row _ w.heap.size j (abc.map u8v).toArray 5 (3, 4) (heap_alloc_new w _)).trans (by simpa using hu)
  have h2 : Has w0 (w.heap.size + 1) 22 [.slice (some ⟨w.heap.size, 0, none⟩) 3 3] := by subst hw0; exact Has.made1 _ _ _ _ _ rfl
  have hB : Below w.heap.size w w0 := by subst hw0; exact ((Below.refl _ _).alloc (Nat.le_refl _) _).alloc (by simp) _
  clear hw0 hcv
  refine (of_any [abc] (some ⟨w.heap.size + 1, 0, none⟩) 1 w0 ?_ (by simp) (by simp [abc]) (HL.out.keep hB hsz)).mono ?_
  · intro i hi
    have hi : i = 0 := by simpa using hi
    subst hi
    refine ⟨_, _, 3, rfl, h2.lt, h2.cellv (i := 0) rfl, Nat.le_refl _, fun _ => ⟨_, rfl, Nat.lt_trans (Nat.lt_succ_self _) h2.lt, fun j u hu => ?_⟩⟩
    rw [Addr.add_mid, Nat.zero_add]; exact h1 j u hu
  rintro e w1 ⟨rfl, hb1⟩
  have hB1 := hB.trans (hb1.mono hB.size)
  have e1 : ([abc] : List (List (BitVec 8))).flatten = abc := rfl
  rw [e1]
  clear e1 h1 h2 hb1
  go_wp2_with fail
  refine (text_any (sha abc) (sha_length _) w1).mono ?_
  rintro e w2 ⟨rfl, hb2⟩
  have hB2 := hB1.trans (hb2.mono hB1.size)
  rw [abc_text]
  clear hb2
  go_wp2_with fail
  go_ret
  exact ⟨rfl, hB2⟩
end Go.Proofs.YtgaphplndpdhaaaDoor
