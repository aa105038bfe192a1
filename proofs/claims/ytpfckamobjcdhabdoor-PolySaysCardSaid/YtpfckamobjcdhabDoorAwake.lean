/- Contract: the law's own awake: true. Condition: the table of rests as laid. -/
import Derived.Test.YtpfckamobjcdhabDoorSeal
namespace Go.Proofs.YtpfckamobjcdhabDoor
open Go.RowKit
def dig9 : List (BitVec 8) := [49, 50, 51, 52, 53, 54, 55, 56, 57]
theorem dig9_crc : N (crc 0#32 dig9) = 3421780262 := by decide +kernel
theorem freeze_new (w : World) (cs : Array Value) (e : TypeId) (n : Nat) : (w.alloc (.cells cs e)).freeze ⟨w.heap.size, n, none⟩ 1 = w.alloc (.cells cs e (n, n + 1)) := by
  have hm : ∀ (a : Array Obj) (x : Obj) (f : Obj → Obj), (a.push x).modify a.size f = a.push (f x) := by
    intro a x f
    apply Array.ext
    · simp
    · intro i h1 h2
      simp only [Array.getElem_modify, Array.getElem_push]
      by_cases h : a.size = i
      · subst h; simp
      · have hi : i < a.size := by simp at h1; omega
        simp [h, hi]
  unfold World.freeze
  rw [if_neg (by decide)]
  show ({ w.alloc (.cells cs e) with heap := (w.heap.push (.cells cs e)).modify w.heap.size _ } : World) = _
  rw [hm]
  rfl
/-- A byte slice's literal, converted to its own type: the block's end is marked. -/
theorem conv_new (w : World) (cs : Array Value) (n c : Nat) :
    (convert 43 43 (.slice (some ⟨w.heap.size, 0, none⟩) n c)).run Tryd.prog (w.alloc (.cells cs 5)) =
      .ok (.slice (some ⟨w.heap.size, 0, none⟩) n c) (w.alloc (.cells cs 5 (cs.size, cs.size + 1))) := by
  have hsh : (w.alloc (.cells cs 5)).shape? w.heap.size = some (5, cs.size) := by
    have : (w.alloc (.cells cs 5)).heap[w.heap.size]? = some (.cells cs 5) := heap_alloc_new _ _
    unfold World.shape?
    rw [this]
  have hfr := freeze_new w cs 5 cs.size
  simp [convert, run_underlying Tryd.underlying43, run_underlying Tryd.underlying5, markStringish, hsh, hfr]
theorem made_sees (w : World) (x : List (BitVec 8)) (cs : Array Value) (f : Nat × Nat) (hx : cs = (x.map u8v).toArray) :
    Sees (w.alloc (.cells cs 5 f)) (w.heap.size + 1) (some ⟨w.heap.size, 0, none⟩) (x.map u8v) := fun _ =>
  ⟨_, rfl, Nat.lt_succ_self _, fun j u hu => by
    rw [Addr.add_mid, Nat.zero_add]
    exact (cell_of_row _ w.heap.size j cs 5 f (heap_alloc_new w _)).trans (by rw [hx]; simpa using hu)⟩
set_option maxHeartbeats 1000000 in
theorem awake_any (w : World) (hR : Rests w) : Calls Tryd.prog 15 #[] w fun e w' => e = .returned (.bool true) ∧ Below w.heap.size w w' := by
  have h0 := hR.1
  obtain ⟨d, hd⟩ : ∃ d, d = dig9 := ⟨_, rfl⟩
  obtain ⟨W1, hW⟩ : ∃ W1, W1 = w.alloc (.cells #[.int .u8 49, .int .u8 50, .int .u8 51, .int .u8 52, .int .u8 53, .int .u8 54, .int .u8 55, .int .u8 56, .int .u8 57] 5 (9, 10)) := ⟨_, rfl⟩
  have hcv := conv_new w #[.int .u8 49, .int .u8 50, .int .u8 51, .int .u8 52, .int .u8 53, .int .u8 54, .int .u8 55, .int .u8 56, .int .u8 57] 9 9
  have hB : Below w.heap.size w W1 := by rw [hW]; exact (Below.refl _ _).alloc (Nat.le_refl _) _
  have hS : Sees W1 (w.heap.size + 1) (some ⟨w.heap.size, 0, none⟩) (d.map u8v) := by rw [hW, hd]; exact made_sees w dig9 _ (9, 10) rfl
  have hsz : W1.heap.size = w.heap.size + 1 := by rw [hW]; simp
  rw [← hsz] at hS
  rw [show (#[Value.int .u8 49, .int .u8 50, .int .u8 51, .int .u8 52, .int .u8 53, .int .u8 54, .int .u8 55, .int .u8 56, .int .u8 57] : Array Value).size = 9 from rfl, ← hW] at hcv
  have HD : Hid (d.length = 9) := Lib.hid (by rw [hd]; rfl)
  have HR1 := Lib.hid (hR.keep hB h0)
  have HSL := Lib.hid (sealL_length d)
  have h1 := seal_any d (some ⟨w.heap.size, 0, none⟩) 9 W1 hS (by rw [HD.out]; omega) (fun h => by cases h) (by rw [HD.out]; omega) HR1.out
  rw [HD.out] at h1
  have H1 := Lib.hid h1
  have HS := Lib.hid hS
  have HB := Lib.hid hB
  have HC : Hid (∀ w2 g, Has w2 g 43 [.slice (some ⟨w.heap.size, 0, none⟩) 9 9] → Below W1.heap.size W1 w2 → Calls Tryd.prog 16 #[.slice (some ⟨g, 0, none⟩) 1 1] w2 fun e w' => e = .returned (.int .u32 3421780262) ∧ w2 = w') := Lib.hid (by
    intro w2 g hg hb
    have := of_one d (some ⟨w.heap.size, 0, none⟩) 9 g w2 (by rw [HD.out]; exact hg) (by rw [HD.out]; omega) ((hS.keep hb).more hb.size) (by rw [HD.out]; omega) (HR1.out.keep hb (by omega))
    rw [hd, dig9_crc] at this
    exact this)
  have heq := strB_beq d d
  rw [decide_eq_true rfl] at heq
  clear h1 hS hB hd hR
  replace hW := Lib.hid hW
  have HZ := Lib.hid hsz
  clear hsz
  go_enter Tryd.func15, Tryd.ntmps15
  go_wp2_with fail
  clear hcv
  refine H1.out.mono ?_
  rintro e w2 ⟨v, rfl, ⟨q2, c2, rfl, hc2, hq2, hs2⟩, hb2⟩
  have h3 := open_any (sealL d) q2 c2 w2 hs2 hc2 hq2 (by rw [HSL.out, HD.out]; omega) (HR1.out.keep hb2 (by rw [HZ.out]; omega))
  unfold Opened at h3
  rw [opens_seal, openL_seal] at h3
  have H3 := Lib.hid h3
  have HB2 := Lib.hid hb2
  clear h3 hs2 hc2 hq2 hb2 H1
  go_wp2_with fail
  refine H3.out.mono ?_
  rintro e w3 ⟨v, rfl, ⟨q3, c3, rfl, hc3, hq3, hs3⟩, hb3⟩
  have HB3 := Lib.hid (HB2.out.trans (hb3.mono HB2.out.size))
  have HS3 := Lib.hid hs3
  have hB4 : Below W1.heap.size W1 (w3.alloc (.cells #[.slice (some ⟨w.heap.size, 0, none⟩) 9 9] 43)) := HB3.out.alloc HB3.out.size _
  have H4 := Lib.hid (HC.out (w3.alloc (.cells #[.slice (some ⟨w.heap.size, 0, none⟩) 9 9] 43)) w3.heap.size (Has.made' _ _ _ _ rfl) hB4)
  have s1 := str_run d q3 c3 _ _ (hs3.keep ((Below.refl w3.heap.size w3).alloc (Nat.le_refl _) (.cells #[.slice (some ⟨w.heap.size, 0, none⟩) 9 9] 43)))
  have s2 := str_run d (some ⟨w.heap.size, 0, none⟩) 9 _ _ (HS.out.keep hB4)
  rw [HD.out] at s1 s2
  rw [HD.out]
  have HB4 := Lib.hid (HB.out.trans (hB4.mono HB.out.size))
  clear hs3 hc3 hq3 hb3 hB4 H3 HB2 HC
  go_wp2_with ((with_reducible refine H4.out.mono ?_); rintro e w5 ⟨rfl, rfl⟩)
  go_ret
  exact ⟨rfl, HB4.out⟩
end Go.Proofs.YtpfckamobjcdhabDoor
