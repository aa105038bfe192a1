/- The walk of the law PolyKnown: it returns true, and writes nothing that was there. Condition: the table of rests as laid. -/
import Derived.Test.YtpfckamobjcdhabDoorAwake
namespace Go.Proofs.YtpfckamobjcdhabDoor
open Go.RowKit
def kx1 : List (BitVec 8) := [49, 50, 51, 52]
def kx2 : List (BitVec 8) := [53, 54, 55, 56, 57]
def kx0 : List (BitVec 8) := [0]
theorem joinN_crc (c : BitVec 32) (b : List (BitVec 8)) : joinN c (crc 0#32 b) (b.length : Int) = crc c b := by
  unfold joinN; rw [crc_join c b]; rfl
theorem of_two (a b : List (BitVec 8)) (q1 q2 : Option Addr) (c1 c2 g : Nat) (w : World) (hg : Has w g 43 [.slice q1 a.length c1, .slice q2 b.length c2])
    (h1 : a.length ≤ c1) (h2 : b.length ≤ c2) (s1 : Sees w w.heap.size q1 (a.map u8v)) (s2 : Sees w w.heap.size q2 (b.map u8v))
    (hl : a.length + b.length < 1099511627776) (hR : Rests w) :
    Calls Tryd.prog 16 #[.slice (some ⟨g, 0, none⟩) 2 2] w fun e w' => e = .returned (.int .u32 (N (crc 0#32 (a ++ b)))) ∧ w = w' := by
  have hP : Parts w w.heap.size (some ⟨g, 0, none⟩) [a, b] := by
    intro i hi
    have hi' : i = 0 ∨ i = 1 := by simp at hi; omega
    rcases hi' with rfl | rfl
    · exact ⟨_, q1, c1, rfl, hg.lt, (by simpa [Addr.add] using hg.cellv (i := 0) rfl), h1, s1⟩
    · exact ⟨_, q2, c2, rfl, hg.lt, (by simpa [Addr.add] using hg.cellv (i := 1) rfl), h2, s2⟩
  have := of_any [a, b] (some ⟨g, 0, none⟩) 2 w hP (by simp) (by simp; omega) hR
  rw [show ([a, b] : List (List (BitVec 8))).flatten = a ++ b by simp] at this
  exact this
/-- A literal's block, marked: the world behind '[]byte("..")'. -/
theorem lit_world (w : World) (x : List (BitVec 8)) (cs : Array Value) (n m : Nat) (hx : cs = (x.map u8v).toArray) (hn : cs.size = n) (hm : n + 1 = m) :
    ∃ W, (convert 43 43 (.slice (some ⟨w.heap.size, 0, none⟩) n n)).run Tryd.prog (w.alloc (.cells cs 5)) = .ok (.slice (some ⟨w.heap.size, 0, none⟩) n n) W ∧ Below w.heap.size w W ∧
      Sees W W.heap.size (some ⟨w.heap.size, 0, none⟩) (x.map u8v) := by
  subst hn hm
  refine ⟨_, conv_new w cs _ _, (Below.refl _ _).alloc (Nat.le_refl _) _, ?_⟩
  have := made_sees w x cs (cs.size, cs.size + 1) hx
  have hz : (w.alloc (.cells cs 5 (cs.size, cs.size + 1))).heap.size = w.heap.size + 1 := by simp
  rw [hz]; exact this
set_option maxHeartbeats 40000000 in
set_option maxRecDepth 100000 in
theorem known_any (w : World) (hR : Rests w) :
    Calls Tryd.prog 5 #[] w fun e w' => e = .returned (.bool true) ∧ Below w.heap.size w w' := by
  have h0 := hR.1
  have HA := Lib.hid (awake_any w hR)
  obtain ⟨A1, hA1⟩ : ∃ A1, A1 = crc 0#32 kx1 := ⟨_, rfl⟩
  obtain ⟨A2, hA2⟩ : ∃ A2, A2 = crc 0#32 kx2 := ⟨_, rfl⟩
  have eT : crc 0#32 (kx1 ++ kx2) = crc 0#32 dig9 := rfl
  have O2 : Hid (∀ W, Below w.heap.size w W → ∀ b1 b2 g, Has W g 43 [.slice (some ⟨b1, 0, none⟩) 4 4, .slice (some ⟨b2, 0, none⟩) 5 5] → Sees W W.heap.size (some ⟨b1, 0, none⟩) (kx1.map u8v) → Sees W W.heap.size (some ⟨b2, 0, none⟩) (kx2.map u8v) →
      Calls Tryd.prog 16 #[.slice (some ⟨g, 0, none⟩) 2 2] W fun e w' => e = .returned (.int .u32 3421780262) ∧ Below W.heap.size W w') := Lib.hid (fun W hb b1 b2 g hg s1 s2 => by
    have := of_two kx1 kx2 (some ⟨b1, 0, none⟩) (some ⟨b2, 0, none⟩) 4 5 g W hg (Nat.le_refl _) (Nat.le_refl _) s1 s2 (by decide) (hR.keep hb h0)
    rw [eT, dig9_crc] at this
    refine this.mono ?_
    rintro e w' ⟨rfl, rfl⟩
    exact ⟨rfl, Below.refl _ _⟩)
  have O1 : Hid (∀ W, Below w.heap.size w W → ∀ b g, Has W g 43 [.slice (some ⟨b, 0, none⟩) 4 4] → Sees W W.heap.size (some ⟨b, 0, none⟩) (kx1.map u8v) →
      Calls Tryd.prog 16 #[.slice (some ⟨g, 0, none⟩) 1 1] W fun e w' => e = .returned (.int .u32 (N A1)) ∧ Below W.heap.size W w') := Lib.hid (fun W hb b g hg s1 => by
    rw [hA1]
    refine (of_one kx1 (some ⟨b, 0, none⟩) 4 g W hg (Nat.le_refl _) s1 (by decide) (hR.keep hb h0)).mono ?_
    rintro e w' ⟨rfl, rfl⟩
    exact ⟨rfl, Below.refl _ _⟩)
  have O5 : Hid (∀ W, Below w.heap.size w W → ∀ b g, Has W g 43 [.slice (some ⟨b, 0, none⟩) 5 5] → Sees W W.heap.size (some ⟨b, 0, none⟩) (kx2.map u8v) →
      Calls Tryd.prog 16 #[.slice (some ⟨g, 0, none⟩) 1 1] W fun e w' => e = .returned (.int .u32 (N A2)) ∧ Below W.heap.size W w') := Lib.hid (fun W hb b g hg s1 => by
    rw [hA2]
    refine (of_one kx2 (some ⟨b, 0, none⟩) 5 g W hg (Nat.le_refl _) s1 (by decide) (hR.keep hb h0)).mono ?_
    rintro e w' ⟨rfl, rfl⟩
    exact ⟨rfl, Below.refl _ _⟩)
  have O0 : Hid (∀ W, Below w.heap.size w W → ∀ b g, Has W g 43 [.slice (some ⟨b, 0, none⟩) 1 1] → Sees W W.heap.size (some ⟨b, 0, none⟩) (kx0.map u8v) →
      Calls Tryd.prog 16 #[.slice (some ⟨g, 0, none⟩) 1 1] W fun e w' => e = .returned (.int .u32 3523407757) ∧ Below W.heap.size W w') := Lib.hid (fun W hb b g hg s1 => by
    have := of_one kx0 (some ⟨b, 0, none⟩) 1 g W hg (Nat.le_refl _) s1 (by decide) (hR.keep hb h0)
    rw [show N (crc 0#32 kx0) = 3523407757 by decide +kernel] at this
    refine this.mono ?_
    rintro e w' ⟨rfl, rfl⟩
    exact ⟨rfl, Below.refl _ _⟩)
  have ON : Hid (∀ W, Below w.heap.size w W → Calls Tryd.prog 16 #[.slice none 0 0] W fun e w' => e = .returned (.int .u32 0) ∧ Below W.heap.size W w') := Lib.hid (fun W hb => by
    have := of_any [] none 0 W (fun i hi => absurd hi (by simp)) (by simp) (by simp) (hR.keep hb h0)
    rw [List.flatten_nil, crc_nil] at this
    refine this.mono ?_
    rintro e w' ⟨rfl, rfl⟩
    exact ⟨rfl, Below.refl _ _⟩)
  have N1 : Hid (∀ W, Below w.heap.size w W → ∀ b, Sees W W.heap.size (some ⟨b, 0, none⟩) (kx2.map u8v) →
      Calls Tryd.prog 19 #[.int .u32 (N A1), .slice (some ⟨b, 0, none⟩) 5 5] W fun e w' => e = .returned (.int .u32 3421780262) ∧ Below W.heap.size W w') := Lib.hid (fun W hb b s1 => by
    have := on_any A1 kx2 (some ⟨b, 0, none⟩) 5 W s1 (by decide) (hR.keep hb h0)
    rw [hA1, ← crc_append, eT, dig9_crc] at this
    rw [hA1]
    refine this.mono ?_
    rintro e w' ⟨rfl, rfl⟩
    exact ⟨rfl, Below.refl _ _⟩)
  have J1 : Hid (∀ W, Below w.heap.size w W → Calls Tryd.prog 20 #[.int .u32 (N A1), .int .u32 (N A2), .int .i64 5] W fun e w' => e = .returned (.int .u32 3421780262) ∧ Below W.heap.size W w') := Lib.hid (fun W _ => by
    have := join_any A1 A2 ((kx2.length : Nat) : Int) (by decide) W
    rw [hA2, joinN_crc, hA1, ← crc_append, eT, dig9_crc] at this
    rw [hA1, hA2]
    refine this.mono ?_
    rintro e w' ⟨rfl, rfl⟩
    exact ⟨rfl, Below.refl _ _⟩)
  have J2 : Hid (∀ W, Below w.heap.size w W → Calls Tryd.prog 20 #[.int .u32 7, .int .u32 9, .int .i64 0] W fun e w' => e = .returned (.int .u32 14) ∧ Below W.heap.size W w') := Lib.hid (fun W _ => by
    refine (join_any 7#32 9#32 0 (by decide) W).mono ?_
    rintro e w' ⟨rfl, rfl⟩
    exact ⟨rfl, Below.refl _ _⟩)
  have J3 : Hid (∀ W, Below w.heap.size w W → Calls Tryd.prog 20 #[.int .u32 7, .int .u32 9, .int .i64 (-3)] W fun e w' => e = .returned (.int .u32 14) ∧ Below W.heap.size W w') := Lib.hid (fun W _ => by
    refine (join_any 7#32 9#32 (-3) (by decide) W).mono ?_
    rintro e w' ⟨rfl, rfl⟩
    exact ⟨rfl, Below.refl _ _⟩)
  have PN : Hid (∀ W, Below w.heap.size w W → Calls Tryd.prog 17 #[.slice none 0 0] W fun e w' => ∃ v, e = .returned (.tuple #[v, .bool false]) ∧ Below W.heap.size W w') := Lib.hid (fun W hb => by
    refine (open_any [] none 0 W (Sees.nil _ _ _) (Nat.le_refl _) (fun _ => rfl) (by decide) (hR.keep hb h0)).mono ?_
    rintro e w' ⟨v, rfl, _, h⟩
    exact ⟨v, rfl, h⟩)
  have PB : Hid (∀ (x : List (BitVec 8)) (n : Nat), x.length = n → n ≤ 4 → opens x = false → ∀ W, Below w.heap.size w W → ∀ b, Sees W W.heap.size (some ⟨b, 0, none⟩) (x.map u8v) → Calls Tryd.prog 17 #[.slice (some ⟨b, 0, none⟩) n n] W fun e w' => ∃ v, e = .returned (.tuple #[v, .bool false]) ∧ Below W.heap.size W w') := Lib.hid (fun x n hn h4 ho W hb b hs => by
    subst hn
    refine (open_any x (some ⟨b, 0, none⟩) x.length W hs (Nat.le_refl _) (fun h => by cases h) (by omega) (hR.keep hb h0)).mono ?_
    rintro e w' ⟨v, rfl, _, h⟩
    exact ⟨v, by rw [ho], h⟩)
  have PZ : Hid (∀ W, Below w.heap.size w W → ∀ b, Sees W W.heap.size (some ⟨b, 0, none⟩) (([0, 0, 0, 0] : List (BitVec 8)).map u8v) → Calls Tryd.prog 17 #[.slice (some ⟨b, 0, none⟩) 4 4] W fun e w' => ∃ q c, e = .returned (.tuple #[.slice q 0 c, .bool true]) ∧ Below W.heap.size W w') := Lib.hid (fun W hb b hs => by
    refine (open_any [0, 0, 0, 0] (some ⟨b, 0, none⟩) 4 W hs (Nat.le_refl _) (fun h => by cases h) (by decide) (hR.keep hb h0)).mono ?_
    rintro e w' ⟨v, rfl, ⟨q, c, rfl, _⟩, h⟩
    have e1 : opens [0, 0, 0, 0] = true := by decide +kernel
    have e2 : (openL [0, 0, 0, 0]).length = 0 := by decide +kernel
    exact ⟨q, c, by rw [e1, e2], h⟩)
  have PS : Hid (∀ W, Below w.heap.size w W → Calls Tryd.prog 18 #[.slice none 0 0] W fun e w' => ∃ q c, e = .returned (.slice q 4 c) ∧ Below W.heap.size W w') := Lib.hid (fun W hb => by
    refine (seal_any [] none 0 W (Sees.nil _ _ _) (Nat.le_refl _) (fun _ => rfl) (by decide) (hR.keep hb h0)).mono ?_
    rintro e w' ⟨v, rfl, ⟨q, c, rfl, _⟩, h⟩
    exact ⟨q, c, rfl, h⟩)
  have e123 : opens [1, 2, 3] = false := by decide +kernel
  have e0001 : opens [0, 0, 0, 1] = false := by decide +kernel
  have P3 := Lib.hid (PB.out [1, 2, 3] 3 rfl (by decide) e123)
  have P4 := Lib.hid (PB.out [0, 0, 0, 1] 4 rfl (by decide) e0001)
  have MS : Hid (∀ (W : World) (x : List (BitVec 8)) (cs : Array Value), cs = (x.map u8v).toArray → Sees (W.alloc (.cells cs 5)) (W.alloc (.cells cs 5)).heap.size (some ⟨W.heap.size, 0, none⟩) (x.map u8v)) := Lib.hid (fun W x cs h => Sees.of_has (Has.made' W 5 cs (x.map u8v) h) (by simp))
  clear e123 e0001 PB
  clear hR hA1 hA2 eT
  go_enter Tryd.func5, Tryd.ntmps5
  go_wp2_with fail
  refine HA.out.mono ?_
  rintro e w1 ⟨rfl, hb1⟩
  obtain ⟨W1, hW1⟩ : ∃ W1, W1 = w1.alloc (.cells #[.int .u8 49, .int .u8 50, .int .u8 51, .int .u8 52] 5 (4, 5)) := ⟨_, rfl⟩
  obtain ⟨W2, hW2⟩ : ∃ W2, W2 = W1.alloc (.cells #[.int .u8 53, .int .u8 54, .int .u8 55, .int .u8 56, .int .u8 57] 5 (5, 6)) := ⟨_, rfl⟩
  have hcv1 := conv_new w1 #[.int .u8 49, .int .u8 50, .int .u8 51, .int .u8 52] 4 4
  rw [show (#[.int .u8 49, .int .u8 50, .int .u8 51, .int .u8 52] : Array Value).size = 4 from rfl, ← hW1] at hcv1
  have hz1 : W1.heap.size = w1.heap.size + 1 := by rw [hW1]; simp
  have hcv2 := conv_new W1 #[.int .u8 53, .int .u8 54, .int .u8 55, .int .u8 56, .int .u8 57] 5 5
  rw [show (#[.int .u8 53, .int .u8 54, .int .u8 55, .int .u8 56, .int .u8 57] : Array Value).size = 5 from rfl, ← hW2] at hcv2
  have S1 : Sees W1 W1.heap.size (some ⟨w1.heap.size, 0, none⟩) (kx1.map u8v) := by rw [hz1, hW1]; exact made_sees w1 kx1 _ (4, 5) rfl
  have S2 : Sees W2 W2.heap.size (some ⟨W1.heap.size, 0, none⟩) (kx2.map u8v) := by
    have hz : W2.heap.size = W1.heap.size + 1 := by rw [hW2]; simp
    rw [hz, hW2]; exact made_sees W1 kx2 _ (5, 6) rfl
  have hB1 : Below w.heap.size w W1 := by rw [hW1]; exact hb1.alloc hb1.size _
  have hB2 : Below W1.heap.size W1 W2 := by rw [hW2]; exact (Below.refl _ _).alloc (Nat.le_refl _) _
  have hB3 : Below W2.heap.size W2 (W2.alloc (.cells #[.slice (some ⟨w1.heap.size, 0, none⟩) 4 4, .slice (some ⟨W1.heap.size, 0, none⟩) 5 5] 43)) := (Below.refl _ _).alloc (Nat.le_refl _) _
  have hB12 : Below w.heap.size w W2 := hB1.trans (hB2.mono hB1.size)
  have B3 := Lib.hid (hB12.trans (hB3.mono hB12.size))
  have C3 := Lib.hid (O2.out _ B3.out _ _ _ (Has.made' W2 43 _ _ rfl) (((S1.keep hB2).more hB2.size |>.keep hB3).more hB3.size) ((S2.keep hB3).more hB3.size))
  clear hW1 hW2 S1 S2 hB1 hB2 hB3 hB12 hb1 HA hz1 O2
  go_wp2_with fail
  refine C3.out.mono ?_
  rintro e w3 ⟨rfl, hb⟩
  have SC : Hid (Below w.heap.size w w3) := Lib.hid (B3.out.trans (hb.mono B3.out.size))
  clear hb hcv1 hcv2 C3 B3
  go_wp2_with fail
  (with_reducible refine (PN.out _ SC.out).mono ?_)
  rintro e w4 ⟨u4, rfl, hb⟩
  replace SC := Lib.hid (SC.out.trans (hb.mono SC.out.size))
  clear hb
  go_wp2_with fail
  have sc := Lib.hid (SC.out.alloc SC.out.size (.cells #[.int .u8 1, .int .u8 2, .int .u8 3] 5))
  (with_reducible refine (P3.out _ sc.out _ (MS.out _ [1, 2, 3] _ rfl)).mono ?_)
  rintro e w5 ⟨u5, rfl, hb⟩
  replace SC := Lib.hid (sc.out.trans (hb.mono sc.out.size))
  clear hb sc
  go_wp2_with fail
  have sc := Lib.hid (SC.out.alloc SC.out.size (.cells #[.int .u8 0, .int .u8 0, .int .u8 0, .int .u8 0] 5))
  (with_reducible refine (PZ.out _ sc.out _ (MS.out _ [0, 0, 0, 0] _ rfl)).mono ?_)
  rintro e w6 ⟨q6, c6, rfl, hb⟩
  replace SC := Lib.hid (sc.out.trans (hb.mono sc.out.size))
  clear hb sc
  go_wp2_with fail
  have sc := Lib.hid (SC.out.alloc SC.out.size (.cells #[.int .u8 0, .int .u8 0, .int .u8 0, .int .u8 1] 5))
  (with_reducible refine (P4.out _ sc.out _ (MS.out _ [0, 0, 0, 1] _ rfl)).mono ?_)
  rintro e w7 ⟨u7, rfl, hb⟩
  replace SC := Lib.hid (sc.out.trans (hb.mono sc.out.size))
  clear hb sc
  go_wp2_with fail
  (with_reducible refine (PS.out _ SC.out).mono ?_)
  rintro e w8 ⟨q8, c8, rfl, hb⟩
  replace SC := Lib.hid (SC.out.trans (hb.mono SC.out.size))
  clear hb PN P3 PZ P4 PS MS
  go_wp2_with (first
    | ((with_reducible refine (ON.out _ SC.out).mono ?_)
       rintro e v9 ⟨rfl, hb⟩
       replace SC := Lib.hid (SC.out.trans (hb.mono SC.out.size))
       clear hb
       obtain ⟨y1, hcvA, hy, hs⟩ := lit_world v9 kx1 #[.int .u8 49, .int .u8 50, .int .u8 51, .int .u8 52] 4 5 rfl rfl rfl
       have hb1 := SC.out.trans (hy.mono SC.out.size)
       have hb2 : Below y1.heap.size y1 (y1.alloc (.cells #[.slice (some ⟨v9.heap.size, 0, none⟩) 4 4] 43)) := (Below.refl _ _).alloc (Nat.le_refl _) _
       have SCA := Lib.hid (hb1.trans (hb2.mono hb1.size))
       have CA := Lib.hid (O1.out _ SCA.out _ _ (Has.made' y1 43 _ _ rfl) ((hs.keep hb2).more hb2.size))
       clear hy hs hb1 hb2
       clear SC)
    | ((with_reducible refine CA.out.mono ?_)
       rintro e v10 ⟨rfl, hb⟩
       have SC := Lib.hid (SCA.out.trans (hb.mono SCA.out.size))
       clear hb hcvA SCA CA
       obtain ⟨y2, hcvB, hy, hs⟩ := lit_world v10 kx2 #[.int .u8 53, .int .u8 54, .int .u8 55, .int .u8 56, .int .u8 57] 5 6 rfl rfl rfl
       have SCB := Lib.hid (SC.out.trans (hy.mono SC.out.size))
       have CB := Lib.hid (N1.out _ SCB.out _ hs)
       clear hy hs SC)
    | ((with_reducible refine CB.out.mono ?_)
       rintro e v11 ⟨rfl, hb⟩
       have SC := Lib.hid (SCB.out.trans (hb.mono SCB.out.size))
       clear hb hcvB SCB CB
       obtain ⟨y3, hcvC, hy, hs⟩ := lit_world v11 kx1 #[.int .u8 49, .int .u8 50, .int .u8 51, .int .u8 52] 4 5 rfl rfl rfl
       have hb1 := SC.out.trans (hy.mono SC.out.size)
       have hb2 : Below y3.heap.size y3 (y3.alloc (.cells #[.slice (some ⟨v11.heap.size, 0, none⟩) 4 4] 43)) := (Below.refl _ _).alloc (Nat.le_refl _) _
       have SCC := Lib.hid (hb1.trans (hb2.mono hb1.size))
       have CC := Lib.hid (O1.out _ SCC.out _ _ (Has.made' y3 43 _ _ rfl) ((hs.keep hb2).more hb2.size))
       clear hy hs hb1 hb2
       clear SC)
    | ((with_reducible refine CC.out.mono ?_)
       rintro e v12 ⟨rfl, hb⟩
       have SC := Lib.hid (SCC.out.trans (hb.mono SCC.out.size))
       clear hb hcvC SCC CC
       obtain ⟨y4, hcvD, hy, hs⟩ := lit_world v12 kx2 #[.int .u8 53, .int .u8 54, .int .u8 55, .int .u8 56, .int .u8 57] 5 6 rfl rfl rfl
       have hb1 := SC.out.trans (hy.mono SC.out.size)
       have hb2 : Below y4.heap.size y4 (y4.alloc (.cells #[.slice (some ⟨v12.heap.size, 0, none⟩) 5 5] 43)) := (Below.refl _ _).alloc (Nat.le_refl _) _
       have SCD := Lib.hid (hb1.trans (hb2.mono hb1.size))
       have CD := Lib.hid (O5.out _ SCD.out _ _ (Has.made' y4 43 _ _ rfl) ((hs.keep hb2).more hb2.size))
       clear hy hs hb1 hb2
       clear SC)
    | ((with_reducible refine CD.out.mono ?_)
       rintro e v13 ⟨rfl, hb⟩
       have SD := Lib.hid (SCD.out.trans (hb.mono SCD.out.size))
       clear hb hcvD SCD CD)
    | ((with_reducible refine (J1.out _ SD.out).mono ?_); rintro e v ⟨rfl, hb⟩; replace SD := Lib.hid (SD.out.trans (hb.mono SD.out.size)); clear hb)
    | ((with_reducible refine (J2.out _ SD.out).mono ?_); rintro e v ⟨rfl, hb⟩; replace SD := Lib.hid (SD.out.trans (hb.mono SD.out.size)); clear hb)
    | ((with_reducible refine (J3.out _ SD.out).mono ?_)
       rintro e v16 ⟨rfl, hb⟩
       have SE := Lib.hid (SD.out.trans (hb.mono SD.out.size))
       have hb1 : Below v16.heap.size v16 (v16.alloc (.cells #[.int .u8 0] 5)) := (Below.refl _ _).alloc (Nat.le_refl _) _
       have hs := Sees.of_has (Has.made' v16 5 #[.int .u8 0] (kx0.map u8v) rfl) (by simp : v16.heap.size < (v16.alloc (.cells #[.int .u8 0] 5)).heap.size)
       have hb2 : Below (v16.alloc (.cells #[.int .u8 0] 5)).heap.size (v16.alloc (.cells #[.int .u8 0] 5)) ((v16.alloc (.cells #[.int .u8 0] 5)).alloc (.cells #[.slice (some ⟨v16.heap.size, 0, none⟩) 1 1] 43)) := (Below.refl _ _).alloc (Nat.le_refl _) _
       have hb3 := SE.out.trans (hb1.mono SE.out.size)
       have SF := Lib.hid (hb3.trans (hb2.mono hb3.size))
       have CF := Lib.hid (O0.out _ SF.out v16.heap.size (v16.heap.size + 1) (Has.made1 _ _ _ _ _ rfl) ((hs.keep hb2).more hb2.size))
       clear hb SD hb1 hs hb2 hb3 SE)
    | ((with_reducible refine CF.out.mono ?_)
       rintro e v17 ⟨rfl, hb⟩
       have SG := Lib.hid (SF.out.trans (hb.mono SF.out.size))
       clear hb SF CF))
  go_ret
  exact ⟨rfl, SG.out⟩
end Go.Proofs.YtpfckamobjcdhabDoor
