/- The walk of the law PolyJoins: it returns true, and writes nothing that was there. Conditions: the table of rests as laid; the arguments read as lists of bytes. -/
import Derived.Test.YtpfckamobjcdhacDoorAwake
namespace Go.Proofs.YtpfckamobjcdhacDoor
open Go.RowKit
theorem joinN_crc (c : BitVec 32) (b : List (BitVec 8)) : joinN c (crc 0#32 b) (b.length : Int) = crc c b := by
  unfold joinN; rw [crc_join c b]; rfl
/-- Slice values that read as lists of bytes, laid in older memory. -/
theorem of_three (a b c : List (BitVec 8)) (q1 q2 q3 : Option Addr) (c1 c2 c3 g : Nat) (w : World) (hg : Has w g 22 [.slice q1 a.length c1, .slice q2 b.length c2, .slice q3 c.length c3])
    (h1 : a.length ≤ c1) (h2 : b.length ≤ c2) (h3 : c.length ≤ c3) (s1 : Sees w w.heap.size q1 (a.map u8v)) (s2 : Sees w w.heap.size q2 (b.map u8v)) (s3 : Sees w w.heap.size q3 (c.map u8v))
    (hl : a.length + b.length + c.length < 1099511627776) (hR : Rests w) :
    Calls Tryd.prog 6 #[.slice (some ⟨g, 0, none⟩) 3 3] w fun e w' => e = .returned (.int .u32 (N (crc 0#32 (a ++ (b ++ c))))) ∧ w = w' := by
  have hP : Parts w w.heap.size (some ⟨g, 0, none⟩) [a, b, c] := by
    intro i hi
    have hi' : i = 0 ∨ i = 1 ∨ i = 2 := by simp at hi; omega
    rcases hi' with rfl | rfl | rfl
    · exact ⟨_, q1, c1, rfl, hg.lt, (by simpa [Addr.add] using hg.cellv (i := 0) rfl), h1, s1⟩
    · exact ⟨_, q2, c2, rfl, hg.lt, (by simpa [Addr.add] using hg.cellv (i := 1) rfl), h2, s2⟩
    · exact ⟨_, q3, c3, rfl, hg.lt, (by simpa [Addr.add] using hg.cellv (i := 2) rfl), h3, s3⟩
  have := of_any [a, b, c] (some ⟨g, 0, none⟩) 3 w hP (by simp) (by simp; omega) hR
  rw [show ([a, b, c] : List (List (BitVec 8))).flatten = a ++ (b ++ c) by simp] at this
  exact this
set_option maxHeartbeats 2000000 in
theorem joins_any (a b c : List (BitVec 8)) (q1 q2 q3 : Option Addr) (c1 c2 c3 : Nat) (w : World) (s1 : Sees w w.heap.size q1 (a.map u8v)) (s2 : Sees w w.heap.size q2 (b.map u8v)) (s3 : Sees w w.heap.size q3 (c.map u8v))
    (h1 : a.length ≤ c1) (h2 : b.length ≤ c2) (h3 : c.length ≤ c3) (m1 : a.length ≤ maxLen) (m2 : b.length ≤ maxLen) (m3 : c.length ≤ maxLen) (hR : Rests w) :
    Calls Tryd.prog 3 #[.slice q1 a.length c1, .slice q2 b.length c2, .slice q3 c.length c3] w fun e w' => e = .returned (.bool true) ∧ Below w.heap.size w w' := by
  unfold maxLen at m1 m2 m3
  have h0 := hR.1
  have HA := Lib.hid (awake_any w hR)
  by_cases l1 : 1000 < a.length
  · have k1 : (1000 : Int) < (a.length : Int) := by omega
    clear s1 s2 s3 h1 h2 h3 hR l1
    go_enter Tryd.func3, Tryd.ntmps3
    go_wp2_with ((with_reducible refine HA.out.mono ?_); rintro e w1 ⟨rfl, hb1⟩)
    go_ret
    exact ⟨rfl, hb1⟩
  have k1 : ¬ (1000 : Int) < (a.length : Int) := by omega
  by_cases l2 : 1000 < b.length
  · have k2 : (1000 : Int) < (b.length : Int) := by omega
    clear s1 s2 s3 h1 h2 h3 hR l1 l2
    go_enter Tryd.func3, Tryd.ntmps3
    go_wp2_with ((with_reducible refine HA.out.mono ?_); rintro e w1 ⟨rfl, hb1⟩)
    go_ret
    exact ⟨rfl, hb1⟩
  have k2 : ¬ (1000 : Int) < (b.length : Int) := by omega
  by_cases l3 : 1000 < c.length
  · have k3 : (1000 : Int) < (c.length : Int) := by omega
    clear s1 s2 s3 h1 h2 h3 hR l1 l2 l3
    go_enter Tryd.func3, Tryd.ntmps3
    go_wp2_with ((with_reducible refine HA.out.mono ?_); rintro e w1 ⟨rfl, hb1⟩)
    go_ret
    exact ⟨rfl, hb1⟩
  have k3 : ¬ (1000 : Int) < (c.length : Int) := by omega
  obtain ⟨X, hX⟩ : ∃ X, X = crc 0#32 a := ⟨_, rfl⟩
  obtain ⟨Y, hY⟩ : ∃ Y, Y = crc 0#32 b := ⟨_, rfl⟩
  obtain ⟨Z, hZ⟩ : ∃ Z, Z = crc 0#32 c := ⟨_, rfl⟩
  obtain ⟨U, hU⟩ : ∃ U, U = crc 0#32 (a ++ b) := ⟨_, rfl⟩
  obtain ⟨V, hV⟩ : ∃ V, V = crc 0#32 (b ++ c) := ⟨_, rfl⟩
  obtain ⟨T, hT⟩ : ∃ T, T = crc 0#32 (a ++ (b ++ c)) := ⟨_, rfl⟩
  have eU : crc X b = U := by rw [hX, hU, crc_append]
  have eT : crc U c = T := by rw [hU, hT, ← List.append_assoc, crc_append 0#32 (a ++ b)]
  have J1 := Lib.hid (join_any X Y b.length (by omega))
  have J2 := Lib.hid (join_any U Z c.length (by omega))
  have J3 := Lib.hid (join_any Y Z c.length (by omega))
  have J4 := Lib.hid (join_any X V ((b.length : Int) + (c.length : Int)) (by omega))
  rw [show joinN X Y b.length = U by rw [hY, joinN_crc, eU]] at J1
  rw [show joinN U Z c.length = T by rw [hZ, joinN_crc, eT]] at J2
  rw [show joinN Y Z c.length = V by rw [hZ, joinN_crc, hY, hV, crc_append]] at J3
  rw [show joinN X V ((b.length : Int) + (c.length : Int)) = T by rw [hV, show (b.length : Int) + (c.length : Int) = ((b ++ c).length : Int) by simp, joinN_crc, hX, hT, crc_append 0#32 a (b ++ c)]] at J4
  have O1 : Hid (∀ w1 g, Has w1 g 22 [.slice q1 a.length c1] → Below w.heap.size w w1 → Calls Tryd.prog 6 #[.slice (some ⟨g, 0, none⟩) 1 1] w1 fun e w' => e = .returned (.int .u32 (N X)) ∧ w1 = w') := Lib.hid (by
    intro w1 g hg hb; rw [hX]; exact of_one a q1 c1 g w1 hg h1 ((s1.keep hb).more hb.size) (by omega) (hR.keep hb h0))
  have O2 : Hid (∀ w1 g, Has w1 g 22 [.slice q2 b.length c2] → Below w.heap.size w w1 → Calls Tryd.prog 6 #[.slice (some ⟨g, 0, none⟩) 1 1] w1 fun e w' => e = .returned (.int .u32 (N Y)) ∧ w1 = w') := Lib.hid (by
    intro w1 g hg hb; rw [hY]; exact of_one b q2 c2 g w1 hg h2 ((s2.keep hb).more hb.size) (by omega) (hR.keep hb h0))
  have O3 : Hid (∀ w1 g, Has w1 g 22 [.slice q3 c.length c3] → Below w.heap.size w w1 → Calls Tryd.prog 6 #[.slice (some ⟨g, 0, none⟩) 1 1] w1 fun e w' => e = .returned (.int .u32 (N Z)) ∧ w1 = w') := Lib.hid (by
    intro w1 g hg hb; rw [hZ]; exact of_one c q3 c3 g w1 hg h3 ((s3.keep hb).more hb.size) (by omega) (hR.keep hb h0))
  have O4 : Hid (∀ w1 g, Has w1 g 22 [.slice q1 a.length c1, .slice q2 b.length c2, .slice q3 c.length c3] → Below w.heap.size w w1 → Calls Tryd.prog 6 #[.slice (some ⟨g, 0, none⟩) 3 3] w1 fun e w' => e = .returned (.int .u32 (N T)) ∧ w1 = w') := Lib.hid (by
    intro w1 g hg hb; rw [hT]
    exact of_three a b c q1 q2 q3 c1 c2 c3 g w1 hg h1 h2 h3 ((s1.keep hb).more hb.size) ((s2.keep hb).more hb.size) ((s3.keep hb).more hb.size) (by omega) (hR.keep hb h0))
  have N1 : Hid (∀ w1, Below w.heap.size w w1 → Calls Tryd.prog 8 #[.int .u32 (N X), .slice q2 b.length c2] w1 fun e w' => e = .returned (.int .u32 (N U)) ∧ w1 = w') := Lib.hid (by
    intro w1 hb; rw [← eU]; exact on_any X b q2 c2 w1 ((s2.keep hb).more hb.size) (by omega) (hR.keep hb h0))
  have N2 : Hid (∀ w1, Below w.heap.size w w1 → Calls Tryd.prog 8 #[.int .u32 (N U), .slice q3 c.length c3] w1 fun e w' => e = .returned (.int .u32 (N T)) ∧ w1 = w') := Lib.hid (by
    intro w1 hb; rw [← eT]; exact on_any U c q3 c3 w1 ((s3.keep hb).more hb.size) (by omega) (hR.keep hb h0))
  clear s1 s2 s3 h1 h2 h3 hR hX hY hZ hU hV hT eU eT
  go_enter Tryd.func3, Tryd.ntmps3
  go_wp2_with fail
  refine HA.out.mono ?_
  rintro e w1 ⟨rfl, hb1⟩
  have HB1 := Lib.hid hb1
  clear hb1 HA
  go_wp2_with fail
  have B2 : Hid (Below w.heap.size w (w1.alloc (.cells #[.slice q1 a.length c1] 22))) := Lib.hid (HB1.out.alloc HB1.out.size _)
  refine (O1.out _ _ (Has.made' _ _ _ _ rfl) B2.out).mono ?_
  rintro e w2 ⟨rfl, rfl⟩
  generalize w1.alloc (.cells #[.slice q1 a.length c1] 22) = w2 at *
  go_wp2_with fail
  have B3 : Hid (Below w.heap.size w (w2.alloc (.cells #[.slice q2 b.length c2] 22))) := Lib.hid (B2.out.alloc B2.out.size _)
  refine (O2.out _ _ (Has.made' _ _ _ _ rfl) B3.out).mono ?_
  rintro e w3 ⟨rfl, rfl⟩
  generalize w2.alloc (.cells #[.slice q2 b.length c2] 22) = w3 at *
  go_wp2_with fail
  have B4 : Hid (Below w.heap.size w (w3.alloc (.cells #[.slice q3 c.length c3] 22))) := Lib.hid (B3.out.alloc B3.out.size _)
  refine (O3.out _ _ (Has.made' _ _ _ _ rfl) B4.out).mono ?_
  rintro e w4 ⟨rfl, rfl⟩
  generalize w3.alloc (.cells #[.slice q3 c.length c3] 22) = w4 at *
  have B5 : Hid (Below w.heap.size w (w4.alloc (.cells #[.slice q1 a.length c1, .slice q2 b.length c2, .slice q3 c.length c3] 22))) := Lib.hid (B4.out.alloc B4.out.size _)
  have P5 := Lib.hid (O4.out (w4.alloc (.cells #[.slice q1 a.length c1, .slice q2 b.length c2, .slice q3 c.length c3] 22)) w4.heap.size (Has.made' _ _ _ _ rfl) B5.out)
  have Q5 := Lib.hid (N1.out _ B5.out)
  have R5 := Lib.hid (N2.out _ B5.out)
  have B6 : Hid (Below w.heap.size w ((w4.alloc (.cells #[.slice q1 a.length c1, .slice q2 b.length c2, .slice q3 c.length c3] 22)).alloc (.cells #[.slice q1 a.length c1, .slice q2 b.length c2, .slice q3 c.length c3] 22))) := Lib.hid (B5.out.alloc B5.out.size _)
  have P6 : Hid (Calls Tryd.prog 6 #[.slice (some ⟨w4.heap.size + 1, 0, none⟩) 3 3] ((w4.alloc (.cells #[.slice q1 a.length c1, .slice q2 b.length c2, .slice q3 c.length c3] 22)).alloc (.cells #[.slice q1 a.length c1, .slice q2 b.length c2, .slice q3 c.length c3] 22)) fun e w' => e = .returned (.int .u32 (N T)) ∧ ((w4.alloc (.cells #[.slice q1 a.length c1, .slice q2 b.length c2, .slice q3 c.length c3] 22)).alloc (.cells #[.slice q1 a.length c1, .slice q2 b.length c2, .slice q3 c.length c3] 22)) = w') :=
    Lib.hid (O4.out _ (w4.heap.size + 1) (Has.made1 _ _ _ _ _ rfl) B6.out)
  clear O1 O2 O3 O4 N1 N2 B2 B3 HB1
  go_wp2_with (first
    | ((with_reducible refine (J1.out _).mono ?_); rintro e v ⟨rfl, rfl⟩)
    | ((with_reducible refine (J2.out _).mono ?_); rintro e v ⟨rfl, rfl⟩)
    | ((with_reducible refine (J3.out _).mono ?_); rintro e v ⟨rfl, rfl⟩)
    | ((with_reducible refine (J4.out _).mono ?_); rintro e v ⟨rfl, rfl⟩)
    | ((with_reducible refine P5.out.mono ?_); rintro e v ⟨rfl, rfl⟩)
    | ((with_reducible refine P6.out.mono ?_); rintro e v ⟨rfl, rfl⟩)
    | ((with_reducible refine Q5.out.mono ?_); rintro e v ⟨rfl, rfl⟩)
    | ((with_reducible refine R5.out.mono ?_); rintro e v ⟨rfl, rfl⟩))
  go_ret
  exact ⟨rfl, B6.out⟩
end Go.Proofs.YtpfckamobjcdhacDoor
