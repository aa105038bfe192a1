/- The walk of the law NumKnown: it returns true. No condition. -/
import Derived.Test.YtgaphplndpdhaaaFoldN
import Derived.Test.YtgaphplndpdhaaaGetB
import Derived.Test.YtgaphplndpdhaaaOrg
namespace Go.Proofs.Ytgaphplndpdhaaa
open Go.RowKit
theorem str_ext {w : World} {x : List (BitVec 8)} {q : Option Addr} (c : Nat) (hs : Sees w w.heap.size q (x.map u8v)) (w' : World) (h : Ext w w') :
    (convert 23 9 (.slice q x.length c)).run Try.prog w' = .ok (.string (strB x)) w' := str_run x q c _ w' (hs.keep h)
def bad1 : List (BitVec 8) := [128]
def bad2 : List (BitVec 8) := [128, 0]
def bad3 : List (BitVec 8) := [255, 255, 255, 255, 255, 255, 255, 255, 255, 2]
def bad4 : List (BitVec 8) := [255, 255, 255, 255, 255, 255, 255, 255, 255, 129, 0]
def lit1 : List (BitVec 8) := [2, 7, 8, 9]
def lit2 : List (BitVec 8) := [2, 7, 8]
def lit3 : List (BitVec 8) := [2, 7]
def lit4 : List (BitVec 8) := [0]
theorem get_bad0 : getL [] = (0, 0, 3) := rfl
theorem get_bad1 : getL bad1 = (0, 0, 3) := by decide +kernel
theorem get_bad2 : getL bad2 = (0, 0, 2) := by decide +kernel
theorem get_bad3 : getL bad3 = (0, 0, 2) := by decide +kernel
theorem get_bad4 : getL bad4 = (0, 0, 2) := by decide +kernel
theorem gb_lit1 : gbL lit1 2 = ([7, 8], 3, 0) := by decide +kernel
theorem gb_lit2 : gbL lit2 1 = ([], 0, 2) := by decide +kernel
theorem gb_lit3 : gbL lit3 2 = ([], 0, 3) := by decide +kernel
theorem gb_lit4 : gbL lit4 (-1) = ([], 0, 2) := by decide +kernel
theorem len_top : (digs 18446744073709551615).length = 10 := by rw [← size_len _ (by omega)]; decide +kernel
theorem len_0 : (digs 0).length = 1 := by rw [← size_len _ (by omega)]; decide +kernel
theorem len_127 : (digs 127).length = 1 := by rw [← size_len _ (by omega)]; decide +kernel
theorem len_128 : (digs 128).length = 2 := by rw [← size_len _ (by omega)]; decide +kernel
theorem len_63 : (digs 9223372036854775808).length = 10 := by rw [← size_len _ (by omega)]; decide +kernel
theorem size_at (v n : Nat) (hv : v < 18446744073709551616) (hn : (digs v).length = n) (a b : Int) (ha : a = (v : Int)) (hb : b = (n : Int)) (w : World) :
    Calls Try.prog 11 #[.int .u64 a] w fun e w' => e = .returned (.int .i64 b) ∧ w = w' := by
  subst ha hb hn; exact size_any v w hv
theorem fold_at (v b : Int) (h0 : -9223372036854775808 ≤ v) (h1 : v ≤ 9223372036854775807) (hb : foldI v = b) (w : World) :
    Calls Try.prog 12 #[.int .i64 v] w fun e w' => e = .returned (.int .u64 b) ∧ w = w' := by
  subst hb; exact fold_any v w h0 h1
theorem open_at (v : Nat) (a b : Int) (hv : v < 18446744073709551616) (ha : a = (v : Int)) (hb : openI v = b) (w : World) :
    Calls Try.prog 13 #[.int .u64 a] w fun e w' => e = .returned (.int .i64 b) ∧ w = w' := by
  subst ha hb; exact open_any v w hv
/-- A slice of bytes that a literal has just made. -/
theorem lit_has {w : World} {g : Nat} {l : List (BitVec 8)} (h : Has w g 5 (l.map u8v)) : Sees w w.heap.size (some ⟨g, 0, none⟩) (l.map u8v) := Sees.of_has h h.lt
theorem Has.madeAt (w : World) (t : TypeId) (cs : Array Value) (l : List Value) (n : Nat) (hn : n = w.heap.size) (e : cs = l.toArray) : Has (w.alloc (.cells cs t)) n t l := by
  subst hn; exact Has.made' w t cs l e
theorem lit_call (l : List (BitVec 8)) (most : Int) (R : List (BitVec 8) × Nat × Nat) (n : Nat) (cs : Array Value) (hl : l.length = n) (hn : n ≤ 1000) (hc : cs = (l.map u8v).toArray) (h : gbL l most = R) (m0 : -9223372036854775808 ≤ most) (m1 : most ≤ 9223372036854775807) (w : World) :
    Calls Try.prog 10 #[.slice (some ⟨w.heap.size, 0, none⟩) n n, .int .i64 most] (w.alloc (.cells cs 5)) (GaveB (w.alloc (.cells cs 5)) R) := by
  subst hl hc h
  exact getBytes_any l _ _ most _ (lit_has (Has.made' w 5 _ _ rfl)) (Nat.le_refl _) (fun h => by cases h) (by omega) m0 m1
theorem sees_lit {w w' : World} {q : Option Addr} {l : List Value} {o : Obj} (hs : Sees w w.heap.size q l) (hb : Below (w.alloc o).heap.size (w.alloc o) w') : Sees w' w'.heap.size q l := by
  have h1 : Below w.heap.size w w' := ((Below.refl _ _).alloc (Nat.le_refl _) o).trans (hb.mono (by simp))
  exact (hs.keep h1).more h1.size
set_option maxHeartbeats 4000000 in
set_option maxRecDepth 100000 in
theorem nknown_any (w : World) : Calls Try.prog 3 #[] w fun e w' => e = .returned (.bool true) ∧ Below w.heap.size w w' := by
  have HA := Lib.hid (awake_any w)
  have hg := getL_digs 18446744073709551615 [] (by omega)
  rw [List.append_nil] at hg
  have H1 : ∀ w1, Calls Try.prog 8 #[.slice none 0 0, .int .u64 18446744073709551615] w1 (Gives w1 (digs 18446744073709551615)) := fun w1 => by
    have := put_any [] none 0 18446744073709551615 w1 (Sees.nil _ _ _) (fun _ => rfl) (by simp) (by omega)
    rw [List.nil_append] at this; exact this
  have hl := len_top
  generalize digs 18446744073709551615 = T at *
  have H2 : ∀ w1 q c, Sees w1 w1.heap.size q (T.map u8v) → Calls Try.prog 9 #[.slice q 10 c] w1 fun e w' => e = .returned (.tuple #[.int .u64 18446744073709551615, .int .i64 10, .int .i64 0]) ∧ w1 = w' := fun w1 q c hs => by
    have := get_any T q c w1 hs (by omega)
    rw [hg, hl] at this; exact this
  replace H1 := Lib.hid H1
  replace H2 := Lib.hid H2
  have HL := Lib.hid hl
  clear hg hl
  go_enter Try.func3, Try.ntmps3
  go_wp2_with fail
  refine HA.out.mono ?_
  rintro e w1 ⟨rfl, hb1⟩
  have HB1 := Lib.hid hb1
  clear hb1 HA
  go_wp2_with fail
  refine (H1.out _).mono ?_
  rintro e w2 ⟨s, rfl, ⟨q2, c2, rfl, hc2, hq2, hs2⟩, hb2⟩
  rw [HL.out]
  have HB2 := Lib.hid (HB1.out.trans (hb2.mono HB1.out.size))
  have HG := Lib.hid (H2.out w2 q2 c2 hs2)
  clear hc2 hq2 hs2 hb2 HB1 H1 H2 HL
  go_wp2_with fail
  refine HG.out.mono ?_
  rintro e w3 ⟨rfl, rfl⟩
  clear HG
  go_wp2_with fail
  generalize hW : World.alloc (World.alloc (World.alloc (World.alloc (World.alloc (World.alloc w2 _) _) _) _) _) _ = W
  have b1 : Has W w2.heap.size 5 (bad1.map u8v) := by rw [← hW]; exact (((((Has.madeAt _ _ _ (bad1.map u8v) _ (by simp) rfl).alloc _).alloc _).alloc _).alloc _).alloc _
  have b2 : Has W (w2.heap.size + 1) 5 (bad2.map u8v) := by rw [← hW]; exact ((((Has.madeAt _ _ _ (bad2.map u8v) _ (by simp) rfl).alloc _).alloc _).alloc _).alloc _
  have b3 : Has W (w2.heap.size + 1 + 1) 5 (bad3.map u8v) := by rw [← hW]; exact (((Has.madeAt _ _ _ (bad3.map u8v) _ (by simp) rfl).alloc _).alloc _).alloc _
  have b4 : Has W (w2.heap.size + 1 + 1 + 1) 5 (bad4.map u8v) := by rw [← hW]; exact ((Has.madeAt _ _ _ (bad4.map u8v) _ (by simp) rfl).alloc _).alloc _
  have b5 : Has W (w2.heap.size + 1 + 1 + 1 + 1) 23 [.slice none 0 0, .slice (some ⟨w2.heap.size, 0, none⟩) 1 1, .slice (some ⟨w2.heap.size + 1, 0, none⟩) 2 2, .slice (some ⟨w2.heap.size + 1 + 1, 0, none⟩) 10 10, .slice (some ⟨w2.heap.size + 1 + 1 + 1, 0, none⟩) 11 11] := by rw [← hW]; exact (Has.madeAt _ _ _ _ _ (by simp) rfl).alloc _
  have b6 : Has W (w2.heap.size + 1 + 1 + 1 + 1 + 1) 26 [.int .i64 3, .int .i64 3, .int .i64 2, .int .i64 2, .int .i64 2] := by rw [← hW]; exact Has.madeAt _ _ _ _ _ (by simp) rfl
  have hBW : Below w2.heap.size w2 W := by rw [← hW]; exact ((((((Below.refl _ _).alloc (Nat.le_refl _) _).alloc (by simp) _).alloc (by simp; omega) _).alloc (by simp; omega) _).alloc (by simp; omega) _).alloc (by simp; omega) _
  clear hW
  have C0 := get_any [] none 0 W (Sees.nil _ _ _) (by simp)
  have C1 := get_any bad1 (some ⟨w2.heap.size, 0, none⟩) 1 W (lit_has b1) (by decide)
  have C2 := get_any bad2 (some ⟨w2.heap.size + 1, 0, none⟩) 2 W (lit_has b2) (by decide)
  have C3 := get_any bad3 (some ⟨w2.heap.size + 1 + 1, 0, none⟩) 10 W (lit_has b3) (by decide)
  have C4 := get_any bad4 (some ⟨w2.heap.size + 1 + 1 + 1, 0, none⟩) 11 W (lit_has b4) (by decide)
  rw [get_bad0] at C0
  rw [get_bad1] at C1
  rw [get_bad2] at C2
  rw [get_bad3] at C3
  rw [get_bad4] at C4
  replace C0 : Hid (Calls Try.prog 9 #[.slice none 0 0] W fun e w' => e = .returned (.tuple #[.int .u64 0, .int .i64 0, .int .i64 3]) ∧ W = w') := Lib.hid C0
  replace C1 : Hid (Calls Try.prog 9 #[.slice (some ⟨w2.heap.size, 0, none⟩) 1 1] W fun e w' => e = .returned (.tuple #[.int .u64 0, .int .i64 0, .int .i64 3]) ∧ W = w') := Lib.hid C1
  replace C2 : Hid (Calls Try.prog 9 #[.slice (some ⟨w2.heap.size + 1, 0, none⟩) 2 2] W fun e w' => e = .returned (.tuple #[.int .u64 0, .int .i64 0, .int .i64 2]) ∧ W = w') := Lib.hid C2
  replace C3 : Hid (Calls Try.prog 9 #[.slice (some ⟨w2.heap.size + 1 + 1, 0, none⟩) 10 10] W fun e w' => e = .returned (.tuple #[.int .u64 0, .int .i64 0, .int .i64 2]) ∧ W = w') := Lib.hid C3
  replace C4 : Hid (Calls Try.prog 9 #[.slice (some ⟨w2.heap.size + 1 + 1 + 1, 0, none⟩) 11 11] W fun e w' => e = .returned (.tuple #[.int .u64 0, .int .i64 0, .int .i64 2]) ∧ W = w') := Lib.hid C4
  have HBW := Lib.hid (HB2.out.trans (hBW.mono HB2.out.size))
  have H5 := Lib.hid b5
  have H6 := Lib.hid b6
  clear b1 b2 b3 b4 b5 b6 hBW HB2
  generalize w2.heap.size = g at *
  go_loop [7] (fun vi => vi = .int .i64 0 ∨ vi = .int .i64 1 ∨ vi = .int .i64 2 ∨ vi = .int .i64 3 ∨ vi = .int .i64 4 ∨ vi = .int .i64 5) (fun vi => 5 - (intOf vi).toNat)
  case atStart => exact .inl rfl
  case round =>
    rcases hrel with rfl | rfl | rfl | rfl | rfl | rfl
    · have d1 := H5.out.cellv (i := 0) rfl
      have d2 := H6.out.cellv (i := 0) rfl
      go_wp2_with ((with_reducible refine C0.out.mono ?_); rintro e w9 ⟨rfl, rfl⟩)
      go_round
      case rel => simp
      case measure => simp [intOf]
    · have d1 := H5.out.cellv (i := 1) rfl
      have d2 := H6.out.cellv (i := 1) rfl
      go_wp2_with ((with_reducible refine C1.out.mono ?_); rintro e w9 ⟨rfl, rfl⟩)
      go_round
      case rel => simp
      case measure => simp [intOf]
    · have d1 := H5.out.cellv (i := 2) rfl
      have d2 := H6.out.cellv (i := 2) rfl
      go_wp2_with ((with_reducible refine C2.out.mono ?_); rintro e w9 ⟨rfl, rfl⟩)
      go_round
      case rel => simp
      case measure => simp [intOf]
    · have d1 := H5.out.cellv (i := 3) rfl
      have d2 := H6.out.cellv (i := 3) rfl
      go_wp2_with ((with_reducible refine C3.out.mono ?_); rintro e w9 ⟨rfl, rfl⟩)
      go_round
      case rel => simp
      case measure => simp [intOf]
    · have d1 := H5.out.cellv (i := 4) rfl
      have d2 := H6.out.cellv (i := 4) rfl
      go_wp2_with ((with_reducible refine C4.out.mono ?_); rintro e w9 ⟨rfl, rfl⟩)
      go_round
      case rel => simp
      case measure => simp [intOf]
    · have L1 := Lib.hid (fun w1 => lit_call lit1 2 ([7, 8], 3, 0) 4 #[.int .u8 2, .int .u8 7, .int .u8 8, .int .u8 9] rfl (by omega) rfl gb_lit1 (by omega) (by omega) w1)
      have L2 := Lib.hid (fun w1 => lit_call lit2 1 ([], 0, 2) 3 #[.int .u8 2, .int .u8 7, .int .u8 8] rfl (by omega) rfl gb_lit2 (by omega) (by omega) w1)
      have L3 := Lib.hid (fun w1 => lit_call lit3 2 ([], 0, 3) 2 #[.int .u8 2, .int .u8 7] rfl (by omega) rfl gb_lit3 (by omega) (by omega) w1)
      have L4 := Lib.hid (fun w1 => lit_call lit4 (-1) ([], 0, 2) 1 #[.int .u8 0] rfl (by omega) rfl gb_lit4 (by omega) (by omega) w1)
      clear C0 C1 C2 C3 C4 H5 H6
      go_wp2_with fail
      refine (L1.out _).mono ?_
      rintro e w4 ⟨s, rfl, ⟨q4, c4, rfl, _, _, hs4⟩, hb4⟩
      have HB4 := Lib.hid ((HBW.out.alloc HBW.out.size _).trans (hb4.mono (by have := HBW.out.size; simp; omega)))
      have HS4 := Lib.hid hs4
      clear hs4 hb4 L1 HBW
      go_wp2_with fail
      refine (L2.out _).mono ?_
      rintro e w5 ⟨s, rfl, ⟨q5, c5, rfl, _, _, _⟩, hb5⟩
      have HB5 := Lib.hid ((HB4.out.alloc HB4.out.size _).trans (hb5.mono (by have := HB4.out.size; simp; omega)))
      have HS5 := Lib.hid (sees_lit HS4.out hb5)
      clear hb5 L2 HB4 HS4
      go_wp2_with fail
      refine (L3.out _).mono ?_
      rintro e w6 ⟨s, rfl, ⟨q6, c6, rfl, _, _, _⟩, hb6⟩
      have HB6 := Lib.hid ((HB5.out.alloc HB5.out.size _).trans (hb6.mono (by have := HB5.out.size; simp; omega)))
      have HS6 := Lib.hid (sees_lit HS5.out hb6)
      clear hb6 L3 HB5 HS5
      go_wp2_with fail
      refine (L4.out _).mono ?_
      rintro e w7 ⟨s, rfl, ⟨q7, c7, rfl, _, _, _⟩, hb7⟩
      have HB7 := Lib.hid ((HB6.out.alloc HB6.out.size _).trans (hb7.mono (by have := HB6.out.size; simp; omega)))
      have HS7 := Lib.hid (sees_lit HS6.out hb7)
      clear hb7 L4 HB6 HS6
      have Z0 := Lib.hid (size_at 0 1 (by omega) len_0 0 1 rfl rfl)
      have Z1 := Lib.hid (size_at 127 1 (by omega) len_127 127 1 rfl rfl)
      have Z2 := Lib.hid (size_at 128 2 (by omega) len_128 128 2 rfl rfl)
      have Z3 := Lib.hid (size_at 9223372036854775808 10 (by omega) len_63 9223372036854775808 10 rfl rfl)
      have F1 := Lib.hid (fold_at (-1) 1 (by omega) (by omega) rfl)
      have F2 := Lib.hid (fold_at 1 2 (by omega) (by omega) rfl)
      have F3 := Lib.hid (fold_at (-9223372036854775808) 18446744073709551615 (by omega) (by omega) (by decide +kernel))
      have O1 := Lib.hid (open_at 18446744073709551615 18446744073709551615 (-9223372036854775808) (by omega) rfl (by decide +kernel))
      have O2 := Lib.hid (open_at 4 4 2 (by omega) rfl (by decide +kernel))
      have hcv : (convert 23 9 (.slice q4 2 c4)).run Try.prog w7 = .ok (.string ⟨#[7, 8]⟩) w7 := str_run [7, 8] q4 c4 _ w7 HS7.out
      clear HS7
      go_wp2_with (first | ((with_reducible refine (Z0.out _).mono ?_); rintro e w9 ⟨rfl, rfl⟩) | ((with_reducible refine (Z1.out _).mono ?_); rintro e w9 ⟨rfl, rfl⟩) | ((with_reducible refine (Z2.out _).mono ?_); rintro e w9 ⟨rfl, rfl⟩) | ((with_reducible refine (Z3.out _).mono ?_); rintro e w9 ⟨rfl, rfl⟩) | ((with_reducible refine (F1.out _).mono ?_); rintro e w9 ⟨rfl, rfl⟩) | ((with_reducible refine (F2.out _).mono ?_); rintro e w9 ⟨rfl, rfl⟩) | ((with_reducible refine (F3.out _).mono ?_); rintro e w9 ⟨rfl, rfl⟩) | ((with_reducible refine (O1.out _).mono ?_); rintro e w9 ⟨rfl, rfl⟩) | ((with_reducible refine (O2.out _).mono ?_); rintro e w9 ⟨rfl, rfl⟩))
      go_ret
      exact ⟨rfl, HB7.out⟩
end Go.Proofs.Ytgaphplndpdhaaa
