/- The walk of the law RollKnown: it returns true. No condition. -/
import Derived.Test.YtaeoaaajkcnbkaaSlides
namespace Go.Proofs.Ytaeoaaajkcnbkaa
open Go.RowKit
theorem add_at (g n : Nat) (H : List (BitVec 8)) (c : BitVec 8) (s : Nat) (u z : Int) (h1 : 1 ≤ n) (h2 : n ≤ 64) (hs : rsum (lastN n (H ++ [c])) = s) (hu : u = B c) (hz : z = (s : Int)) (w : World) (h : WinAt w g n H) :
    Calls Try.prog 10 #[.pointer (some ⟨g, 0, none⟩), .int .u8 u] w fun e w' => e = .returned (.int .u64 z) ∧ WinAt w' g n (H ++ [c]) ∧ Only g w w' := by
  subst hs hu hz; exact add_any w g n H c h1 h2 h
theorem new_at (n : Int) (m : Nat) (hm : hw n = m) (w : World) :
    Calls Try.prog 9 #[.int .i64 n] w fun e w' => e = .returned (.pointer (some ⟨w.heap.size, 0, none⟩)) ∧ WinAt w' w.heap.size m [] ∧ Below w.heap.size w w' ∧ w'.heap.size = w.heap.size + 1 := by
  subst hm; exact new_any n w
theorem len_at (g n : Nat) (H : List (BitVec 8)) (z : Int) (hz : z = ((min H.length n : Nat) : Int)) (w : World) (h : WinAt w g n H) :
    Calls Try.prog 12 #[.pointer (some ⟨g, 0, none⟩)] w fun e w' => e = .returned (.int .i64 z) ∧ w = w' := by
  subst hz; exact len_any w g n H h
theorem sum_at (g n : Nat) (H : List (BitVec 8)) (s : Nat) (z : Int) (hs : rsum (lastN n H) = s) (hz : z = (s : Int)) (w : World) (h : WinAt w g n H) :
    Calls Try.prog 11 #[.pointer (some ⟨g, 0, none⟩)] w fun e w' => e = .returned (.int .u64 z) ∧ w = w' := by
  subst hs hz; exact sum_any w g n H h
theorem slide_at (s : Nat) (o i : BitVec 8) (n : Int) (m r : Nat) (a b c z : Int) (hm : hw n = m) (hr : sl s o i m = r) (ha : a = (s : Int)) (hb : b = B o) (hc : c = B i) (hz : z = (r : Int)) (w : World) :
    Calls Try.prog 15 #[.int .u64 a, .int .u8 b, .int .u8 c, .int .i64 n] w fun e w' => e = .returned (.int .u64 z) ∧ w = w' := by
  subst hm hr ha hb hc hz; exact slide_any s o i n w
def hun (k : Nat) : List (BitVec 8) := (List.range k).map (BitVec.ofNat 8)
theorem hun_succ (k : Nat) : hun (k + 1) = hun k ++ [BitVec.ofNat 8 k] := by unfold hun; rw [List.range_succ, List.map_append]; rfl
theorem hun_len (k : Nat) : (hun k).length = k := by simp [hun]
/-- Where the three windows are. -/
structure Tri (w : World) (a b c : Nat) (x y z : List (BitVec 8)) (v : World) : Prop where
  ab : a < b
  bc : b < c
  wa : w.heap.size ≤ a
  x : WinAt v a 2 x
  y : WinAt v b 1 y
  z : WinAt v c 64 z
  bel : Below w.heap.size w v
theorem Tri.onA {w v v' : World} {a b c : Nat} {x y z x' : List (BitVec 8)} (t : Tri w a b c x y z v) (h : WinAt v' a 2 x') (o : Only a v v') : Tri w a b c x' y z v' :=
  ⟨t.ab, t.bc, t.wa, h, t.y.only o (by have := t.ab; omega), t.z.only o (by have := t.ab; have := t.bc; omega), t.bel.trans (o.below.mono t.wa)⟩
theorem Tri.onB {w v v' : World} {a b c : Nat} {x y z x' : List (BitVec 8)} (t : Tri w a b c x y z v) (h : WinAt v' b 1 x') (o : Only b v v') : Tri w a b c x x' z v' :=
  ⟨t.ab, t.bc, t.wa, t.x.only o (by have := t.ab; omega), h, t.z.only o (by have := t.bc; omega), t.bel.trans (o.below.mono (by have := t.ab; have := t.wa; omega))⟩
theorem Tri.onC {w v v' : World} {a b c : Nat} {x y z x' : List (BitVec 8)} (t : Tri w a b c x y z v) (h : WinAt v' c 64 x') (o : Only c v v') : Tri w a b c x y x' v' :=
  ⟨t.ab, t.bc, t.wa, t.x.only o (by have := t.ab; have := t.bc; omega), t.y.only o (by have := t.bc; omega), h, t.bel.trans (o.below.mono (by have := t.ab; have := t.bc; have := t.wa; omega))⟩
set_option maxHeartbeats 4000000 in
set_option maxRecDepth 100000 in
theorem known_any (w : World) :
    Calls Try.prog 3 #[] w fun e w' => e = .returned (.bool true) ∧ Below w.heap.size w w' := by
  have HA := Lib.hid (awake_any w)
  have N1 := Lib.hid (new_at 2 2 rfl)
  have N2 := Lib.hid (new_at (-1) 1 rfl)
  have N3 := Lib.hid (new_at 1000 64 rfl)
  go_enter Try.func3, Try.ntmps3
  go_wp2_with fail
  refine HA.out.mono ?_
  rintro e w1 ⟨rfl, hb1⟩
  have HB1 := Lib.hid hb1
  clear hb1 HA
  go_wp2_with fail
  refine (N1.out w1).mono ?_
  rintro e w2 ⟨rfl, hx2, hb2, hz2⟩
  have HX2 := Lib.hid hx2
  have HB2 := Lib.hid (HB1.out.trans (hb2.mono HB1.out.size))
  have HL2 : Hid (w.heap.size ≤ w1.heap.size ∧ w1.heap.size < w2.heap.size) := Lib.hid ⟨HB1.out.size, by omega⟩
  clear hx2 hb2 hz2 HB1 N1
  generalize w1.heap.size = a at *
  go_wp2_with fail
  refine (N2.out w2).mono ?_
  rintro e w3 ⟨rfl, hx3, hb3, hz3⟩
  have HX3 := Lib.hid hx3
  have HY3 := Lib.hid (HX2.out.keep hb3 HL2.out.2)
  have HB3 := Lib.hid (HB2.out.trans (hb3.mono HB2.out.size))
  have HL3 : Hid (w2.heap.size < w3.heap.size) := Lib.hid (by omega)
  clear hx3 hb3 hz3 HB2 HX2 N2
  generalize w2.heap.size = b at *
  go_wp2_with fail
  refine (N3.out w3).mono ?_
  rintro e w4 ⟨rfl, hx4, hb4, hz4⟩
  have HT : Hid (Tri w a b w3.heap.size [] [] [] w4) := Lib.hid ⟨HL2.out.2, HL3.out, HL2.out.1, HY3.out.keep hb4 (by have := HL2.out.2; have := HL3.out; omega), HX3.out.keep hb4 HL3.out, hx4, HB3.out.trans (hb4.mono HB3.out.size)⟩
  clear hx4 hb4 hz4 HB3 HX3 HY3 HL2 HL3 N3
  generalize w3.heap.size = c at *
  have A1 := Lib.hid (add_at a 2 [] 0#8 1 0 1 (by omega) (by omega) (by decide +kernel) rfl rfl)
  go_wp2_with fail
  refine (A1.out _ HT.out.x).mono ?_
  rintro e v1 ⟨rfl, hw, ho⟩
  replace HT := Lib.hid (HT.out.onA hw ho)
  clear hw ho A1
  have A2 := Lib.hid (add_at a 2 ([] ++ [0#8]) 1#8 259 1 259 (by omega) (by omega) (by decide +kernel) rfl rfl)
  go_wp2_with fail
  refine (A2.out _ HT.out.x).mono ?_
  rintro e v2 ⟨rfl, hw, ho⟩
  replace HT := Lib.hid (HT.out.onA hw ho)
  clear hw ho A2
  have A3 := Lib.hid (add_at a 2 ([] ++ [0#8] ++ [1#8]) 2#8 517 2 517 (by omega) (by omega) (by decide +kernel) rfl rfl)
  go_wp2_with fail
  refine (A3.out _ HT.out.x).mono ?_
  rintro e v3 ⟨rfl, hw, ho⟩
  replace HT := Lib.hid (HT.out.onA hw ho)
  clear hw ho A3
  have A4 := Lib.hid (add_at b 1 [] 5#8 6 5 6 (by omega) (by omega) (by decide +kernel) rfl rfl)
  go_wp2_with fail
  refine (A4.out _ HT.out.y).mono ?_
  rintro e v4 ⟨rfl, hw, ho⟩
  replace HT := Lib.hid (HT.out.onB hw ho)
  clear hw ho A4
  have A5 := Lib.hid (add_at b 1 ([] ++ [5#8]) 6#8 7 6 7 (by omega) (by omega) (by decide +kernel) rfl rfl)
  go_wp2_with fail
  refine (A5.out _ HT.out.y).mono ?_
  rintro e v5 ⟨rfl, hw, ho⟩
  replace HT := Lib.hid (HT.out.onB hw ho)
  clear hw ho A5
  go_wp2_with fail
  obtain ⟨X, hX⟩ : ∃ X, X = [] ++ [0#8] ++ [1#8] ++ [2#8] := ⟨_, rfl⟩
  obtain ⟨Y, hY⟩ : ∃ Y, Y = [] ++ [5#8] ++ [6#8] := ⟨_, rfl⟩
  rw [← hX, ← hY] at HT
  have HX := Lib.hid hX
  have hT := HT.out
  clear hX hY HT
  go_loopw [9] (fun i wr => ∃ k : Nat, k ≤ 100 ∧ i = .int .i64 k ∧ Tri w a b c X Y (hun k) wr) (fun i _ => 100 - (intOf i).toNat)
  case atStart => exact ⟨0, by omega, rfl, hT⟩
  case round =>
    clear hT
    rename_i wr
    obtain ⟨k, hk, rfl, hT⟩ := hrel
    have HT := Lib.hid hT
    clear hT
    by_cases hlt : k < 100
    · have kw : IntKind.u8.wrap (k : Int) = B (BitVec.ofNat 8 k) := by rw [IntKind.wrap_u8', ← B_ofNat k (by omega)]; omega
      have H1 := Lib.hid (add_any wr c 64 (hun k) (BitVec.ofNat 8 k) (by omega) (by omega) HT.out.z)
      rw [← hun_succ] at H1
      generalize rsum (lastN 64 (hun (k + 1))) = s at *
      generalize BitVec.ofNat 8 k = x at *
      go_wp2_with ((with_reducible refine H1.out.mono ?_); rintro e w5 ⟨rfl, hw, ho⟩; have HT2 := Lib.hid (HT.out.onC hw ho); clear hw ho)
      go_roundw
      case rel => exact ⟨k + 1, by omega, by go_num, HT2.out⟩
      case measure => simp [intOf]; omega
    · have hkl : k = 100 := by omega
      subst hkl
      have S1 := Lib.hid (sum_at a 2 X 517 517 (by rw [HX.out]; decide +kernel) rfl)
      have L1 := Lib.hid (len_at a 2 X 2 (by rw [HX.out]; rfl))
      have R1 := Lib.hid (fun v h => reset_any v a 2 X h)
      have S2 := Lib.hid (sum_at a 2 [] 0 0 (by decide +kernel) rfl)
      have L2 := Lib.hid (len_at a 2 [] 0 rfl)
      have L3 := Lib.hid (len_at c 64 (hun 100) 64 (by rw [hun_len]; rfl))
      have O1 : Hid (∀ v, Calls Try.prog 14 #[.slice none 0 0] v fun e w' => e = .returned (.int .u64 0) ∧ v = w') := Lib.hid (fun v => of_any [] none 0 v (Sees.nil _ _ _) (by decide))
      have D1 := Lib.hid (slide_at 259 0#8 2#8 2 2 517 259 0 2 517 rfl (by decide +kernel) rfl rfl rfl rfl)
      have D2 := Lib.hid (slide_at 98 97#8 98#8 0 1 99 98 97 98 99 rfl (by decide +kernel) rfl rfl rfl rfl)
      clear hlt hk
      go_wp2_with fail
      refine (S1.out _ HT.out.x).mono ?_
      rintro e v ⟨rfl, rfl⟩
      go_wp2_with fail
      refine (L1.out _ HT.out.x).mono ?_
      rintro e v ⟨rfl, rfl⟩
      go_wp2_with fail
      refine (R1.out _ HT.out.x).mono ?_
      rintro e v ⟨rfl, hw, ho⟩
      have HU := Lib.hid (HT.out.onA hw ho)
      clear hw ho S1 L1 R1 HT
      go_wp2_with fail
      refine (S2.out _ HU.out.x).mono ?_
      rintro e v ⟨rfl, rfl⟩
      go_wp2_with fail
      refine (L2.out _ HU.out.x).mono ?_
      rintro e v ⟨rfl, rfl⟩
      go_wp2_with fail
      refine (L3.out _ HU.out.z).mono ?_
      rintro e v ⟨rfl, rfl⟩
      go_wp2_with fail
      refine (O1.out _).mono ?_
      rintro e v ⟨rfl, rfl⟩
      go_wp2_with fail
      refine (D1.out _).mono ?_
      rintro e v ⟨rfl, rfl⟩
      go_wp2_with fail
      refine (D2.out _).mono ?_
      rintro e v ⟨rfl, rfl⟩
      go_wp2_with fail
      go_ret
      exact ⟨rfl, HU.out.bel⟩
end Go.Proofs.Ytaeoaaajkcnbkaa
