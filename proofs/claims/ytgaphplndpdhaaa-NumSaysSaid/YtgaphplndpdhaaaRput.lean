/- Contracts: the document's own Put, PutBytes. Conditions: a number of 64 bits; fewer than 2^46 bytes. -/
import Derived.Test.YtgaphplndpdhaaaPutB
namespace Go.Proofs.Ytgaphplndpdhaaa
open Go.RowKit
theorem empty_own (w : World) (base : Nat) (hb : base ≤ w.heap.size) : (w.alloc (.cells #[] 5)).ownsRow base 5 1 (.slice (some ⟨w.heap.size, 0, none⟩) 0 0) 0 [] :=
  World.ownsRow_made w #[] 0 hb (by unfold maxLen; omega) (by simp)
set_option maxHeartbeats 1000000 in
theorem rput_any (x : List (BitVec 8)) (q : Option Addr) (c v : Nat) (w : World) (hs : Sees w w.heap.size q (x.map u8v)) (hq : q = none → c = 0) (hl : x.length ≤ 70368744177664) (hv : v < 18446744073709551616) :
    Calls Try.prog 16 #[.slice q x.length c, .int .u64 (v : Int)] w (Wrote w.heap.size w (x.length + (digs v).length) (x.map u8v ++ (digs v).map u8v)) := by
  have hlen := digs_len10 v hv
  have HL := Lib.hid hlen
  have hBe : Below w.heap.size w (w.alloc (.cells #[] 5)) := (Below.refl _ _).alloc (Nat.le_refl _) _
  have HS := Lib.hid (hs.keep hBe)
  have HO := Lib.hid (empty_own w w.heap.size (Nat.le_refl _))
  have HBe := Lib.hid hBe
  have HQ := Lib.hid hq
  clear hs hq hlen hBe
  go_enter Try.func16, Try.ntmps16
  go_wp2_with (at_builtin; refine wpList_append_sees rfl (.tmp 5) (.tmp 6) rfl w.heap.size _ 0 [] rfl HO.out q x c w.heap.size rfl HQ.out HS.out (by omega) HBe.out.size ?_; intro v1 w1 h1 h2; have H1 := Lib.hid h1; have HB1 := Lib.hid (HBe.out.trans h2); clear h1 h2)
  have h0 : Heads w.heap.size w x.length (x.map u8v) v v1 (.int .u64 (v : Int)) w1 := ⟨v, [], rfl, hv, rfl, by have := H1.out; simpa using this, HB1.out⟩
  have H0 := Lib.hid h0
  clear h0 HS HO HBe HQ
  go_loopw [0, 1] (fun s i wr => Heads w.heap.size w x.length (x.map u8v) v s i wr) (fun _ i _ => (intOf i).toNat)
  case atStart => exact H0.out
  case round =>
    clear H0
    rename_i wr
    obtain ⟨u, pre, rfl, hu, hp, ho, hB⟩ := hrel
    have hsz := hB.size
    by_cases hlt : u < 128
    · rw [digs_lt u hlt] at hp
      have k1 : IntKind.u8.wrap (u : Int) = B (by8 u) := by unfold B; rw [by8_toNat u (by omega), IntKind.wrap_u8]; omega
      have hlen : pre.length + 1 ≤ 10 := by have := congrArg List.length hp; have := HL.out; simp at *; omega
      have k3 : ¬ (127 : Int) < (u : Int) := by omega
      have HO := Lib.hid ho
      have HP := Lib.hid hp
      have HB := Lib.hid hB
      have HS := Lib.hid (lit_sees wr (by8 u) (.int .u8 (B (by8 u))) rfl)
      clear ho hp hB hlt HL
      go_wp2_with (at_builtin; refine wpList_append_sees rfl _ _ rfl w.heap.size _ _ _ rfl (HO.out.alloc _) (some ⟨wr.heap.size, 0, none⟩) [by8 u] 1 (wr.heap.size + 1) rfl (fun h => by cases h) HS.out (by simp; omega) (by simp; omega) ?_; intro v1 w1 h1 h2; have H1 := Lib.hid h1; have H2 := Lib.hid (((HB.out.alloc (by omega) _)).trans (h2.mono (by omega))); clear h1 h2)
      go_ret
      refine ⟨v1, rfl, ?_, H2.out⟩
      have h := H1.out
      rw [← HP.out, List.length_append, ← Nat.add_assoc, List.map_append, ← List.append_assoc]
      exact h
    · rw [digs_ge u hlt] at hp
      have k2 : IntKind.u8.wrap ((u : Int) % 128 + 128) = B (by8 (u % 128 + 128)) := by unfold B; rw [by8_toNat _ (by omega), IntKind.wrap_u8]; omega
      have k3 : (127 : Int) < (u : Int) := by omega
      have k5 : (u : Int) / 128 = ((u / 128 : Nat) : Int) := by omega
      have hlen : pre.length + 2 ≤ 10 := by have := congrArg List.length hp; have := HL.out; have := digs_pos (u / 128); simp at *; omega
      have HU : Hid (u / 128 < 18446744073709551616 ∧ u / 128 < u) := Lib.hid (by omega)
      have HO := Lib.hid ho
      have HP := Lib.hid hp
      have HB := Lib.hid hB
      have HS := Lib.hid (lit_sees wr (by8 (u % 128 + 128)) (.int .u8 (B (by8 (u % 128 + 128)))) rfl)
      clear ho hp hB hlt HL
      generalize by8 (u % 128 + 128) = y at *
      generalize u / 128 = u' at *
      go_wp2_with (at_builtin; refine wpList_append_sees rfl _ _ rfl w.heap.size _ _ _ rfl (HO.out.alloc _) (some ⟨wr.heap.size, 0, none⟩) [y] 1 (wr.heap.size + 1) rfl (fun h => by cases h) HS.out (by simp; omega) (by simp; omega) ?_; intro v1 w1 h1 h2; have H1 := Lib.hid h1; have H2 := Lib.hid (((HB.out.alloc (by omega) _)).trans (h2.mono (by omega))); clear h1 h2)
      go_roundw
      case rel =>
        refine ⟨u', pre ++ [y], rfl, HU.out.1, by rw [List.append_assoc]; exact HP.out, ?_, H2.out⟩
        have h := H1.out
        rw [List.length_append, ← Nat.add_assoc, List.map_append, ← List.append_assoc]
        exact h
      case measure => have := HU.out.2; simp [intOf]; omega
theorem rput_gives (x : List (BitVec 8)) (q : Option Addr) (c v : Nat) (w : World) (hs : Sees w w.heap.size q (x.map u8v)) (hq : q = none → c = 0) (hl : x.length ≤ 70368744177664) (hv : v < 18446744073709551616) :
    Calls Try.prog 16 #[.slice q x.length c, .int .u64 (v : Int)] w (Gives w (x ++ digs v)) :=
  (rput_any x q c v w hs hq hl hv).mono fun e w' ⟨s, he, ho, hb⟩ => ⟨s, he, Bs.own (base := w.heap.size) (n := x.length + (digs v).length) (by rw [List.map_append]; exact ho), hb⟩
set_option maxHeartbeats 1000000 in
theorem rputBytes_any (x : List (BitVec 8)) (q : Option Addr) (c : Nat) (y : List (BitVec 8)) (p : Option Addr) (d : Nat) (w : World) (hs : Sees w w.heap.size q (x.map u8v)) (hq : q = none → c = 0) (hl : x.length ≤ 35184372088832)
    (hy : Sees w w.heap.size p (y.map u8v)) (hp : p = none → d = 0) (hyl : y.length ≤ 35184372088832) :
    Calls Try.prog 18 #[.slice q x.length c, .slice p y.length d] w (Gives w (x ++ digs y.length ++ y)) := by
  have hd := digs_len10 y.length (by omega)
  have h1 := rput_any x q c y.length w hs hq (by omega) (by omega)
  have k2 : IntKind.u64.wrap (y.length : Int) = (y.length : Int) := wraps_u64 _ (by omega) (by omega)
  have HE : Hid (x.map u8v ++ (digs y.length).map u8v ++ y.map u8v = (x ++ digs y.length ++ y).map u8v) := Lib.hid (by rw [List.map_append, List.map_append])
  have H1 := Lib.hid h1
  have HY := Lib.hid hy
  have HP := Lib.hid hp
  clear h1 hs hq hy hp
  go_enter Try.func18, Try.ntmps18
  go_wp2_with fail
  refine H1.out.mono ?_
  rintro e w2 ⟨s2, rfl, ho, hb⟩
  have HO := Lib.hid ho
  have HB2 := Lib.hid hb
  have HS2 := Lib.hid (HY.out.keep HB2.out)
  clear ho hb H1
  go_wp2_with (at_builtin; refine wpList_append_sees rfl _ _ rfl w.heap.size _ _ _ rfl HO.out p y d w.heap.size rfl HP.out HS2.out (by omega) HB2.out.size ?_; intro v3 w3 h1 h2; have H5 := Lib.hid h1; have HB3 := Lib.hid (HB2.out.trans h2); clear h1 h2)
  go_ret
  refine ⟨v3, rfl, Bs.own (base := w.heap.size) (n := x.length + (digs y.length).length + y.length) ?_, HB3.out⟩
  have h := H5.out
  rw [HE.out] at h
  exact h
end Go.Proofs.Ytgaphplndpdhaaa
