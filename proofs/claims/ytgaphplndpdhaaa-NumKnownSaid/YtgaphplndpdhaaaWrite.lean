/- Contracts: num.write, withRoom: a number behind what a new row holds. Conditions: a number of 64 bits; fewer than 2^47 bytes. -/
import Derived.Test.YtgaphplndpdhaaaSizeC
import Derived.Test.YtgaphplndpdhaaaByte
namespace Go.Proofs.Ytgaphplndpdhaaa
open Go.RowKit
theorem lit_sees (w : World) (x : BitVec 8) (v : Value) (hv : v = u8v x) : Sees (w.alloc (.cells #[v] 5)) (w.heap.size + 1) (some ⟨w.heap.size, 0, none⟩) ([x].map u8v) := by
  subst hv
  exact Sees.of_has (Has.made' w 5 #[u8v x] _ rfl) (Nat.lt_succ_self _)
/-- What a call hands back that writes on behind a new row. -/
def Wrote (base : Nat) (w : World) (n : Nat) (xs : List Value) (e : Ending) (w' : World) : Prop := ∃ v, e = .returned v ∧ w'.ownsRow base 5 1 v n xs ∧ Below base w w'
/-- The head of the loop: what is written, what is still to be. -/
def Heads (base : Nat) (w : World) (n : Nat) (xs : List Value) (v : Nat) (s i : Value) (wr : World) : Prop :=
  ∃ (u : Nat) (pre : List (BitVec 8)), i = .int .u64 (u : Int) ∧ u < 18446744073709551616 ∧ pre ++ digs u = digs v ∧ wr.ownsRow base 5 1 s (n + pre.length) (xs ++ pre.map u8v) ∧ Below base w wr
set_option maxHeartbeats 1000000 in
theorem write_any (v base n : Nat) (xs : List Value) (s : Value) (w : World) (hv : v < 18446744073709551616) (ho : w.ownsRow base 5 1 s n xs) (hb : base ≤ w.heap.size) (hn : n ≤ 140737488355300) :
    Calls Try.prog 21 #[s, .int .u64 (v : Int)] w (Wrote base w (n + (digs v).length) (xs ++ (digs v).map u8v)) := by
  have hl := digs_len10 v hv
  have h0 : Heads base w n xs v s (.int .u64 (v : Int)) w := ⟨v, [], rfl, hv, rfl, by simpa using ho, Below.refl _ _⟩
  have H0 := Lib.hid h0
  have HL := Lib.hid hl
  clear h0 ho hl
  go_enter Try.func21, Try.ntmps21
  go_wp2_with fail
  go_loopw [0, 1] (fun s i wr => Heads base w n xs v s i wr) (fun _ i _ => (intOf i).toNat)
  case atStart => exact H0.out
  case round =>
    clear H0
    rename_i wr
    obtain ⟨u, pre, rfl, hu, hp, ho, hB⟩ := hrel
    have hsz := hB.size
    have k1 : IntKind.u8.wrap (u : Int) = ((u % 256 : Nat) : Int) := by rw [IntKind.wrap_u8]; omega
    by_cases hlt : u < 128
    · rw [digs_lt u hlt] at hp
      have k2 : ((u % 256 : Nat) : Int) = B (by8 u) := by unfold B; rw [by8_toNat u (by omega)]; omega
      rw [k2] at k1
      have hlen : pre.length + 1 ≤ 10 := by have := congrArg List.length hp; have := HL.out; simp at *; omega
      have k3 : ¬ (128 : Int) ≤ (u : Int) := by omega
      have HO := Lib.hid ho
      have HP := Lib.hid hp
      have HB := Lib.hid hB
      have HS := Lib.hid (lit_sees wr (by8 u) (.int .u8 (B (by8 u))) rfl)
      clear ho hp hB k2 hlt HL
      go_wp2_with (at_builtin; refine wpList_append_sees rfl _ _ rfl base _ _ _ rfl (HO.out.alloc _) (some ⟨wr.heap.size, 0, none⟩) [by8 u] 1 (wr.heap.size + 1) rfl (fun h => by cases h) HS.out (by simp; omega) (by simp; omega) ?_; intro v1 w1 h1 h2; have H1 := Lib.hid h1; have H2 := Lib.hid (((HB.out.alloc (by omega) _)).trans (h2.mono (by omega))); clear h1 h2)
      go_ret
      refine ⟨v1, rfl, ?_, H2.out⟩
      have h := H1.out
      rw [← HP.out, List.length_append, ← Nat.add_assoc, List.map_append, ← List.append_assoc]
      exact h
    · rw [digs_ge u hlt] at hp
      have k2 := u8_or128' (u % 256) (by omega)
      have k4 : ((u % 256 % 128 + 128 : Nat) : Int) = B (by8 (u % 128 + 128)) := by unfold B; rw [by8_toNat _ (by omega)]; omega
      rw [k4] at k2
      have k3 : (128 : Int) ≤ (u : Int) := by omega
      have k5 : (u : Int) / 128 = ((u / 128 : Nat) : Int) := by omega
      have hlen : pre.length + 2 ≤ 10 := by have := congrArg List.length hp; have := HL.out; have := digs_pos (u / 128); simp at *; omega
      have HU : Hid (u / 128 < 18446744073709551616 ∧ u / 128 < u) := Lib.hid (by omega)
      have HO := Lib.hid ho
      have HP := Lib.hid hp
      have HB := Lib.hid hB
      have HS := Lib.hid (lit_sees wr (by8 (u % 128 + 128)) (.int .u8 (B (by8 (u % 128 + 128)))) rfl)
      clear ho hp hB k4 hlt HL
      generalize by8 (u % 128 + 128) = x at *
      generalize u % 256 = c at *
      generalize u / 128 = u' at *
      go_wp2_with (at_builtin; refine wpList_append_sees rfl _ _ rfl base _ _ _ rfl (HO.out.alloc _) (some ⟨wr.heap.size, 0, none⟩) [x] 1 (wr.heap.size + 1) rfl (fun h => by cases h) HS.out (by simp; omega) (by simp; omega) ?_; intro v1 w1 h1 h2; have H1 := Lib.hid h1; have H2 := Lib.hid (((HB.out.alloc (by omega) _)).trans (h2.mono (by omega))); clear h1 h2)
      go_roundw
      case rel =>
        refine ⟨u', pre ++ [x], rfl, HU.out.1, by rw [List.append_assoc]; exact HP.out, ?_, H2.out⟩
        have h := H1.out
        rw [List.length_append, ← Nat.add_assoc, List.map_append, ← List.append_assoc]
        exact h
      case measure => have := HU.out.2; simp [intOf]; omega
set_option maxHeartbeats 400000 in
theorem withRoom_any (x : List (BitVec 8)) (q : Option Addr) (c k : Nat) (w : World) (hs : Sees w w.heap.size q (x.map u8v)) (hq : q = none → c = 0) (hl : x.length + k ≤ 140737488355328) :
    Calls Try.prog 22 #[.slice q x.length c, .int .i64 (k : Int)] w (Wrote w.heap.size w x.length (x.map u8v)) := by
  have hmk := made_run (x.length + k) (by omega)
  have k1 : ((x.length + k : Nat) : Int) = (x.length : Int) + (k : Int) := by omega
  rw [k1] at hmk
  have HO := Lib.hid (made_own (x.length + k) (by omega) w w.heap.size (Nat.le_refl _))
  have hB : Below w.heap.size w (w.alloc (.cells (madeCells #[Value.int .u8 0] (x.length + k)) 5)) := (Below.refl _ _).alloc (Nat.le_refl _) _
  have HB := Lib.hid hB
  have HS := Lib.hid (hs.keep hB)
  have HQ := Lib.hid hq
  clear hs hq hB k1
  go_enter Try.func22, Try.ntmps22
  go_wp2_with (at_builtin; refine wpList_append_sees rfl _ _ rfl w.heap.size _ 0 [] rfl HO.out q x c w.heap.size rfl HQ.out HS.out (by omega) HB.out.size ?_; intro v1 w1 h1 h2; have H1 := Lib.hid h1; have H2 := Lib.hid (HB.out.trans h2); clear h1 h2)
  go_ret
  have h := H1.out
  rw [List.nil_append, Nat.zero_add] at h
  exact ⟨v1, rfl, h, H2.out⟩
end Go.Proofs.Ytgaphplndpdhaaa
