/- Contract: strings.SplitSeq at a slash: its iterator gives a text's names, one by one. Condition: the text is shorter than 2^62 bytes. -/
import Derived.Test.YtflgncagoiigfaaDoorRng
namespace Go.Proofs.YtflgncagoiigfaaDoor
open Go.RowKit Go.Shelf
attribute [local go_sem] Oper.semAt_some
/-- What the iterator keeps in its three boxes. -/
def Boxes (b : Nat) (W : World) (s : ByteArray) : Prop :=
  W.cell? ⟨b, 0, none⟩ = some (.string s) ∧ W.frozen? ⟨b, 0, none⟩ = false ∧ W.cell? ⟨b + 1, 0, none⟩ = some (.string ⟨#[47]⟩) ∧ W.cell? ⟨b + 2, 0, none⟩ = some (.int .i64 0)
/-- What a round keeps: the three boxes. -/
def KpB (b : Nat) (W W' : World) : Prop := ∀ s, Boxes b W s → Boxes b W' s
def leftB (b : Nat) (W : World) : Nat := match W.cell? ⟨b, 0, none⟩ with | some (.string t) => t.size | _ => 0
theorem Boxes.left {b : Nat} {W : World} {s : ByteArray} (h : Boxes b W s) : leftB b W = s.size := by unfold leftB; rw [h.1]
theorem Boxes.set {b : Nat} {W : World} {s : ByteArray} (h : Boxes b W s) (t : ByteArray) : Boxes b (W.setCell ⟨b, 0, none⟩ (.string t)) t := by
  obtain ⟨h1, h2, h3, h4⟩ := h
  refine ⟨World.cell?_setCell_same' _ _ _ (by rw [h1]; rfl), by rw [World.frozen?_setCell]; exact h2, ?_, ?_⟩
  · rw [World.cell?_of_block (Below.heap_setCell W ⟨b, 0, none⟩ _ (b + 1) (by show b + 1 ≠ b; omega))]; exact h3
  · rw [World.cell?_of_block (Below.heap_setCell W ⟨b, 0, none⟩ _ (b + 2) (by show b + 2 ≠ b; omega))]; exact h4
set_option maxRecDepth 100000 in
set_option maxHeartbeats 2000000 in
theorem split_in (l b : Nat) (J Jx : List Tx → World → Prop) (L : List Tx)
    (hJ : ∀ pre W1 t, J pre W1 → J pre (W1.setCell ⟨b, 0, none⟩ (.string t)))
    (hY : ∀ pre (x : ByteArray) W1, J pre W1 → YieldAt Fence.wide 1 Tryd.prog l #[.string x] W1 fun e W' =>
      (e = .returned (.bool true) ∧ J (pre ++ [x.data.toList]) W' ∧ KpB b W1 W') ∨ (e = .returned (.bool false) ∧ Jx (pre ++ [x.data.toList]) W'))
    (s : ByteArray) (hs : s.size < 9223372036854775808) (hL : L = nms s.data.toList) (W : World) (hB : Boxes b W s) (h0 : J [] W) :
    CallsIn Fence.wide 2 Tryd.prog 51 #[.func (.yield l) #[] #[], .pointer (some ⟨b + 1, 0, none⟩), .pointer (some ⟨b, 0, none⟩), .pointer (some ⟨b + 2, 0, none⟩)] W
      fun e W' => (∃ v, e = .returned v) ∧ (J L W' ∨ ∃ pre, pre <+: L ∧ Jx pre W') := by
  have HB := Lib.hid hB
  obtain ⟨c1, c2, c3, c4⟩ := hB
  refine callsIn_of_wp Tryd.func51 rfl trivial ?_ rfl
  simp only [Tryd.ntmps51, List.size_toArray, List.length_cons, List.length_nil, Nat.reduceAdd, Nat.reduceSub, Array.replicate_succ, Array.replicate_zero, List.push_toArray, List.append_toArray, List.nil_append, List.cons_append]
  gi_wp2
  gi_loopw [7, 8] (fun _ _ wr => ∃ (pre : List Tx) (t : ByteArray), L = pre ++ nms t.data.toList ∧ t.size < 9223372036854775808 ∧ Boxes b wr t ∧ J pre wr) (fun _ _ wr => leftB b wr)
  case atStart => exact ⟨[], s, by rw [hL]; rfl, hs, HB.out, h0⟩
  case round =>
    obtain ⟨pre, t, hx, ht, hB, hJs⟩ := hrel
    have HB := Lib.hid hB
    have HX := Lib.hid hx
    obtain ⟨c1, c2, c3, c4⟩ := hB
    rcases idx_cases t.data.toList with ⟨hi, hno⟩ | ⟨i, hil, hi, hcut, hno⟩
    · have H1 : ∀ w1, Calls Tryd.prog 45 #[.string t, .string ⟨#[47]⟩] w1 fun e w' => e = .returned (.int .i64 (-1)) ∧ w' = w1 := fun w1 => by rw [← hi]; exact index_any t w1
      have HN : L = pre ++ [t.data.toList] := by rw [hx, nms_plain hno]
      obtain ⟨fn, tmps, assign, body, hy, hR⟩ := hY pre t wr hJs
      clear hx hi hno
      gi_wp2_with (first | (refine ⟨trivial, ?_⟩; gi_at_call 45; refine (callsIn_wide.2 (H1 _)).mono ?_; rintro e w' ⟨rfl, rfl⟩))
      refine hR.mono ?_
      rintro e W3 (⟨rfl, hJ3, hk3⟩ | ⟨rfl, hJx3⟩)
      · gi_wp2
        go_end0
        exact ⟨⟨_, rfl⟩, .inl (by rw [HN]; exact hJ3)⟩
      · gi_wp2
        go_end0
        exact ⟨⟨_, rfl⟩, .inr ⟨_, by rw [HN]; exact List.prefix_refl _, hJx3⟩⟩
    · have H1 : ∀ w1, Calls Tryd.prog 45 #[.string t, .string ⟨#[47]⟩] w1 fun e w' => e = .returned (.int .i64 (i : Int)) ∧ w' = w1 := fun w1 => by rw [← hi]; exact index_any t w1
      have hts : t.data.toList.length = t.size := rfl
      have hn := nms_hit hcut hno
      obtain ⟨fn, tmps, assign, body, hy, hR⟩ := hY pre (t.extract 0 i) wr hJs
      have e1 : (t.extract 0 i).data.toList = t.data.toList.take i := by rw [Lib.extract_data]; simp
      have e2 : (t.extract (i + 1) t.size).data.toList = t.data.toList.drop (i + 1) := by rw [Lib.extract_data, List.take_of_length_le]; rw [List.length_drop, hts]; exact Nat.le_refl _
      have e3 : (t.extract (i + 1) t.size).size = t.size - (i + 1) := by rw [ByteArray.size_extract]; omega
      rw [e1] at hR
      have HN : L = (pre ++ [t.data.toList.take i]) ++ nms (t.extract (i + 1) t.size).data.toList := by rw [hx, hn, e2]; simp
      have k1 : IntKind.i64.wrap (i : Int) = (i : Int) := by rw [IntWalk.i64_in _ (by omega)]
      have k2 : IntKind.i64.wrap ((i : Int) + 1) = ((i + 1 : Nat) : Int) := by rw [IntWalk.i64_in _ (by omega)]; omega
      have k3 : ¬ (i : Int) < 0 := by omega
      clear hx hi hno hn hcut
      gi_wp2_with (first | (refine ⟨trivial, ?_⟩; gi_at_call 45; refine (callsIn_wide.2 (H1 _)).mono ?_; rintro e w' ⟨rfl, rfl⟩))
      refine hR.mono ?_
      rintro e W3 (⟨rfl, hJ3, hk3⟩ | ⟨rfl, hJx3⟩)
      · have HB3 := Lib.hid (hk3 _ HB.out)
        have HK := Lib.hid (hJ _ _ (t.extract (i + 1) t.size) hJ3)
        obtain ⟨d1, d2, d3, d4⟩ := HB3.out
        clear hJ3 hJs c1 c2 c3 c4 hk3
        gi_wp2
        go_roundw
        case rel => exact ⟨_, _, HN, by rw [e3]; omega, HB3.out.set _, HK.out⟩
        case measure => rw [(HB3.out.set _).left, HB.out.left, e3]; omega
      · have HN2 := Lib.hid HN
        clear HN
        gi_wp2
        refine bodyPost_ret (results_none rfl _ _ _) rfl ?_
        exact ⟨⟨_, rfl⟩, .inr ⟨_, ⟨_, HN2.out.symm⟩, hJx3⟩⟩
end Go.Proofs.YtflgncagoiigfaaDoor
