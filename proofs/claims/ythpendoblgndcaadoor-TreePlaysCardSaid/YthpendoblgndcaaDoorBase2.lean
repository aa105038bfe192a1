/- A range over an iterator that hands on texts and keeps its rest in a box of its own: the loop's law, and strings.SplitSeq's iterator at a slash. Conditions: what the loop's body keeps. -/
import Derived.Test.YthpendoblgndcaaDoorBase1
import Derived.RangeFuncNested
import Derived.RangeFuncCalls
import Derived.RangeFuncLeaves
import Derived.Shelf.RegionOpen
import Derived.WalkKit
import Derived.OwnWalkIn
import Derived.TacticsInMore
import Derived.LoopNIn
import Derived.LoopIn
import Derived.Lib.Hide
import Derived.IntWalk
import Derived.Deep.Draws
namespace Go.Proofs.YthpendoblgndcaaDoor
open Go.RowKit Go.Shelf
/-- How a round may be left: it goes on, or it returns. -/
def postT (Kp : World → World → Prop) (I Ix : List Tx → World → Prop) (xs : List Tx) (W : World) : Exit → Act → World → Prop
  | .normal, _, W' => KeepsOthers W W' ∧ Kp W W' ∧ I xs W'
  | .ret, _, W' => KeepsOthers W W' ∧ Ix xs W'
  | _, _, _ => False
/-- What an iterator over texts gives: every round's word is handed on, its own box b aside. -/
def GivesI (P : Program) (gf : Nat) (lb : Array Value) (b : Nat) (Kp : World → World → Prop) (L : List Tx) (w : World) : Prop :=
  ∀ (l : Nat) (J Jx : List Tx → World → Prop) (W : World), Below w.heap.size w W →
    (∀ pre W1 t, J pre W1 → J pre (W1.setCell ⟨b, 0, none⟩ (.string t))) →
    (∀ pre (x : ByteArray) W1, J pre W1 → YieldAt Fence.wide 1 P l #[.string x] W1 fun e W' =>
      (e = .returned (.bool true) ∧ J (pre ++ [x.data.toList]) W' ∧ Kp W1 W') ∨ (e = .returned (.bool false) ∧ Jx (pre ++ [x.data.toList]) W')) →
    J [] W →
    CallsIn Fence.wide 2 P gf (#[.func (.yield l) #[] #[]] ++ lb) W fun e W' => (∃ v, e = .returned v) ∧ (J L W' ∨ ∃ pre, pre <+: L ∧ Jx pre W')
theorem range_law {P : Program} {g : Operand} {ps : Array Tmp} {assign body : Code} {Q : Exit → Act → World → Prop} {a : Act} {w : World}
    {gf : Nat} {lb : Array Value} (hg : a.eval g = .func (.func gf) #[] lb) (eg : ∀ args w, (callFunc gf args).run P w = .ok (.enter gf args) w)
    (b : Nat) (hbw : b < w.heap.size) (hps : ps.size = 1) (L : List Tx) {Kp : World → World → Prop}
    (hKt : ∀ {A B C : World}, Kp A B → Kp B C → Kp A C) (hKb : ∀ (W : World) (l : Nat) (o : Obj), w.heap.size ≤ l → Kp W (W.putObj l o))
    (hseq : GivesI P gf lb b Kp L w) (I Ix : List Tx → World → Prop)
    (hI : ∀ s W l o, w.heap.size ≤ l → I s W → I s (W.putObj l o)) (hIx : ∀ s W l o, w.heap.size ≤ l → Ix s W → Ix s (W.putObj l o))
    (hIa : ∀ s W o, I s W → I s (W.alloc o)) (hIs : ∀ s W t, I s W → I s (W.setCell ⟨b, 0, none⟩ (.string t)))
    (h0 : I [] w) (a₁ : ByteArray → Act)
    (hassign : ∀ (l : Nat) (x : ByteArray) (W : World) (K : Act → World → Prop), K (a₁ x) W →
      assign.wpIn (Fence.wide.inRound l) 1 P (Exit.then K (fun _ _ _ => False)) { tmps := (ps.zip #[.string x]).foldl (fun t (p, v) => t.setIfInBounds p v) a.tmps, defers := [] } W)
    (hbody : ∀ (l : Nat) (pre : List Tx) (x : ByteArray) (W : World), I pre W → body.wpIn (Fence.wide.inRound l) 1 P (postT Kp I Ix (pre ++ [x.data.toList]) W) (a₁ x) W)
    (hdone : ∀ (D : Nat) (W : World), w.heap.size ≤ D → I L W → W.heap[D]? = some (.deferred (some [])) → Q .normal { a with defers := { target := .collected D, args := #[] } :: a.defers } W)
    (hstop : ∀ (D : Nat) (pre : List Tx) (W : World), w.heap.size ≤ D → pre <+: L → Ix pre W → W.heap[D]? = some (.deferred (some [])) → Code.ret.wpIn Fence.wide 3 P Q { a with defers := { target := .collected D, args := #[] } :: a.defers } W) :
    (Code.rangeFunc g ps assign body).wpIn Fence.wide 3 P Q a w := by
  refine wpIn_rangeFunc ?_
  intro fn _
  obtain ⟨rec, hrec⟩ : ∃ rec : LoopState → Option Code → Loop, rec = fun st pe => { state := st, pending := pe, fn, tmps := a.tmps, params := ps, assign, body, defers := w.heap.size } := ⟨_, rfl⟩
  obtain ⟨W1, hW1⟩ : ∃ W1, (w.alloc (.deferred (some []))).alloc (.loop (rec .ready none)) = W1 := ⟨_, rfl⟩
  have hL1 : W1.heap[w.heap.size + 1]? = some (.loop (rec .ready none)) := by
    rw [← hW1]; have := World.alloc_heap_new (w.alloc (.deferred (some []))) (.loop (rec .ready none)); rwa [World.size_alloc] at this
  have hK1 : W1.heap[w.heap.size]? = some (.deferred (some [])) := by
    rw [← hW1]; exact (Below.heap_alloc _ _ _ (by simp)).trans (World.alloc_heap_new w _)
  have hI1 : I [] W1 := by rw [← hW1]; exact hIa _ _ _ (hIa _ _ _ h0)
  have hb1 : Below w.heap.size w W1 := by rw [← hW1]; exact ((Below.refl _ w).alloc (Nat.le_refl _) _).alloc (by simp) _
  refine ⟨w.heap.size + 1, [{ target := .collected w.heap.size, args := #[] }], W1, { target := .fn (.func gf) lb, args := #[.func (.yield (w.heap.size + 1)) #[] #[]] }, W1, gf,
    #[.func (.yield (w.heap.size + 1)) #[] #[]] ++ lb, W1, ?_, ?_, fun _ _ => trivial, ?_, (fun h => by cases h), ?_⟩
  · rw [← hW1, hrec]; exact run_enterLoop_outer _ _ _ _ _
  · simp only [resolve, hg]
    simp [go_sem]
  · simp [invoke, go_sem, eg]
  · refine (hseq (w.heap.size + 1)
      (fun pre W => I pre W ∧ W.heap[w.heap.size + 1]? = some (.loop (rec .ready none)) ∧ W.heap[w.heap.size]? = some (.deferred (some [])))
      (fun pre W => Ix pre W ∧ W.heap[w.heap.size + 1]? = some (.loop (rec .done (some .ret))) ∧ W.heap[w.heap.size]? = some (.deferred (some [])))
      W1 hb1 (fun pre W t h => ⟨hIs _ _ _ h.1, (Below.heap_setCell W ⟨b, 0, none⟩ _ _ (by show w.heap.size + 1 ≠ b; omega)).trans h.2.1, (Below.heap_setCell W ⟨b, 0, none⟩ _ _ (by show w.heap.size ≠ b; omega)).trans h.2.2⟩)
      ?_ ⟨hI1, hL1, hK1⟩).mono ?_
    · rintro pre x W ⟨hi, hl, hk⟩
      have hlt : w.heap.size + 1 < W.heap.size := (Array.getElem?_eq_some_iff.1 hl).1
      have hy := run_yield (P := P) (args := #[.string x]) hl (by rw [hrec]; exact hps.symm)
      rw [hrec] at hy
      refine ⟨fn, _, assign, body, hy, roundIn_of_wpIn trivial (hassign _ x W _ ⟨_, run_beginRound hl (by rw [hrec]), ?_⟩)⟩
      have hl2 : (W.putObj (w.heap.size + 1) (.loop { rec .ready none with state := .busy })).heap[w.heap.size + 1]? = some (.loop { rec .ready none with state := .busy }) := World.putObj_heap_same hlt
      have hk2 : (W.putObj (w.heap.size + 1) (.loop { rec .ready none with state := .busy })).heap[w.heap.size]? = some (.deferred (some [])) := (World.putObj_heap_other (by omega)).trans hk
      have hw2 : Kp W (W.putObj (w.heap.size + 1) (.loop { rec .ready none with state := .busy })) := hKb _ _ _ (by omega)
      refine wpIn_mono (hbody _ pre x _ (hI _ _ _ _ (by omega) hi)) ?_
      have fin : ∀ (jump : Option Code) (W3 : World), KeepsOthers (W.putObj (w.heap.size + 1) (.loop { rec .ready none with state := .busy })) W3 →
          (Instr.endRound (w.heap.size + 1) jump).run P W3 = .ok (.bool jump.isNone) (W3.putObj (w.heap.size + 1) (.loop (rec (if jump.isNone then .ready else .done) jump))) ∧
          (W3.putObj (w.heap.size + 1) (.loop (rec (if jump.isNone then .ready else .done) jump))).heap[w.heap.size + 1]? = some (.loop (rec (if jump.isNone then .ready else .done) jump)) ∧
          (W3.putObj (w.heap.size + 1) (.loop (rec (if jump.isNone then .ready else .done) jump))).heap[w.heap.size]? = some (.deferred (some [])) := fun jump W3 hk3 => by
        have hl3 := hk3.same _ _ hl2 rfl
        have := run_endRound (P := P) jump hl3
        rw [hrec] at this ⊢
        exact ⟨this, World.putObj_heap_same (Array.getElem?_eq_some_iff.1 hl3).1, (World.putObj_heap_other (by omega)).trans (hk3.same _ _ hk2 rfl)⟩
      rintro e a3 W3 hp
      cases e with
      | normal =>
        obtain ⟨hk3, hkp3, hi3⟩ := hp
        obtain ⟨hr, hl4, hk4⟩ := fin none W3 hk3
        exact ⟨_, _, hr, .inl ⟨rfl, ⟨hI _ _ _ _ (by omega) hi3, hl4, hk4⟩, hKt (hKt hw2 hkp3) (hKb _ _ _ (by omega))⟩⟩
      | ret =>
        obtain ⟨hk3, hi3⟩ := hp
        obtain ⟨hr, hl4, hk4⟩ := fin (some .ret) W3 hk3
        exact ⟨_, _, hr, .inr ⟨rfl, hIx _ _ _ _ (by omega) hi3, hl4, hk4⟩⟩
      | exit id => exact hp.elim
      | goto t => exact hp.elim
      | panic ch => exact hp.elim
      | outgrown => exact hp.elim
    · rintro e W2 ⟨⟨v, rfl⟩, (⟨hi, hl, hk⟩ | ⟨pre, hpre, hi, hl, hk⟩)⟩
      · exact ⟨none, _, by have := run_endLoop (P := P) hl (by rw [hrec]; simp); rw [hrec] at this; exact this, hdone _ _ (Nat.le_refl _) (hI _ _ _ _ (by omega) hi) ((World.putObj_heap_other (by omega)).trans hk)⟩
      · exact ⟨some .ret, _, by have := run_endLoop (P := P) hl (by rw [hrec]; simp); rw [hrec] at this; exact this, hstop _ _ _ (Nat.le_refl _) hpre (hIx _ _ _ _ (by omega) hi) ((World.putObj_heap_other (by omega)).trans hk)⟩
end Go.Proofs.YthpendoblgndcaaDoor
/- Contract: strings.SplitSeq at a slash: its iterator gives a text's names, one by one. Condition: the text is shorter than 2^62 bytes. -/
namespace Go.Proofs.YthpendoblgndcaaDoor
open Go.RowKit Go.Shelf
attribute [local go_sem] Oper.semAt_some
/-- What the iterator keeps in its three boxes. -/
def Boxes (b : Nat) (W : World) (s : ByteArray) : Prop :=
  W.cell? ⟨b, 0, none⟩ = some (.string s) ∧ W.frozen? ⟨b, 0, none⟩ = false ∧ W.cell? ⟨b + 1, 0, none⟩ = some (.string ⟨#[47]⟩) ∧ W.cell? ⟨b + 2, 0, none⟩ = some (.int .i64 0)
/-- What a round keeps: the three boxes. -/
def KpB (b : Nat) (W W' : World) : Prop := ∀ s, Boxes b W s → Boxes b W' s
def leftB (b : Nat) (W : World) : Nat := match W.cell? ⟨b, 0, none⟩ with | some (.string t) => t.size | _ => 0
theorem Boxes.left {b : Nat} {W : World} {s : ByteArray} (h : Boxes b W s) : leftB b W = s.size := by unfold leftB; rw [h.1]
theorem Boxes.set {b : Nat} {W : World} {s : ByteArray} (h : Boxes b W s) (t : ByteArray) : Boxes b (W.setCell ⟨b, 0, none⟩ (.string t)) t := by
  obtain ⟨h1, h2, h3, h4⟩ := h
  refine ⟨World.cell?_setCell_same' _ _ _ (by rw [h1]; rfl), by rw [World.frozen?_setCell]; exact h2, ?_, ?_⟩
  · rw [World.cell?_of_block (Below.heap_setCell W ⟨b, 0, none⟩ _ (b + 1) (by show b + 1 ≠ b; omega))]; exact h3
  · rw [World.cell?_of_block (Below.heap_setCell W ⟨b, 0, none⟩ _ (b + 2) (by show b + 2 ≠ b; omega))]; exact h4
set_option maxRecDepth 100000 in
set_option maxHeartbeats 2000000 in
theorem split_in (l b : Nat) (J Jx : List Tx → World → Prop) (L : List Tx)
    (hJ : ∀ pre W1 t, J pre W1 → J pre (W1.setCell ⟨b, 0, none⟩ (.string t)))
    (hY : ∀ pre (x : ByteArray) W1, J pre W1 → YieldAt Fence.wide 1 Tryd.prog l #[.string x] W1 fun e W' =>
      (e = .returned (.bool true) ∧ J (pre ++ [x.data.toList]) W' ∧ KpB b W1 W') ∨ (e = .returned (.bool false) ∧ Jx (pre ++ [x.data.toList]) W'))
    (s : ByteArray) (hs : s.size < 9223372036854775808) (hL : L = nms s.data.toList) (W : World) (hB : Boxes b W s) (h0 : J [] W) :
    CallsIn Fence.wide 2 Tryd.prog 87 #[.func (.yield l) #[] #[], .pointer (some ⟨b + 1, 0, none⟩), .pointer (some ⟨b, 0, none⟩), .pointer (some ⟨b + 2, 0, none⟩)] W
      fun e W' => (∃ v, e = .returned v) ∧ (J L W' ∨ ∃ pre, pre <+: L ∧ Jx pre W') := by
  have HB := Lib.hid hB
  obtain ⟨c1, c2, c3, c4⟩ := hB
  refine callsIn_of_wp Tryd.func87 rfl trivial ?_ rfl
  simp only [Tryd.ntmps87, List.size_toArray, List.length_cons, List.length_nil, Nat.reduceAdd, Nat.reduceSub, Array.replicate_succ, Array.replicate_zero, List.push_toArray, List.append_toArray, List.nil_append, List.cons_append]
  gi_wp2
  gi_loopw [7, 8] (fun _ _ wr => ∃ (pre : List Tx) (t : ByteArray), L = pre ++ nms t.data.toList ∧ t.size < 9223372036854775808 ∧ Boxes b wr t ∧ J pre wr) (fun _ _ wr => leftB b wr)
  case atStart => exact ⟨[], s, by rw [hL]; rfl, hs, HB.out, h0⟩
  case round =>
    obtain ⟨pre, t, hx, ht, hB, hJs⟩ := hrel
    have HB := Lib.hid hB
    have HX := Lib.hid hx
    obtain ⟨c1, c2, c3, c4⟩ := hB
    rcases idx_cases t.data.toList with ⟨hi, hno⟩ | ⟨i, hil, hi, hcut, hno⟩
    · have H1 : ∀ w1, Calls Tryd.prog 89 #[.string t, .string ⟨#[47]⟩] w1 fun e w' => e = .returned (.int .i64 (-1)) ∧ w' = w1 := fun w1 => by rw [← hi]; exact index_any t w1
      have HN : L = pre ++ [t.data.toList] := by rw [hx, nms_plain hno]
      obtain ⟨fn, tmps, assign, body, hy, hR⟩ := hY pre t wr hJs
      clear hx hi hno
      gi_wp2_with (first | (refine ⟨trivial, ?_⟩; gi_at_call 89; refine (callsIn_wide.2 (H1 _)).mono ?_; rintro e w' ⟨rfl, rfl⟩))
      refine hR.mono ?_
      rintro e W3 (⟨rfl, hJ3, hk3⟩ | ⟨rfl, hJx3⟩)
      · gi_wp2
        go_end0
        exact ⟨⟨_, rfl⟩, .inl (by rw [HN]; exact hJ3)⟩
      · gi_wp2
        go_end0
        exact ⟨⟨_, rfl⟩, .inr ⟨_, by rw [HN]; exact List.prefix_refl _, hJx3⟩⟩
    · have H1 : ∀ w1, Calls Tryd.prog 89 #[.string t, .string ⟨#[47]⟩] w1 fun e w' => e = .returned (.int .i64 (i : Int)) ∧ w' = w1 := fun w1 => by rw [← hi]; exact index_any t w1
      have hts : t.data.toList.length = t.size := rfl
      have hn := nms_hit hcut hno
      obtain ⟨fn, tmps, assign, body, hy, hR⟩ := hY pre (t.extract 0 i) wr hJs
      have e1 : (t.extract 0 i).data.toList = t.data.toList.take i := by rw [Lib.extract_data]; simp
      have e2 : (t.extract (i + 1) t.size).data.toList = t.data.toList.drop (i + 1) := by rw [Lib.extract_data, List.take_of_length_le]; rw [List.length_drop, hts]; exact Nat.le_refl _
      have e3 : (t.extract (i + 1) t.size).size = t.size - (i + 1) := by rw [ByteArray.size_extract]; omega
      rw [e1] at hR
      have HN : L = (pre ++ [t.data.toList.take i]) ++ nms (t.extract (i + 1) t.size).data.toList := by rw [hx, hn, e2]; simp
      have k1 : IntKind.i64.wrap (i : Int) = (i : Int) := by rw [IntWalk.i64_in _ (by omega)]
      have k2 : IntKind.i64.wrap ((i : Int) + 1) = ((i + 1 : Nat) : Int) := by rw [IntWalk.i64_in _ (by omega)]; omega
      have k3 : ¬ (i : Int) < 0 := by omega
      clear hx hi hno hn hcut
      gi_wp2_with (first | (refine ⟨trivial, ?_⟩; gi_at_call 89; refine (callsIn_wide.2 (H1 _)).mono ?_; rintro e w' ⟨rfl, rfl⟩))
      refine hR.mono ?_
      rintro e W3 (⟨rfl, hJ3, hk3⟩ | ⟨rfl, hJx3⟩)
      · have HB3 := Lib.hid (hk3 _ HB.out)
        have HK := Lib.hid (hJ _ _ (t.extract (i + 1) t.size) hJ3)
        obtain ⟨d1, d2, d3, d4⟩ := HB3.out
        clear hJ3 hJs c1 c2 c3 c4 hk3
        gi_wp2
        go_roundw
        case rel => exact ⟨_, _, HN, by rw [e3]; omega, HB3.out.set _, HK.out⟩
        case measure => rw [(HB3.out.set _).left, HB.out.left, e3]; omega
      · have HN2 := Lib.hid HN
        clear HN
        gi_wp2
        refine bodyPost_ret (results_none rfl _ _ _) rfl ?_
        exact ⟨⟨_, rfl⟩, .inr ⟨_, ⟨_, HN2.out.symm⟩, hJx3⟩⟩
end Go.Proofs.YthpendoblgndcaaDoor
/- Contracts: package path's goodByte, goodName. No condition. -/
namespace Go.Proofs.YthpendoblgndcaaDoor
open Go.RowKit
set_option maxHeartbeats 400000 in
theorem goodByte_any (c : UInt8) (w : World) :
    Calls Tryd.prog 82 #[.int .u8 (c.toNat : Int)] w fun e w' => e = .returned (.bool (okByte c)) ∧ w' = w := by
  obtain ⟨n, hn⟩ : ∃ n : Nat, n = c.toNat := ⟨_, rfl⟩
  have e1 : (c == 46) = decide (n = 46) := by rw [hn, Bool.eq_iff_iff]; simp [← UInt8.toNat_inj]
  have e2 : (c == 45) = decide (n = 45) := by rw [hn, Bool.eq_iff_iff]; simp [← UInt8.toNat_inj]
  have e3 : (c == 95) = decide (n = 95) := by rw [hn, Bool.eq_iff_iff]; simp [← UInt8.toNat_inj]
  unfold okByte
  rw [e1, e2, e3, ← hn]
  clear e1 e2 e3 hn
  go_enter Tryd.func82, Tryd.ntmps82
  go_wp2_with fail
  all_goals go_ret
  all_goals refine ⟨?_, rfl⟩
  all_goals refine congrArg (fun b => Ending.returned (.bool b)) ?_
  all_goals rw [Bool.eq_iff_iff]
  all_goals simp only [Bool.or_eq_true, Bool.and_eq_true, decide_eq_true_eq, beq_iff_eq, true_iff]
  all_goals omega
set_option maxHeartbeats 1000000 in
theorem goodName_any (s : ByteArray) (w : World) :
    Calls Tryd.prog 74 #[.string s] w fun e w' => e = .returned (.bool (okName s.data.toList)) ∧ w' = w := by
  have hl : s.toList = s.data.toList := Lib.toList_data s
  obtain ⟨r, hr⟩ : ∃ r, okName s.data.toList = r := ⟨_, rfl⟩
  have HR := Lib.hid hr
  rw [hr]
  clear hr
  go_enter Tryd.func74, Tryd.ntmps74
  go_wp2_with fail
  all_goals first
    | (go_ret; refine ⟨congrArg (fun b => Ending.returned (.bool b)) ?_, rfl⟩; rw [← HR.out]; symm; apply okName_bad; simp_all; done)
    | skip
  have HG := Lib.hid ((okName_good s (by assumption) (by assumption) (by assumption) (by simp_all)).symm.trans HR.out)
  rename_i f1 f2 f3 f4 _ _
  have hs : s.size < 4611686018427387904 := by omega
  clear f1 f2 f3 f4 hl HR
  go_loop [3, 21] (fun _ vi => ∃ i : Nat, i ≤ s.size ∧ vi = .int .i64 i ∧ (s.data.toList.take i).all okByte = true) (fun _ vi => s.size - (intOf vi).toNat)
  case atStart => exact ⟨0, by omega, rfl, rfl⟩
  case round =>
    obtain ⟨i, hi, rfl, hall⟩ := hrel
    by_cases hlt : i < s.size
    · have hx := all_take_succ (byte_at s i hlt)
      rw [hall, Bool.true_and] at hx
      have HX := Lib.hid hx
      have H1 := Lib.hid (fun w1 => goodByte_any (s[i]'hlt) w1)
      clear hx hall
      cases hb : okByte (s[i]'hlt) with
      | true =>
        rw [hb] at H1 HX
        clear hb
        go_wp2_with (first | ((with_reducible refine (H1.out _).mono ?_); rintro e w1 ⟨rfl, rfl⟩))
        go_round
        case rel => exact ⟨i + 1, by omega, by go_num, HX.out⟩
        case measure => simp [intOf]; omega
      | false =>
        rw [hb] at H1 HX
        clear hb
        go_wp2_with (first | ((with_reducible refine (H1.out _).mono ?_); rintro e w1 ⟨rfl, rfl⟩))
        go_ret
        refine ⟨congrArg (fun b => Ending.returned (.bool b)) ?_, rfl⟩
        rw [← HG.out]
        have h1 := HX.out
        rw [← List.take_append_drop (i + 1) s.data.toList, List.all_append, h1, Bool.false_and]
    · have hil : i = s.size := by omega
      subst hil
      have e : s.data.toList.take s.size = s.data.toList := List.take_of_length_le (Nat.le_of_eq rfl)
      rw [e] at hall
      have HA := Lib.hid hall
      have k1 : ¬ (s.size : Int) < (s.size : Int) := by omega
      clear hlt hall e
      go_wp2_with fail
      go_ret
      exact ⟨congrArg (fun b => Ending.returned (.bool b)) (HA.out.symm.trans HG.out), rfl⟩
end Go.Proofs.YthpendoblgndcaaDoor
/- Contract: package path's Good: whether a text may be a path. Condition: the text is shorter than 2^62 bytes. -/
namespace Go.Proofs.YthpendoblgndcaaDoor
open Go.RowKit Go.Shelf
set_option maxHeartbeats 400000 in
theorem splitSeq_any (s : ByteArray) (w : World) :
    Calls Tryd.prog 81 #[.string s, .string ⟨#[47]⟩, .int .i64 0] w fun e w' => e = .returned (.func (.func 87) #[] #[.pointer (some ⟨w.heap.size + 1, 0, none⟩), .pointer (some ⟨w.heap.size, 0, none⟩), .pointer (some ⟨w.heap.size + 2, 0, none⟩)]) ∧
      w' = ((w.alloc (.cells #[.string s] 9)).alloc (.cells #[.string ⟨#[47]⟩] 9)).alloc (.cells #[.int .i64 0] 3) := by
  go_enter Tryd.func81, Tryd.ntmps81
  go_wp2_with fail
  go_ret
  exact ⟨by simp, rfl⟩
set_option maxHeartbeats 400000 in
theorem SplitSeq_any (s : ByteArray) (w : World) :
    Calls Tryd.prog 73 #[.string s, .string ⟨#[47]⟩] w fun e w' => e = .returned (.func (.func 87) #[] #[.pointer (some ⟨w.heap.size + 1, 0, none⟩), .pointer (some ⟨w.heap.size, 0, none⟩), .pointer (some ⟨w.heap.size + 2, 0, none⟩)]) ∧
      w' = ((w.alloc (.cells #[.string s] 9)).alloc (.cells #[.string ⟨#[47]⟩] 9)).alloc (.cells #[.int .i64 0] 3) := by
  have H1 := Lib.hid (fun w1 => splitSeq_any s w1)
  go_enter Tryd.func73, Tryd.ntmps73
  go_wp2_with (first | ((with_reducible refine (H1.out _).mono ?_); rintro e w1 ⟨rfl, rfl⟩))
  go_ret
  exact ⟨rfl, rfl⟩
attribute [local go_sem] Oper.semAt_some
theorem box_cell {W : World} {k : Nat} {v : Value} {t : TypeId} (h : W.heap[k]? = some (.cells #[v] t)) : W.cell? ⟨k, 0, none⟩ = some v ∧ W.frozen? ⟨k, 0, none⟩ = false := by
  unfold World.cell? World.frozen?; simp [h]
/-- What Good's own two boxes hold between two rounds. -/
def GI (B : Nat) (w : World) (pre : List Tx) (W : World) : Prop :=
  Below B w W ∧ B + 5 ≤ W.heap.size ∧ W.cell? ⟨B, 0, none⟩ = some (.bool false) ∧ W.frozen? ⟨B, 0, none⟩ = false ∧ W.cell? ⟨B + 1, 0, none⟩ = some (.int .i64 (pre.length : Int)) ∧ W.frozen? ⟨B + 1, 0, none⟩ = false ∧ pre.all okName = true ∧ pre.length ≤ 4
def GX (B : Nat) (w : World) (pre : List Tx) (W : World) : Prop :=
  Below B w W ∧ B + 5 ≤ W.heap.size ∧ W.cell? ⟨B, 0, none⟩ = some (.bool false) ∧ (4 < pre.length ∨ pre.all okName = false)
theorem put_cell {W : World} {l k : Nat} {o : Obj} (h : k ≠ l) : (W.putObj l o).cell? ⟨k, 0, none⟩ = W.cell? ⟨k, 0, none⟩ ∧ (W.putObj l o).frozen? ⟨k, 0, none⟩ = W.frozen? ⟨k, 0, none⟩ :=
  ⟨World.cell?_of_block (World.putObj_heap_other h), World.frozen?_of_block (World.putObj_heap_other h)⟩
theorem set_cell {W : World} {l k : Nat} {v : Value} (h : k ≠ l) : (W.setCell ⟨l, 0, none⟩ v).cell? ⟨k, 0, none⟩ = W.cell? ⟨k, 0, none⟩ ∧ (W.setCell ⟨l, 0, none⟩ v).frozen? ⟨k, 0, none⟩ = W.frozen? ⟨k, 0, none⟩ :=
  ⟨World.cell?_of_block (Below.heap_setCell W ⟨l, 0, none⟩ v k h), World.frozen?_of_block (Below.heap_setCell W ⟨l, 0, none⟩ v k h)⟩
theorem new_cell {W : World} {k : Nat} {o : Obj} (h : k < W.heap.size) : (W.alloc o).cell? ⟨k, 0, none⟩ = W.cell? ⟨k, 0, none⟩ ∧ (W.alloc o).frozen? ⟨k, 0, none⟩ = W.frozen? ⟨k, 0, none⟩ :=
  ⟨World.cell?_of_block (Below.heap_alloc W o k h), World.frozen?_of_block (Below.heap_alloc W o k h)⟩
theorem size_set (W : World) (a : Addr) (v : Value) : (W.setCell a v).heap.size = W.heap.size := by
  show (W.heap.modify _ _).size = _; rw [Array.size_modify]
theorem below_put {B : Nat} {w W : World} (h : Below B w W) (hw : B ≤ W.heap.size) {l : Nat} (hl : B ≤ l) (o : Obj) : Below B w (W.putObj l o) :=
  h.grown (grownBy_putObj' W l o) hw (fun k e => by cases e; exact hl)
theorem GI.put {B : Nat} {w : World} {pre : List Tx} {W : World} (h : GI B w pre W) {l : Nat} (hl : B + 5 ≤ l) (o : Obj) : GI B w pre (W.putObj l o) := by
  obtain ⟨h1, h2, h3, h4, h5, h6, h7⟩ := h
  have p0 := put_cell (W := W) (o := o) (show B ≠ l by omega)
  have p1 := put_cell (W := W) (o := o) (show B + 1 ≠ l by omega)
  exact ⟨below_put h1 (by omega) (by omega) o, by rw [World.putObj_size]; exact h2, p0.1.trans h3, p0.2.trans h4, p1.1.trans h5, p1.2.trans h6, h7⟩
theorem GX.put {B : Nat} {w : World} {pre : List Tx} {W : World} (h : GX B w pre W) {l : Nat} (hl : B + 5 ≤ l) (o : Obj) : GX B w pre (W.putObj l o) := by
  obtain ⟨h1, h2, h3, h7⟩ := h
  have p0 := put_cell (W := W) (o := o) (show B ≠ l by omega)
  exact ⟨below_put h1 (by omega) (by omega) o, by rw [World.putObj_size]; exact h2, p0.1.trans h3, h7⟩
theorem GI.new {B : Nat} {w : World} {pre : List Tx} {W : World} (h : GI B w pre W) (o : Obj) : GI B w pre (W.alloc o) := by
  obtain ⟨h1, h2, h3, h4, h5, h6, h7⟩ := h
  have p0 := new_cell (W := W) (o := o) (show B < W.heap.size by omega)
  have p1 := new_cell (W := W) (o := o) (show B + 1 < W.heap.size by omega)
  exact ⟨h1.alloc (by omega) o, by rw [World.size_alloc]; omega, p0.1.trans h3, p0.2.trans h4, p1.1.trans h5, p1.2.trans h6, h7⟩
theorem GI.set {B : Nat} {w : World} {pre : List Tx} {W : World} (h : GI B w pre W) (t : ByteArray) : GI B w pre (W.setCell ⟨B + 2, 0, none⟩ (.string t)) := by
  obtain ⟨h1, h2, h3, h4, h5, h6, h7⟩ := h
  have p0 := set_cell (W := W) (v := .string t) (show B ≠ B + 2 by omega)
  have p1 := set_cell (W := W) (v := .string t) (show B + 1 ≠ B + 2 by omega)
  exact ⟨h1.setCell (p := ⟨B + 2, 0, none⟩) (by show B ≤ B + 2; omega) _, by rw [size_set]; exact h2, p0.1.trans h3, p0.2.trans h4, p1.1.trans h5, p1.2.trans h6, h7⟩
theorem KpB.put {B l : Nat} (W : World) (hl : B + 5 ≤ l) (o : Obj) : KpB (B + 2) W (W.putObj l o) := fun s h => by
  obtain ⟨h1, h2, h3, h4⟩ := h
  exact ⟨(put_cell (show B + 2 ≠ l by omega)).1.trans h1, (put_cell (show B + 2 ≠ l by omega)).2.trans h2, (put_cell (show B + 2 + 1 ≠ l by omega)).1.trans h3, (put_cell (show B + 2 + 2 ≠ l by omega)).1.trans h4⟩
theorem Boxes.below {b : Nat} {w W : World} {s : ByteArray} (h : Boxes b w s) (hB : Below w.heap.size w W) (hb : b + 2 < w.heap.size) : Boxes b W s := by
  obtain ⟨h1, h2, h3, h4⟩ := h
  exact ⟨(hB.cell (p := ⟨b, 0, none⟩) (by show b < _; omega)).trans h1, (hB.frozen (p := ⟨b, 0, none⟩) (by show b < _; omega)).trans h2, (hB.cell (p := ⟨b + 1, 0, none⟩) (by show b + 1 < _; omega)).trans h3, (hB.cell (p := ⟨b + 2, 0, none⟩) (by show b + 2 < _; omega)).trans h4⟩
theorem ok_of_all {s : ByteArray} (h1 : (nms s.data.toList).all okName = true) (h2 : (nms s.data.toList).length ≤ 4) : okPath s.data.toList = true := by
  unfold okPath; rw [h1, decide_eq_true h2]; rfl
theorem not_ok_of {s : ByteArray} {pre : List Tx} (hp : pre <+: nms s.data.toList) (h : 4 < pre.length ∨ pre.all okName = false) : okPath s.data.toList = false := by
  obtain ⟨t, ht⟩ := hp
  unfold okPath
  rw [← ht]
  rcases h with h | h
  · rw [decide_eq_false (by rw [List.length_append]; omega)]; rfl
  · rw [List.all_append, h]; simp
set_option maxRecDepth 100000 in
set_option maxHeartbeats 2000000 in
theorem good_any (s : ByteArray) (hs : s.size < 9223372036854775808) (w : World) :
    Calls Tryd.prog 61 #[.string s] w fun e w' => e = .returned (.bool (okPath s.data.toList)) ∧ Below w.heap.size w w' := by
  obtain ⟨r, hr⟩ : ∃ r, okPath s.data.toList = r := ⟨_, rfl⟩
  have HR := Lib.hid hr
  rw [hr]
  clear hr
  refine (callsIn_wide (n := 3)).1 ?_
  refine callsIn_of_wp_marks Tryd.func61 rfl trivial ?_ rfl
  simp only [Tryd.ntmps61, List.size_toArray, List.length_cons, List.length_nil, Nat.reduceAdd, Nat.reduceSub, Array.replicate_succ, Array.replicate_zero, List.push_toArray, List.append_toArray, List.nil_append, List.cons_append]
  gi_wp2_with (first | (refine ⟨trivial, ?_⟩; gi_at_call 73; refine (callsIn_wide.2 (SplitSeq_any _ _)).mono ?_; rintro e w' ⟨rfl, rfl⟩))
  obtain ⟨B, hB⟩ : ∃ B, w.heap.size = B := ⟨_, rfl⟩
  obtain ⟨W0, hW0⟩ : ∃ W0, ((((w.alloc (.cells #[.bool false] 4)).alloc (.cells #[.int .i64 0] 3)).alloc (.cells #[.string s] 9)).alloc (.cells #[.string ⟨#[47]⟩] 9)).alloc (.cells #[.int .i64 0] 3) = W0 := ⟨_, rfl⟩
  have z0 : W0.heap.size = B + 5 := by rw [← hW0, ← hB]; simp
  have hblk : ∀ k : Nat, W0.heap[k]? = ((((((w.heap.push (.cells #[.bool false] 4)).push (.cells #[.int .i64 0] 3)).push (.cells #[.string s] 9)).push (.cells #[.string ⟨#[47]⟩] 9)).push (.cells #[.int .i64 0] 3)))[k]? := fun k => by rw [← hW0]; rfl
  have b0 : W0.heap[B]? = some (.cells #[.bool false] 4) := by rw [hblk, ← hB]; simp only [Array.getElem?_push, Array.size_push]; (repeat' split) <;> first | rfl | omega | exact absurd trivial ‹¬ True›
  have b1 : W0.heap[B + 1]? = some (.cells #[.int .i64 0] 3) := by rw [hblk, ← hB]; simp only [Array.getElem?_push, Array.size_push]; (repeat' split) <;> first | rfl | omega | exact absurd trivial ‹¬ True›
  have b2 : W0.heap[B + 2]? = some (.cells #[.string s] 9) := by rw [hblk, ← hB]; simp only [Array.getElem?_push, Array.size_push]; (repeat' split) <;> first | rfl | omega | exact absurd trivial ‹¬ True›
  have b3 : W0.heap[B + 2 + 1]? = some (.cells #[.string ⟨#[47]⟩] 9) := by rw [hblk, ← hB]; simp only [Array.getElem?_push, Array.size_push]; (repeat' split) <;> first | rfl | omega | exact absurd trivial ‹¬ True›
  have b4 : W0.heap[B + 2 + 2]? = some (.cells #[.int .i64 0] 3) := by rw [hblk, ← hB]; simp only [Array.getElem?_push, Array.size_push]; (repeat' split) <;> first | rfl | omega | exact absurd trivial ‹¬ True›
  have hX : Boxes (B + 2) W0 s := ⟨(box_cell b2).1, (box_cell b2).2, (box_cell b3).1, (box_cell b4).1⟩
  have hbl : Below B w W0 := by
    rw [← hW0, ← hB]
    exact ((((((Below.refl _ w).alloc (Nat.le_refl _) _).alloc (by simp) _).alloc (by simp; omega) _).alloc (by simp; omega) _).alloc (by simp; omega) _)
  rw [hW0, hB]
  have HW := Lib.hid hW0
  have HB := Lib.hid hB
  clear hblk hW0 hB
  have e3 : B + 1 + 1 = B + 2 := rfl
  have e4 : B + 2 + 1 = B + 2 + 1 := rfl
  refine range_law (gf := 87) (lb := #[.pointer (some ⟨B + 2 + 1, 0, none⟩), .pointer (some ⟨B + 2, 0, none⟩), .pointer (some ⟨B + 2 + 2, 0, none⟩)]) rfl (enters_of Tryd.func87 (by kernel_rfl) rfl)
    (B + 2) (by omega) rfl (nms s.data.toList) (Kp := KpB (B + 2)) (fun h k t ht => k t (h t ht)) (fun W l o hl => KpB.put W (by omega) o)
    (fun l J Jx W hW hJ hY h0 => split_in l (B + 2) J Jx _ hJ hY s hs rfl W (hX.below hW (by omega)) h0)
    (GI B w) (GX B w) (fun _ _ _ o hl h => h.put (by omega) o) (fun _ _ _ o hl h => h.put (by omega) o) (fun _ _ o h => h.new o) (fun _ _ t h => h.set t)
    ⟨hbl, by omega, (box_cell b0).1, (box_cell b0).2, (box_cell b1).1, (box_cell b1).2, rfl, by decide⟩
    (fun x => { tmps := #[.string s, undef, .pointer (some ⟨B, 0, none⟩), .pointer (some ⟨B + 1, 0, none⟩), .string x, .string s, .func (.func 87) #[] #[.pointer (some ⟨B + 2 + 1, 0, none⟩), .pointer (some ⟨B + 2, 0, none⟩), .pointer (some ⟨B + 2 + 2, 0, none⟩)], .string x, undef, undef, undef, undef, undef, undef, undef, undef, undef], defers := [] }) ?assign ?body ?done ?stop
  case assign =>
    intro l x W K hK
    gi_wp2
    exact hK
  case body =>
    rintro l pre x W hGI
    have HGI := Lib.hid hGI
    obtain ⟨q1, q2, q3, q4, q5, q6, q7, q8⟩ := hGI
    have p0 : ∀ v : Value, ((W.setCell ⟨B + 1, 0, none⟩ v).cell? ⟨B, 0, none⟩ = some (.bool false)) ∧ (W.setCell ⟨B + 1, 0, none⟩ v).frozen? ⟨B, 0, none⟩ = false := fun v => by
      obtain ⟨a, b⟩ := set_cell (W := W) (v := v) (show B ≠ B + 1 by omega)
      exact ⟨a.trans q3, b.trans q4⟩
    have p1 : ∀ v : Value, ((W.setCell ⟨B + 1, 0, none⟩ v).cell? ⟨B + 1, 0, none⟩ = some v) ∧ (W.setCell ⟨B + 1, 0, none⟩ v).frozen? ⟨B + 1, 0, none⟩ = false := fun v =>
      ⟨World.cell?_setCell_same' _ _ _ (by rw [q5]; rfl), by rw [World.frozen?_setCell]; exact q6⟩
    have pB : ∀ v : Value, Below B w (W.setCell ⟨B + 1, 0, none⟩ v) := fun v => q1.setCell (p := ⟨B + 1, 0, none⟩) (by show B ≤ B + 1; omega) _
    have pS : ∀ v : Value, B + 5 ≤ (W.setCell ⟨B + 1, 0, none⟩ v).heap.size := fun v => by rw [size_set]; exact q2
    have PS := Lib.hid pS
    have PB := Lib.hid pB
    have P0 := Lib.hid p0
    have P1 := Lib.hid p1
    have kw : IntKind.i64.wrap ((pre.length : Int) + 1) = (pre.length : Int) + 1 := by rw [IntWalk.i64_in _ (by omega)]
    obtain ⟨pa, pb⟩ := p0 (.int .i64 ((pre.length : Int) + 1))
    obtain ⟨pc, pd⟩ := p1 (.int .i64 ((pre.length : Int) + 1))
    have hkp : ∀ v : Value, KpB (B + 2) W (W.setCell ⟨B + 1, 0, none⟩ v) := fun v k hk => by
      obtain ⟨h1, h2, h3, h4⟩ := hk
      exact ⟨(set_cell (show B + 2 ≠ B + 1 by omega)).1.trans h1, (set_cell (show B + 2 ≠ B + 1 by omega)).2.trans h2, (set_cell (show B + 2 + 1 ≠ B + 1 by omega)).1.trans h3, (set_cell (show B + 2 + 2 ≠ B + 1 by omega)).1.trans h4⟩
    have HK := Lib.hid hkp
    clear hkp
    have H1 := Lib.hid (fun w1 => goodName_any x w1)
    have HA := Lib.hid q7
    clear p0 p1 pB pS q7
    have hl1 : ∀ y : Tx, (pre ++ [y]).length = pre.length + 1 := fun y => by simp
    have HL := Lib.hid hl1
    clear hl1
    by_cases h4 : 4 < pre.length + 1
    · have k4 : (4 : Int) < (pre.length : Int) + 1 := by omega
      gi_wp2_with (refine ⟨trivial, ?_⟩)
      refine ⟨(KeepsOthers.setCell _ _ _).trans (KeepsOthers.setCell _ _ _), ?_⟩
      exact ⟨(PB.out _).setCell (p := ⟨B, 0, none⟩) (Nat.le_refl _) _, by rw [size_set]; exact PS.out _, World.cell?_setCell_same' _ _ _ (by rw [pa]; rfl), .inl (by rw [HL.out]; exact h4)⟩
    · have k4 : ¬ (4 : Int) < (pre.length : Int) + 1 := by omega
      cases hb : okName x.data.toList with
      | true =>
        rw [hb] at H1
        have HB := Lib.hid hb
        clear hb
        gi_wp2_with (first | (refine ⟨trivial, ?_⟩; gi_at_call 74; refine (CallsIn.inRound l (callsIn_wide.2 (H1.out _))).mono ?_; rintro e w' ⟨rfl, rfl⟩))
        exact ⟨KeepsOthers.setCell _ _ _, HK.out _, PB.out _, PS.out _, pa, pb, by rw [HL.out]; simpa using pc, pd, by rw [List.all_append, HA.out]; simp [HB.out], by rw [HL.out]; omega⟩
      | false =>
        rw [hb] at H1
        have HB := Lib.hid hb
        clear hb
        gi_wp2_with (first | (refine ⟨trivial, ?_⟩; gi_at_call 74; refine (CallsIn.inRound l (callsIn_wide.2 (H1.out _))).mono ?_; rintro e w' ⟨rfl, rfl⟩))
        refine ⟨(KeepsOthers.setCell _ _ _).trans (KeepsOthers.setCell _ _ _), ?_⟩
        exact ⟨(PB.out _).setCell (p := ⟨B, 0, none⟩) (Nat.le_refl _) _, by rw [size_set]; exact PS.out _, World.cell?_setCell_same' _ _ _ (by rw [pa]; rfl), .inr (by rw [List.all_append]; simp [HB.out])⟩
  case done =>
    rintro D W hD ⟨q1, q2, q3, q4, q5, q6, q7, q8⟩ hK
    have hr : r = true := HR.out.symm.trans (ok_of_all q7 q8)
    subst hr
    have HQ := Lib.hid q1
    have HK := Lib.hid hK
    clear q1 q5 q6 q7 q8
    gi_wp2
    have hK' := (KeepsOthers.setCell W ⟨B, 0, none⟩ (.bool true)).same D _ HK.out rfl
    have c5 := (put_cell (W := W.setCell ⟨B, 0, none⟩ (.bool true)) (o := .deferred none) (show B ≠ D by omega)).1.trans (World.cell?_setCell_same' W ⟨B, 0, none⟩ (.bool true) (by rw [q3]; rfl))
    refine ⟨by simp, .inl ⟨_, _, rfl, run_takeDeferred hK', ?_⟩⟩
    refine ⟨.bool true, ?_, rfl, ?_⟩
    · simp [results, Tryd.f61, go_sem, c5]
    · rw [HB.out]
      exact below_put (HQ.out.setCell (p := ⟨B, 0, none⟩) (Nat.le_refl _) _) (by rw [size_set]; omega) (by omega) _
  case stop =>
    rintro D pre W hD hp ⟨q1, q2, q3, q4⟩ hK
    have hr : r = false := HR.out.symm.trans (not_ok_of hp q4)
    subst hr
    have HQ := Lib.hid q1
    clear q1 q4
    gi_wp2
    have c5 := (put_cell (W := W) (o := .deferred none) (show B ≠ D by omega)).1.trans q3
    refine ⟨by simp, .inl ⟨_, _, rfl, run_takeDeferred hK, ?_⟩⟩
    refine ⟨.bool false, ?_, rfl, ?_⟩
    · simp [results, Tryd.f61, go_sem, c5]
    · rw [HB.out]
      exact below_put HQ.out (by omega) (by omega) _
end Go.Proofs.YthpendoblgndcaaDoor
/- Contracts: package tree's size, fits, goodEntry. Condition: all bytes together at most 2^62. -/
namespace Go.Proofs.YthpendoblgndcaaDoor
open Go.RowKit
set_option maxHeartbeats 4000000 in
set_option maxRecDepth 100000 in
theorem tsize_any (C : List Ent) (q : Option Addr) (c : Nat) (hm : C.length ≤ 100000) (hb : bytesT C ≤ 4611686018427387904) (w : World) (hs : Sees w w.heap.size q (rowC C)) (hE : Ents w C) :
    Calls Tryd.prog 48 #[.slice q C.length c] w fun e w' => e = .returned (.int .i64 (bytesT C : Int)) ∧ Below w.heap.size w w' := by
  have HS := Lib.hid hs
  have HE := Lib.hid hE
  clear hs hE
  go_enter Tryd.func48, Tryd.ntmps48
  go_wp2_with fail
  go_loopw [3, 5, 8] (fun vn _ vi wr => ∃ i : Nat, i ≤ C.length ∧ vi = .int .i64 i ∧ vn = .int .i64 (bytesT (C.take i) : Int) ∧ Below w.heap.size w wr) (fun _ _ vi _ => C.length - (intOf vi).toNat)
  case atStart => exact ⟨0, by omega, rfl, rfl, Below.refl _ _⟩
  case round =>
    rename_i wr
    obtain ⟨i, hi, rfl, rfl, hB⟩ := hrel
    have HB := Lib.hid hB
    clear hB
    by_cases hlt : i < C.length
    · obtain ⟨a, rfl, ha, hc⟩ := HS.out.ent hlt
      obtain ⟨c1, c2, c3⟩ := hc wr HB.out
      obtain ⟨qb, cb, hv, _, _, _⟩ := HE.out C[i] (List.getElem_mem hlt)
      have kk : (i : Int) < (C.length : Int) := by omega
      have hadd := bytesT_add C i hlt
      have htot := bytesT_take C (i + 1)
      obtain ⟨e, he⟩ : ∃ e, C[i] = e := ⟨_, rfl⟩
      rw [he] at c1 c2 c3 hv hadd
      obtain ⟨x, d, bv, bb⟩ := e
      have hv' : bv = .slice qb (List.length bb) cb := hv
      subst hv'
      simp only [] at c1 c2 c3
      have hbb : Ent.by (x, d, Value.slice qb (List.length bb) cb, bb) = bb := rfl
      rw [hbb] at hadd
      clear hc ha he hv hbb
      obtain ⟨s0, hs0⟩ : ∃ s0, bytesT (C.take i) = s0 := ⟨_, rfl⟩
      obtain ⟨s1, hs1⟩ : ∃ s1, bytesT (C.take (i + 1)) = s1 := ⟨_, rfl⟩
      rw [hs0] at hadd ⊢
      rw [hs1] at hadd htot
      have kw : IntKind.i64.wrap ((s0 : Int) + (bb.length : Int)) = (s1 : Int) := by rw [IntWalk.i64_in _ (by omega)]; omega
      have HS1 := Lib.hid hs1
      clear hs0 hs1 hadd htot
      go_wp2_with fail
      go_roundw
      case rel => exact ⟨i + 1, by omega, by go_num, by rw [HS1.out], HB.out.alloc HB.out.size _⟩
      case measure => simp [intOf]; omega
    · have hil : i = C.length := by omega
      subst hil
      have k0 : ¬ (C.length : Int) < (C.length : Int) := by omega
      rw [List.take_length]
      clear hlt
      go_wp2_with fail
      go_ret
      exact ⟨rfl, HB.out⟩
def fitsT (C : List Ent) : Bool := decide (C.length ≤ 40) && decide (bytesT C ≤ 16384)
set_option maxHeartbeats 4000000 in
theorem tfits_any (C : List Ent) (q : Option Addr) (c : Nat) (hm : C.length ≤ 100000) (hb : bytesT C ≤ 4611686018427387904) (w : World) (hs : Sees w w.heap.size q (rowC C)) (hE : Ents w C) :
    Calls Tryd.prog 55 #[.slice q C.length c] w fun e w' => e = .returned (.bool (fitsT C)) ∧ Below w.heap.size w w' := by
  have HSZ := Lib.hid (fun w1 h1 h2 => tsize_any C q c hm hb w1 h1 h2)
  have HS := Lib.hid hs
  have HE := Lib.hid hE
  clear hs hE
  unfold fitsT
  by_cases h1 : C.length ≤ 40
  · have k1 : (C.length : Int) ≤ 40 := by omega
    rw [decide_eq_true h1, Bool.true_and]
    by_cases h2 : bytesT C ≤ 16384
    · have k2 : (bytesT C : Int) ≤ 16384 := by omega
      rw [decide_eq_true h2]
      go_enter Tryd.func55, Tryd.ntmps55
      go_wp2_with (first | ((with_reducible refine (HSZ.out _ HS.out HE.out).mono ?_); rintro e w1 ⟨rfl, hb1⟩; have HB := Lib.hid hb1; clear hb1))
      go_ret
      exact ⟨rfl, HB.out⟩
    · have k2 : ((bytesT C : Int) ≤ 16384) = False := eq_false (by omega)
      rw [decide_eq_false h2]
      go_enter Tryd.func55, Tryd.ntmps55
      go_wp2_with (first | ((with_reducible refine (HSZ.out _ HS.out HE.out).mono ?_); rintro e w1 ⟨rfl, hb1⟩; have HB := Lib.hid hb1; clear hb1))
      go_ret
      exact ⟨rfl, HB.out⟩
  · have k1 : ¬ (C.length : Int) ≤ 40 := by omega
    rw [decide_eq_false h1, Bool.false_and]
    go_enter Tryd.func55, Tryd.ntmps55
    go_wp2_with fail
    go_ret
    exact ⟨rfl, Below.refl _ _⟩
/-- A block that was made stands behind what the calls since have laid. -/
theorem boxed {w w1 : World} {t : TypeId} {cs : Array Value} (hb : Below (w.alloc (.cells cs t)).heap.size (w.alloc (.cells cs t)) w1) : Has w1 w.heap.size t cs.toList :=
  (Has.made w t cs).keep hb (by simp)
/-- Whether an entry may be, wherever it is. -/
def okEnt (e : Ent) : Bool := !(e.dir && decide (0 < e.by.length)) && (okPath e.pa && decide (e.by.length ≤ 2048))
set_option maxHeartbeats 4000000 in
theorem tgoodEntry_any (x : ByteArray) (d : Bool) (qb : Option Addr) (cb : Nat) (bb : List (BitVec 8)) (hx : x.size < 9223372036854775808) (w : World) :
    Calls Tryd.prog 56 #[.agg #[.string x, .bool d, .slice qb bb.length cb]] w fun e w' => e = .returned (.bool (okEnt (x, d, .slice qb bb.length cb, bb))) ∧ Below w.heap.size w w' := by
  have HG := Lib.hid (fun w1 => good_any x hx w1)
  have hpa : okEnt (x, d, .slice qb bb.length cb, bb) = (!(d && decide (0 < bb.length)) && (okPath x.data.toList && decide (bb.length ≤ 2048))) := rfl
  rw [hpa]
  clear hpa
  generalize okPath x.data.toList = G at *
  by_cases h0 : d = true ∧ 0 < bb.length
  · obtain ⟨rfl, h0⟩ := h0
    have k0 : (0 : Int) < (bb.length : Int) := by omega
    rw [decide_eq_true h0]
    go_enter Tryd.func56, Tryd.ntmps56
    go_wp2_with fail
    go_ret
    exact ⟨rfl, (Below.refl _ _).alloc (Nat.le_refl _) _⟩
  · have hd : (d && decide (0 < bb.length)) = false := by
      cases d with
      | false => rfl
      | true => rw [decide_eq_false (fun h => h0 ⟨rfl, h⟩)]; rfl
    rw [hd]
    by_cases h2 : bb.length ≤ 2048
    · have k2 : (bb.length : Int) ≤ 2048 := by omega
      rw [decide_eq_true h2]
      cases d with
      | false =>
        cases G <;>
        · go_enter Tryd.func56, Tryd.ntmps56
          go_wp2_with (first | ((with_reducible refine (HG.out _).mono ?_); rintro e w1 ⟨rfl, hb1⟩; have q2 := (boxed hb1).cellv (i := 2) (v := .slice qb bb.length cb) rfl; have HB := Lib.hid (((Below.refl _ w).alloc (Nat.le_refl _) _).trans (hb1.mono (by simp))); clear hb1))
          go_ret
          exact ⟨rfl, HB.out⟩
      | true =>
        have k3 : ¬ (0 : Int) < (bb.length : Int) := fun h => h0 ⟨rfl, by omega⟩
        cases G <;>
        · go_enter Tryd.func56, Tryd.ntmps56
          go_wp2_with (first | ((with_reducible refine (HG.out _).mono ?_); rintro e w1 ⟨rfl, hb1⟩; have q2 := (boxed hb1).cellv (i := 2) (v := .slice qb bb.length cb) rfl; have HB := Lib.hid (((Below.refl _ w).alloc (Nat.le_refl _) _).trans (hb1.mono (by simp))); clear hb1))
          go_ret
          exact ⟨rfl, HB.out⟩
    · have k2 : ((bb.length : Int) ≤ 2048) = False := eq_false (by omega)
      rw [decide_eq_false h2]
      cases d with
      | false =>
        cases G <;>
        · go_enter Tryd.func56, Tryd.ntmps56
          go_wp2_with (first | ((with_reducible refine (HG.out _).mono ?_); rintro e w1 ⟨rfl, hb1⟩; have q2 := (boxed hb1).cellv (i := 2) (v := .slice qb bb.length cb) rfl; have HB := Lib.hid (((Below.refl _ w).alloc (Nat.le_refl _) _).trans (hb1.mono (by simp))); clear hb1))
          go_ret
          exact ⟨rfl, HB.out⟩
      | true => exact absurd ⟨rfl, by omega⟩ h0
end Go.Proofs.YthpendoblgndcaaDoor
/- Contract: package path's Cmp. Condition: texts shorter than 2^63 bytes. -/
namespace Go.Proofs.YthpendoblgndcaaDoor
open Go.RowKit Go.Shelf
set_option maxHeartbeats 400000 in
theorem rank_any (c : UInt8) (w : World) :
    Calls Tryd.prog 76 #[.int .u8 (c.toNat : Int)] w fun e w' => e = .returned (.int .i64 (rankB c)) ∧ w' = w := by
  have hl : c.toNat < 256 := UInt8.toNat_lt c
  unfold rankB
  by_cases h : c = 47
  · rw [if_pos h, h]
    go_enter Tryd.func76, Tryd.ntmps76
    go_wp2_with fail
    go_ret
    exact ⟨rfl, rfl⟩
  · rw [if_neg h]
    have k1 : ¬ (c.toNat : Int) = 47 := fun e => h (UInt8.toNat_inj.1 (by show c.toNat = 47; omega))
    have kw : IntKind.i64.wrap (c.toNat : Int) = (c.toNat : Int) := by rw [IntWalk.i64_in _ (by omega)]
    generalize c.toNat = n at *
    clear h hl
    go_enter Tryd.func76, Tryd.ntmps76
    go_wp2_with fail
    go_ret
    exact ⟨rfl, rfl⟩
theorem drop_at (s : ByteArray) (i : Nat) (h : i < s.size) : s.data.toList.drop i = (s[i]'h) :: s.data.toList.drop (i + 1) := by
  have e := byte_at s i h
  obtain ⟨h1, h2⟩ := List.getElem?_eq_some_iff.1 e
  rw [List.drop_eq_getElem_cons h1, h2]
theorem drop_end (s : ByteArray) : s.data.toList.drop s.size = [] := List.drop_of_length_le (Nat.le_of_eq rfl)
theorem cmpL_drop (x y : List UInt8) : cmpL x y = Lib.compareInt x.length y.length ∨ (x ≠ [] ∧ y ≠ []) := by
  cases x <;> cases y
  · left; rfl
  · left; symm; exact cmpI_lt (by simp)
  · left; symm; exact cmpI_gt (by simp)
  · right; simp
set_option maxHeartbeats 4000000 in
set_option maxRecDepth 100000 in
theorem cmp_any (a b : ByteArray) (ha : a.size < 9223372036854775808) (hb : b.size < 9223372036854775808) (w : World) :
    Calls Tryd.prog 64 #[.string a, .string b] w fun e w' => e = .returned (.int .i64 (cmpL a.data.toList b.data.toList)) ∧ ∃ q, w' = w.drewN q := by
  obtain ⟨V, hV⟩ : ∃ V, cmpL a.data.toList b.data.toList = V := ⟨_, rfl⟩
  have HV := Lib.hid hV
  rw [hV]
  clear hV
  go_enter Tryd.func64, Tryd.ntmps64
  go_wp2_with fail
  go_loopw [5, 11] (fun _ vi wr => ∃ i q : Nat, i ≤ min a.size b.size ∧ vi = .int .i64 i ∧ cmpL (a.data.toList.drop i) (b.data.toList.drop i) = V ∧ wr = w.drewN q) (fun _ vi _ => min a.size b.size - (intOf vi).toNat)
  case atStart => exact ⟨0, 0, by omega, rfl, HV.out, rfl⟩
  case round =>
    obtain ⟨i, q, hi, rfl, hv, rfl⟩ := hrel
    by_cases hlt : i < min a.size b.size
    · have ia : i < a.size := by omega
      have ib : i < b.size := by omega
      rw [drop_at a i ia, drop_at b i ib, cmpL] at hv
      have HVV := Lib.hid hv
      have HR1 := Lib.hid (fun w1 => rank_any (a[i]'ia) w1)
      have HR2 := Lib.hid (fun w1 => rank_any (b[i]'ib) w1)
      have k1 : (i : Int) < (a.size : Int) := by omega
      have k2 : (i : Int) < (b.size : Int) := by omega
      have k3 : (0 : Int) ≤ (i : Int) := by omega
      clear hv
      have kd : a[i]'ia = b[i]'ib ∨ ¬ ((a[i]'ia).toNat : Int) = ((b[i]'ib).toNat : Int) := by
        by_cases h : a[i]'ia = b[i]'ib
        · exact .inl h
        · exact .inr (fun e => h (UInt8.toNat_inj.1 (by omega)))
      have HD := Lib.hid kd
      clear kd
      go_wp2_with fail
      refine wp_region_org [(0, true), (1, true), (2, true), (3, true), (4, true), (5, true), (6, true)] (by kernel_rfl) (by kernel_rfl) (by kernel_rfl) ?_
      have e1 : (w.drewN q).drew = w.drewN (q + 1) := rfl
      rw [e1]
      clear e1
      simp only [pickOrs, List.getElem?_cons_zero, List.getElem?_cons_succ]
      refine org_pure (v := ?_) (by kernel_rfl) ?_ ?_
      rotate_left
      · intro w' hv; clear hv; go_simp; try with_reducible rfl
      try simp only [Act.put, List.setIfInBounds_toArray, List.set_cons_zero, List.set_cons_succ]
      refine org_pure (v := ?_) (by kernel_rfl) ?_ ?_
      rotate_left
      · intro w' hv; clear hv; go_simp; try with_reducible rfl
      try simp only [Act.put, List.setIfInBounds_toArray, List.set_cons_zero, List.set_cons_succ]
      refine org_pure (v := ?_) (by kernel_rfl) ?_ ?_
      rotate_left
      · intro w' hv; clear hv; go_simp; try with_reducible rfl
      try simp only [Act.put, List.setIfInBounds_toArray, List.set_cons_zero, List.set_cons_succ]
      refine org_pure (v := ?_) (by kernel_rfl) ?_ ?_
      rotate_left
      · intro w' hv; clear hv; go_simp; try with_reducible rfl
      try simp only [Act.put, List.setIfInBounds_toArray, List.set_cons_zero, List.set_cons_succ]
      refine org_pure (v := ?_) (by kernel_rfl) ?_ ?_
      rotate_left
      · intro w' hv; clear hv; go_simp; try with_reducible rfl
      try simp only [Act.put, List.setIfInBounds_toArray, List.set_cons_zero, List.set_cons_succ]
      refine org_pure (v := ?_) (by kernel_rfl) ?_ ?_
      rotate_left
      · intro w' hv; clear hv; go_simp; try with_reducible rfl
      try simp only [Act.put, List.setIfInBounds_toArray, List.set_cons_zero, List.set_cons_succ]
      refine org_pure (v := ?_) (by kernel_rfl) ?_ ?_
      rotate_left
      · intro w' hv; clear hv; go_simp; try with_reducible rfl
      try simp only [Act.put, List.setIfInBounds_toArray, List.set_cons_zero, List.set_cons_succ]
      refine org_nil ?_
      rcases HD.out with h | h
      · have hvv := HVV.out
        rw [if_pos h] at hvv
        have HV2 := Lib.hid hvv
        rw [h]
        clear hvv
        go_wp2_with fail
        go_roundw
        case rel => exact ⟨i + 1, q + 1, by omega, by go_num, HV2.out, rfl⟩
        case measure => simp [intOf]; omega
      · have hne : ¬ a[i]'ia = b[i]'ib := fun e => h (by rw [e])
        have hvv := HVV.out
        rw [if_neg hne] at hvv
        have HV2 := Lib.hid hvv
        have HC := Lib.hid (fun w1 => compare_any (rankB (a[i]'ia)) (rankB (b[i]'ib)) w1)
        rw [hvv] at HC
        clear hvv hne
        go_wp2_with fail
        refine wp_region_org [(0, true), (1, true), (2, true), (4, true), (5, true), (6, true), (3, false), (7, false), (8, false), (9, true)] (by kernel_rfl) (by kernel_rfl) (by kernel_rfl) ?_
        have e1 : (w.drewN (q + 1)).drew = w.drewN (q + 2) := rfl
        rw [e1]
        clear e1
        simp only [pickOrs, List.getElem?_cons_zero, List.getElem?_cons_succ]
        refine org_pure (v := ?_) (by kernel_rfl) ?_ ?_
        rotate_left
        · intro w' hv; clear hv; go_simp; try with_reducible rfl
        try simp only [Act.put, List.setIfInBounds_toArray, List.set_cons_zero, List.set_cons_succ]
        refine org_pure (v := ?_) (by kernel_rfl) ?_ ?_
        rotate_left
        · intro w' hv; clear hv; go_simp; try with_reducible rfl
        try simp only [Act.put, List.setIfInBounds_toArray, List.set_cons_zero, List.set_cons_succ]
        refine org_pure (v := ?_) (by kernel_rfl) ?_ ?_
        rotate_left
        · intro w' hv; clear hv; go_simp; try with_reducible rfl
        try simp only [Act.put, List.setIfInBounds_toArray, List.set_cons_zero, List.set_cons_succ]
        refine org_pure (v := ?_) (by kernel_rfl) ?_ ?_
        rotate_left
        · intro w' hv; clear hv; go_simp; try with_reducible rfl
        try simp only [Act.put, List.setIfInBounds_toArray, List.set_cons_zero, List.set_cons_succ]
        refine org_pure (v := ?_) (by kernel_rfl) ?_ ?_
        rotate_left
        · intro w' hv; clear hv; go_simp; try with_reducible rfl
        try simp only [Act.put, List.setIfInBounds_toArray, List.set_cons_zero, List.set_cons_succ]
        refine org_pure (v := ?_) (by kernel_rfl) ?_ ?_
        rotate_left
        · intro w' hv; clear hv; go_simp; try with_reducible rfl
        try simp only [Act.put, List.setIfInBounds_toArray, List.set_cons_zero, List.set_cons_succ]
        refine org_step (by kernel_rfl) (fun K hK => ?_)
        go_wp2_with fail
        refine (HR1.out _).mono ?_
        rintro e w1 ⟨rfl, rfl⟩
        refine hK _ _ ⟨Ext.refl _, ?_⟩
        clear hK
        try simp only [Act.put, List.setIfInBounds_toArray, List.set_cons_zero, List.set_cons_succ]
        refine org_step (by kernel_rfl) (fun K hK => ?_)
        go_wp2_with fail
        refine (HR2.out _).mono ?_
        rintro e w1 ⟨rfl, rfl⟩
        refine hK _ _ ⟨Ext.refl _, ?_⟩
        clear hK
        try simp only [Act.put, List.setIfInBounds_toArray, List.set_cons_zero, List.set_cons_succ]
        refine org_step (by kernel_rfl) (fun K hK => ?_)
        go_wp2_with fail
        refine (HC.out _).mono ?_
        rintro e w1 ⟨rfl, rfl⟩
        refine hK _ _ ⟨Ext.refl _, ?_⟩
        clear hK
        try simp only [Act.put, List.setIfInBounds_toArray, List.set_cons_zero, List.set_cons_succ]
        refine org_pure (v := ?_) (by kernel_rfl) ?_ ?_
        rotate_left
        · intro w' hv; clear hv; go_simp; try with_reducible rfl
        try simp only [Act.put, List.setIfInBounds_toArray, List.set_cons_zero, List.set_cons_succ]
        refine org_nil ?_
        go_wp2_with fail
        go_ret
        exact ⟨rfl, _, rfl⟩
    · have hil : i = min a.size b.size := by omega
      have hd := (cmpL_drop (a.data.toList.drop i) (b.data.toList.drop i)).resolve_right (fun ⟨h1, h2⟩ => by
        rcases (by omega : i = a.size ∨ i = b.size) with e | e
        · exact h1 (by rw [e]; exact drop_end a)
        · exact h2 (by rw [e]; exact drop_end b))
      rw [List.length_drop, List.length_drop] at hd
      have hsa : a.data.toList.length = a.size := rfl
      have hsb : b.data.toList.length = b.size := rfl
      have hc : Lib.compareInt (a.size : Int) (b.size : Int) = V := by
        rw [← hv, hd, hsa, hsb]
        unfold Lib.compareInt
        split <;> split <;> (try split) <;> (try split) <;> omega
      have HC := Lib.hid (fun w1 => compare_any (a.size : Int) (b.size : Int) w1)
      rw [hc] at HC
      have k1 : ¬ i < min a.size b.size := hlt
      clear hd hc hv hil hlt hsa hsb
      go_wp2_with (first | ((with_reducible refine (HC.out _).mono ?_); rintro e w1 ⟨rfl, rfl⟩))
      go_ret
      exact ⟨rfl, _, rfl⟩
end Go.Proofs.YthpendoblgndcaaDoor
/- Contracts: package tree's where (slices.BinarySearchFunc at entries). Conditions: the entries are in order; paths shorter than 2^63 bytes. -/
namespace Go.Proofs.YthpendoblgndcaaDoor
open Go.RowKit
set_option maxHeartbeats 4000000 in
theorem tcmpE_any (x : ByteArray) (d : Bool) (bv : Value) (p : ByteArray) (hx : x.size < 9223372036854775808) (hp : p.size < 9223372036854775808) (w : World) :
    Calls Tryd.prog 63 #[.agg #[.string x, .bool d, bv], .string p] w fun e w' => e = .returned (.int .i64 (cmpL x.data.toList p.data.toList)) ∧ Below w.heap.size w w' := by
  have HC := Lib.hid (fun w1 => cmp_any x p hx hp w1)
  go_enter Tryd.func63, Tryd.ntmps63
  go_wp2_with (first | ((with_reducible refine (HC.out _).mono ?_); rintro e w1 ⟨rfl, nq, rfl⟩))
  go_ret
  exact ⟨rfl, below_drewN ((Below.refl _ _).alloc (Nat.le_refl _) _) _⟩
/-- The place of a path among entries in order: how many stand ahead of it. -/
def posT (C : List Ent) (p : Tx) : Nat := (C.takeWhile fun e => decide (cmpL e.pa p < 0)).length
theorem posT_le (C : List Ent) (p : Tx) : posT C p ≤ C.length := (List.takeWhile_prefix _).length_le
theorem tw_len {α : Type} (f : α → Bool) : ∀ (C : List α) (j : Nat), j ≤ C.length → (∀ k (hk : k < C.length), k < j → f C[k] = true) → (∀ k (hk : k < C.length), j ≤ k → f C[k] = false) → (C.takeWhile f).length = j
  | [], j, h, _, _ => by simp at h; subst h; rfl
  | e :: C, 0, _, _, h2 => by
    have h := h2 0 (by simp) (Nat.le_refl _)
    simp at h
    rw [List.takeWhile_cons, if_neg (by simp [h])]; rfl
  | e :: C, j + 1, h, h1, h2 => by
    have h0 := h1 0 (by simp) (by omega)
    simp at h0
    rw [List.takeWhile_cons, if_pos h0, List.length_cons, tw_len f C j (by simpa using h) (fun k hk hkj => h1 (k + 1) (by simpa using hk) (by omega)) (fun k hk hkj => h2 (k + 1) (by simpa using hk) (by omega))]
def hasT (C : List Ent) (p : Tx) : Bool := match C[posT C p]? with | some e => decide (cmpL e.pa p = 0) | none => false
set_option maxHeartbeats 16000000 in
set_option maxRecDepth 100000 in
theorem bsearch_any (C : List Ent) (q : Option Addr) (c : Nat) (p : ByteArray) (hm : C.length ≤ 100000) (hn : ∀ e ∈ C, e.1.size < 9223372036854775808) (hp : p.size < 9223372036854775808)
    (hup : ∀ i j (hi : i < C.length) (hj : j < C.length), i ≤ j → cmpL C[j].pa p.data.toList < 0 → cmpL C[i].pa p.data.toList < 0) (w : World) (hs : Sees w w.heap.size q (rowC C)) :
    Calls Tryd.prog 62 #[.slice q C.length c, .string p, .func (.func 63) #[] #[]] w fun e w' => e = .returned (.tuple #[.int .i64 (posT C p.data.toList : Int), .bool (hasT C p.data.toList)]) ∧ Below w.heap.size w w' := by
  have HS := Lib.hid hs
  have HN := Lib.hid hn
  have HUP := Lib.hid hup
  clear hs hn hup
  go_enter Tryd.func62, Tryd.ntmps62
  go_wp2_with fail
  go_loopw [9, 10, 11] (fun vi vj _ wr => ∃ i j : Nat, i ≤ j ∧ j ≤ C.length ∧ vi = .int .i64 i ∧ vj = .int .i64 j ∧ (∀ k (hk : k < C.length), k < i → cmpL C[k].pa p.data.toList < 0) ∧ (∀ k (hk : k < C.length), j ≤ k → 0 ≤ cmpL C[k].pa p.data.toList) ∧ Below w.heap.size w wr) (fun vi vj _ _ => (intOf vj).toNat - (intOf vi).toNat)
  case atStart => exact ⟨0, C.length, by omega, by omega, rfl, rfl, fun _ _ h => absurd h (by omega), fun _ _ h => absurd h (by omega), Below.refl _ _⟩
  case round =>
    rename_i wr
    obtain ⟨i, j, hij, hj, rfl, rfl, hlo, hhi, hB⟩ := hrel
    have HB := Lib.hid hB
    have HLO := Lib.hid hlo
    have HHI := Lib.hid hhi
    clear hB hlo hhi
    by_cases hlt : i < j
    · have kk : (i : Int) < (j : Int) := by omega
      obtain ⟨h, hh⟩ : ∃ h, (i + j) / 2 = h := ⟨_, rfl⟩
      have eh : ((i : Int) + (j : Int)) / 2 = (h : Int) := by omega
      have h1 : i ≤ h := by omega
      have h2 : h < j := by omega
      have hl : h < C.length := by omega
      have kh : (h : Int) < (C.length : Int) := by omega
      obtain ⟨a, rfl, ha, hc⟩ := HS.out.ent hl
      obtain ⟨c1, c2, c3⟩ := hc wr HB.out
      have hsz := HN.out C[h] (List.getElem_mem hl)
      have hpa : C[h].pa = C[h].1.data.toList := rfl
      have HLT : Hid (cmpL C[h].1.data.toList p.data.toList < 0 → ∀ k (hk : k < C.length), k < h + 1 → cmpL C[k].pa p.data.toList < 0) := Lib.hid (fun h0 k hk hkh => HUP.out k h hk hl (by omega) h0)
      have HGE : Hid (¬ cmpL C[h].1.data.toList p.data.toList < 0 → ∀ k (hk : k < C.length), h ≤ k → 0 ≤ cmpL C[k].pa p.data.toList) := Lib.hid (fun h0 k hk hkh => by
        rcases Int.lt_or_le (cmpL C[k].pa p.data.toList) 0 with h | h
        · exact absurd (HUP.out _ k hl hk hkh h) h0
        · exact h)
      generalize C[h].1 = x at *
      generalize C[h].2.1 = d at *
      generalize C[h].2.2.1 = bv at *
      have HC := Lib.hid (fun w1 => tcmpE_any x d bv p hsz hp w1)
      clear hc ha hpa hsz hh
      generalize cmpL x.data.toList p.data.toList = K at *
      by_cases hK : K < 0
      · go_wp2_with (first | ((with_reducible refine (HC.out _).mono ?_); rintro e w1 ⟨rfl, hb1⟩; replace HB := Lib.hid (HB.out.trans (hb1.mono HB.out.size)); clear hb1))
        go_roundw
        case rel => exact ⟨h + 1, j, by omega, hj, by go_num, rfl, HLT.out hK, HHI.out, HB.out⟩
        case measure => simp [intOf]; omega
      · have hKf : (K < 0) = False := eq_false hK
        go_wp2_with (first | ((with_reducible refine (HC.out _).mono ?_); rintro e w1 ⟨rfl, hb1⟩; replace HB := Lib.hid (HB.out.trans (hb1.mono HB.out.size)); clear hb1))
        go_roundw
        case rel => exact ⟨i, h, by omega, by omega, rfl, rfl, HLO.out, HGE.out hK, HB.out⟩
        case measure => simp [intOf]; omega
    · have hji : j = i := by omega
      subst hji
      have k0 : ¬ (j : Int) < (j : Int) := by omega
      have hpos : posT C p.data.toList = j := tw_len _ C j hj (fun k hk h => decide_eq_true (HLO.out k hk h)) (fun k hk h => decide_eq_false (Int.not_lt.2 (HHI.out k hk h)))
      have HP := Lib.hid hpos
      have HHAS : Hid (hasT C p.data.toList = match C[j]? with | some e => decide (cmpL e.pa p.data.toList = 0) | none => false) := Lib.hid (by unfold hasT; rw [hpos])
      by_cases hl : j < C.length
      · obtain ⟨a, rfl, ha, hc⟩ := HS.out.ent hl
        obtain ⟨c1, c2, c3⟩ := hc wr HB.out
        have hsz := HN.out C[j] (List.getElem_mem hl)
        have kh : (j : Int) < (C.length : Int) := by omega
        rw [List.getElem?_eq_getElem hl] at HHAS
        have hpa : C[j].pa = C[j].1.data.toList := rfl
        simp only [hpa] at HHAS
        generalize C[j].1 = x at *
        generalize C[j].2.1 = d at *
        generalize C[j].2.2.1 = bv at *
        have HC := Lib.hid (fun w1 => tcmpE_any x d bv p hsz hp w1)
        clear hc ha hpa hsz hpos
        generalize cmpL x.data.toList p.data.toList = K at *
        by_cases hK : K = 0
        · subst hK
          go_wp2_with (first | ((with_reducible refine (HC.out _).mono ?_); rintro e w1 ⟨rfl, hb1⟩; replace HB := Lib.hid (HB.out.trans (hb1.mono HB.out.size)); clear hb1))
          go_ret2
          exact ⟨by rw [HP.out, HHAS.out]; rfl, HB.out⟩
        · have hKf : (K = 0) = False := eq_false hK
          go_wp2_with (first | ((with_reducible refine (HC.out _).mono ?_); rintro e w1 ⟨rfl, hb1⟩; replace HB := Lib.hid (HB.out.trans (hb1.mono HB.out.size)); clear hb1))
          go_ret2
          exact ⟨by rw [HP.out, HHAS.out]; simp [hK], HB.out⟩
      · have kh : ¬ (j : Int) < (C.length : Int) := by omega
        rw [List.getElem?_eq_none (by omega)] at HHAS
        clear hpos
        go_wp2_with fail
        go_ret2
        exact ⟨by rw [HP.out, HHAS.out]; rfl, HB.out⟩
set_option maxHeartbeats 1000000 in
theorem twhere_any (C : List Ent) (q : Option Addr) (c : Nat) (p : ByteArray) (hm : C.length ≤ 100000) (hn : ∀ e ∈ C, e.1.size < 9223372036854775808) (hp : p.size < 9223372036854775808)
    (hup : ∀ i j (hi : i < C.length) (hj : j < C.length), i ≤ j → cmpL C[j].pa p.data.toList < 0 → cmpL C[i].pa p.data.toList < 0) (w : World) (hs : Sees w w.heap.size q (rowC C)) :
    Calls Tryd.prog 33 #[.slice q C.length c, .string p] w fun e w' => e = .returned (.tuple #[.int .i64 (posT C p.data.toList : Int), .bool (hasT C p.data.toList)]) ∧ Below w.heap.size w w' := by
  have HC := Lib.hid (fun w1 h => bsearch_any C q c p hm hn hp hup w1 h)
  have HS := Lib.hid hs
  clear hs hn hup
  go_enter Tryd.func33, Tryd.ntmps33
  go_wp2_with (first | ((with_reducible refine (HC.out _ HS.out).mono ?_); rintro e w1 ⟨rfl, hb1⟩; have HB := Lib.hid hb1; clear hb1))
  go_ret2
  exact ⟨rfl, HB.out⟩
end Go.Proofs.YthpendoblgndcaaDoor
/- Contract: package path's Up. Condition: a text shorter than 2^61 bytes. -/
namespace Go.Proofs.YthpendoblgndcaaDoor
open Go.RowKit Go.Shelf
set_option maxHeartbeats 800000 in
theorem up_any (s : ByteArray) (hs : s.size < 2305843009213693952) (w : World) :
    Calls Tryd.prog 47 #[.string s] w fun e w' => e = .returned (.tuple #[.string ⟨(upV s.data.toList).toArray⟩, .bool (okPath s.data.toList)]) ∧ Below w.heap.size w w' := by
  have H1 := Lib.hid (good_any s (by omega) w)
  have H2 := Lib.hid (fun w1 => lastIndex_any s (by omega) w1)
  obtain ⟨r, hr⟩ : ∃ r, Lib.lastIndexByte s 47 = r := ⟨_, rfl⟩
  have hsz : s.data.toList.length = s.size := rfl
  unfold upV
  cases hg : okPath s.data.toList with
  | false =>
    rw [hg] at H1
    clear hr H2 hsz
    go_enter Tryd.func47, Tryd.ntmps47
    go_wp2_with (first | ((with_reducible refine (H1.out).mono ?_); rintro e w1 ⟨rfl, hb1⟩))
    go_ret2
    exact ⟨rfl, hb1⟩
  | true =>
    rw [hg] at H1
    rw [hr] at H2
    rcases last_cases s with ⟨h1, h2⟩ | ⟨i, h0, h1, h2, h3⟩
    · have hu : upL s.data.toList = [] := (up_plain h2).1
      rw [if_pos rfl, hu]
      rw [h1] at hr
      subst hr
      clear h1 h2 hu hsz
      go_enter Tryd.func47, Tryd.ntmps47
      go_wp2_with (first | ((with_reducible refine (H1.out).mono ?_); rintro e w1 ⟨rfl, hb1⟩) | ((with_reducible refine (H2.out _).mono ?_); rintro e w1 ⟨rfl, rfl⟩))
      go_ret2
      exact ⟨congrArg (fun b => Ending.returned (.tuple #[.string b, .bool true])) (show s.extract 0 (max 0 (-1 : Int)).toNat = ⟨#[]⟩ from (cut_upT s 0).symm), hb1⟩
    · have hu : upL s.data.toList = s.data.toList.take i := by
        have h4 := (up_sep (s.data.toList.take i) (s.data.toList.drop (i + 1)) h3).1
        rwa [← h2] at h4
      rw [if_pos rfl, hu]
      rw [h1] at hr
      subst hr
      clear h1 h2 hu
      go_enter Tryd.func47, Tryd.ntmps47
      go_wp2_with (first | ((with_reducible refine (H1.out).mono ?_); rintro e w1 ⟨rfl, hb1⟩) | ((with_reducible refine (H2.out _).mono ?_); rintro e w1 ⟨rfl, rfl⟩))
      go_ret2
      exact ⟨congrArg (fun b => Ending.returned (.tuple #[.string b, .bool true])) (cut_upT s i).symm, hb1⟩
end Go.Proofs.YthpendoblgndcaaDoor
/- Contracts: the document's own At, Bytes. Conditions: at most 2^40 entries; all bytes together at most 2^62. -/
namespace Go.Proofs.YthpendoblgndcaaDoor
open Go.RowKit
set_option maxHeartbeats 4000000 in
set_option maxRecDepth 100000 in
theorem rat_any (C : List Ent) (q : Option Addr) (c : Nat) (p : ByteArray) (hm : C.length ≤ 1099511627776) (w : World) (hs : Sees w w.heap.size q (rowC C)) :
    Calls Tryd.prog 51 #[.slice q C.length c, .string p] w fun e w' => e = .returned (.int .i64 (atT C p.data.toList)) ∧ w = w' := by
  have HS := Lib.hid hs
  clear hs
  obtain ⟨V, hV⟩ : ∃ V, atT C p.data.toList = V := ⟨_, rfl⟩
  rw [hV]
  have HV := Lib.hid hV
  clear hV
  go_enter Tryd.func51, Tryd.ntmps51
  go_wp2_with fail
  go_loop [5] (fun vi => ∃ i : Nat, i ≤ C.length ∧ vi = .int .i64 i ∧ ∀ e ∈ C.take i, e.pa ≠ p.data.toList) (fun vi => C.length - (intOf vi).toNat)
  case atStart => exact ⟨0, by omega, rfl, by simp⟩
  case round =>
    obtain ⟨i, hi, rfl, hn⟩ := hrel
    have HN := Lib.hid hn
    clear hn
    by_cases hlt : i < C.length
    · obtain ⟨a, rfl, ha, hc⟩ := HS.out.ent hlt
      obtain ⟨c1, _, _⟩ := hc w (Below.refl _ _)
      have kk : (i : Int) < (C.length : Int) := by omega
      obtain ⟨x, hx⟩ : ∃ x, C[i].1 = x := ⟨_, rfl⟩
      rw [hx] at c1
      have hlx : x.toList = x.data.toList := Lib.toList_data x
      have hlp : p.toList = p.data.toList := Lib.toList_data p
      have hpa : C[i].pa = x.data.toList := by rw [← hx]; rfl
      have HPA := Lib.hid hpa
      clear hc ha hx hpa
      by_cases he : x.data.toList = p.data.toList
      · have hv : V = (i : Int) := by rw [← HV.out]; exact atT_at hlt HN.out (HPA.out.trans he)
        subst hv
        have k1 : (x.data.toList == p.data.toList) = true := by rw [beq_iff_eq]; exact he
        clear he
        go_wp2_with fail
        go_ret
        try exact ⟨rfl, rfl⟩
      · have k1 : (x.data.toList == p.data.toList) = false := by rw [beq_eq_false_iff_ne]; exact he
        have HNX : Hid (∀ e ∈ C.take (i + 1), e.pa ≠ p.data.toList) := Lib.hid (by
          intro e h
          rw [List.take_add_one, List.getElem?_eq_getElem hlt] at h
          rcases List.mem_append.1 h with h | h
          · exact HN.out e h
          · have : e = C[i] := by simpa using h
            rw [this, HPA.out]; exact he)
        clear he
        go_wp2_with fail
        go_round
        case rel => exact ⟨i + 1, by omega, by go_num, HNX.out⟩
        case measure => simp [intOf]; omega
    · have hil : i = C.length := by omega
      subst hil
      have k0 : ¬ (C.length : Int) < (C.length : Int) := by omega
      have hv : V = -1 := by rw [← HV.out]; exact atT_no (fun e he => HN.out e (by rw [List.take_length]; exact he))
      subst hv
      clear hlt
      go_wp2_with fail
      go_ret
      try exact ⟨rfl, rfl⟩
set_option maxHeartbeats 4000000 in
set_option maxRecDepth 100000 in
theorem rbytes_any (C : List Ent) (q : Option Addr) (c : Nat) (hm : C.length ≤ 1099511627776) (hb : bytesT C ≤ 4611686018427387904) (w : World) (hs : Sees w w.heap.size q (rowC C)) (hE : Ents w C) :
    Calls Tryd.prog 29 #[.slice q C.length c] w fun e w' => e = .returned (.int .i64 (bytesT C : Nat)) ∧ w = w' := by
  have HS := Lib.hid hs
  have HE := Lib.hid hE
  clear hs hE
  go_enter Tryd.func29, Tryd.ntmps29
  go_wp2_with fail
  go_loop [3, 4] (fun vn vi => ∃ i : Nat, i ≤ C.length ∧ vi = .int .i64 i ∧ vn = .int .i64 (bytesT (C.take i) : Nat)) (fun _ vi => C.length - (intOf vi).toNat)
  case atStart => exact ⟨0, by omega, rfl, rfl⟩
  case round =>
    obtain ⟨i, hi, rfl, rfl⟩ := hrel
    by_cases hlt : i < C.length
    · obtain ⟨a, rfl, ha, hc⟩ := HS.out.ent hlt
      obtain ⟨_, _, c1⟩ := hc w (Below.refl _ _)
      obtain ⟨qb, cb, hv, _, _, _⟩ := HE.out C[i] (List.getElem_mem hlt)
      have hadd := bytesT_add C i hlt
      have hle := bytesT_take C (i + 1)
      rw [show C[i].2.2.1 = .slice qb C[i].by.length cb from hv] at c1
      have kk : (i : Int) < (C.length : Int) := by omega
      obtain ⟨m, hm2⟩ : ∃ m, C[i].by.length = m := ⟨_, rfl⟩
      obtain ⟨s, hs2⟩ : ∃ s, bytesT (C.take i) = s := ⟨_, rfl⟩
      rw [hm2] at c1 hadd
      rw [hs2] at hadd ⊢
      rw [hadd] at hle
      have HAD := Lib.hid hadd
      clear hc ha hv hm2 hadd
      go_wp2_with fail
      go_round
      case rel => exact ⟨i + 1, by omega, by go_num, by rw [HAD.out]; go_num⟩
      case measure => simp [intOf]; omega
    · have hil : i = C.length := by omega
      subst hil
      have k0 : ¬ (C.length : Int) < (C.length : Int) := by omega
      rw [List.take_length]
      clear hlt
      go_wp2_with fail
      go_ret
      try exact ⟨rfl, rfl⟩
end Go.Proofs.YthpendoblgndcaaDoor
/- Contract: the document's own 'without'. Condition: at most 10^6 entries. -/
namespace Go.Proofs.YthpendoblgndcaaDoor
open Go.RowKit
theorem ent_info : (Tryd.prog.info? 51).map (fun i => (i.zero, i.size, i.bytes)) = some (some (.agg #[.string ⟨#[]⟩, .bool false, .slice none 0 0]), 3, 48) := by kernel_rfl
theorem own_base3 {w : World} {base n : Nat} {e : TypeId} {v : Value} {xs : List Value} (h : w.ownsRow base e 3 v n xs) : ∀ k, Value.ownBlock v = some k → base ≤ k := by
  intro k hk
  rcases h.2 with ⟨rfl, _⟩ | ⟨g, cap, cur, rfl, hb, _⟩
  · cases hk
  · have e : g = k := by simpa [Value.ownBlock] using hk
    omega
theorem own_below3 {w w' : World} {base n : Nat} {e : TypeId} {v : Value} {xs : List Value} (h : w.ownsRow base e 3 v n xs) (hb : RowKit.Below w.heap.size w w') : w'.ownsRow base e 3 v n xs :=
  h.kept (row := none) ⟨hb.os, hb.tape, hb.output, hb.size, fun k hk _ => hb.block k hk⟩ (by
    rcases h.2 with ⟨rfl, _⟩ | ⟨k, cap, cur, rfl, _⟩
    · exact .inl rfl
    · exact .inr (by simp [Value.ownBlock]))
/-- A row of entries of the call's own. -/
def OwnE (w : World) (base : Nat) (v : Value) (C : List Ent) : Prop := w.ownsRow base 51 3 v C.length (rowC C)
theorem OwnE.nil (w : World) (base : Nat) : OwnE w base (.slice none 0 0) [] := World.ownsRow_nil w base 51 3
theorem OwnE.tr {w : World} {base : Nat} {v : Value} {C : List Ent} (h : OwnE w base v C) : TrV w v C := by
  rcases h.2 with ⟨rfl, h0⟩ | ⟨g, cap, cur, rfl, hb, hg, h1, _⟩
  · have : C = [] := List.eq_nil_of_length_eq_zero h0
    subst this
    exact ⟨none, 0, rfl, Nat.le_refl _, fun _ => rfl, Sees.nil _ _ _⟩
  · refine ⟨_, cap, rfl, h1, fun e => by (cases e), fun _ => ⟨_, rfl, (Array.getElem?_eq_some_iff.1 hg).1, ?_⟩⟩
    exact World.ownsRow.cells h (g := g) rfl
/-- One entry is put behind a row that the call owns. -/
theorem wp_addE {ops : Array Oper} {rest : List Oper} {o : Oper} {a : Act} {Q : Exit → Act → World → Prop}
    (hgd : o.guard = none) (sl x : Operand) (ho : o.op = .call { callee := .builtin .append, args := #[sl, x], argTypes := #[44, 44] }) {w : World} {base : Nat} {v : Value} {C : List Ent} (R : OwnE w base v C) (hbase : base ≤ w.heap.size)
    (hs : a.eval sl = v) (g : Nat) (e : Ent) (hx : a.eval x = .slice (some ⟨g, 0, none⟩) 1 1) (hc : Has w g 51 (entC e)) (h1 : e.2.2.1.oneCell' = true) (hn : C.length ≤ 1000000)
    (h : ∀ v' w', OwnE w' base v' (C ++ [e]) → Below base w w' → wpList Tryd.prog ops Q rest (a.put o.dst v') w') : wpList Tryd.prog ops Q (o :: rest) a w := by
  obtain ⟨i0, hi, hz0, hz1, hz2⟩ := info_parts ent_info
  refine wpList_append_own _ hgd sl x 44 ho base 51 i0 _ 3 48 Tryd.underlying44 hi hz0 hz1 hz2 rfl (by decide) v C.length (rowC C) hs R ⟨g, 0, none⟩ 1 1 (entC e) hx rfl ?_ ?_ (by unfold maxLen; omega) ?_ hbase
    fun v' w' ho' hg' _ => h v' w' (by unfold OwnE; rw [rowC_add, List.length_append]; exact ho') ((Below.refl base w).grown hg' hbase (fun k hk => own_base3 R k hk))
  · intro j u hj
    have e2 : (Addr.add ⟨g, 0, none⟩ j) = ⟨g, j, none⟩ := by unfold Addr.add; split <;> simp_all
    rw [e2]; exact hc.cellv hj
  · intro u hu
    simp only [entC, List.mem_cons, List.mem_nil_iff, or_false] at hu
    rcases hu with rfl | rfl | rfl
    · rfl
    · rfl
    · exact h1
  · exact Nat.le_trans (Nat.mul_le_mul (show C.length + 1 ≤ 1000001 by omega) (Nat.le_refl 48)) (by decide)
def withoutT (C : List Ent) (p : Tx) : List Ent := C.filter fun e => !(e.pa == p)
set_option maxHeartbeats 4000000 in
set_option maxRecDepth 100000 in
theorem rwithout_any (C : List Ent) (q : Option Addr) (c : Nat) (p : ByteArray) (hm : C.length ≤ 1000000) (w : World) (hs : Sees w w.heap.size q (rowC C)) (hE : Ents w C) :
    Calls Tryd.prog 54 #[.slice q C.length c, .string p] w fun e w' => (∃ v, e = .returned v ∧ TrV w' v (withoutT C p.data.toList)) ∧ Below w.heap.size w w' := by
  have HS := Lib.hid hs
  have HE := Lib.hid hE
  have HNIL := Lib.hid (OwnE.nil w w.heap.size)
  clear hs hE
  go_enter Tryd.func54, Tryd.ntmps54
  go_wp2_with fail
  go_loopw [5, 6] (fun v vi wr => ∃ i : Nat, i ≤ C.length ∧ vi = .int .i64 i ∧ OwnE wr w.heap.size v (withoutT (C.take i) p.data.toList) ∧ Below w.heap.size w wr) (fun _ vi _ => C.length - (intOf vi).toNat)
  case atStart => exact ⟨0, by omega, rfl, HNIL.out, Below.refl _ _⟩
  case round =>
    rename_i wr
    obtain ⟨i, hi, rfl, hrow, hB⟩ := hrel
    have HROW := Lib.hid hrow
    have HB := Lib.hid hB
    clear hrow hB
    by_cases hlt : i < C.length
    · obtain ⟨a, rfl, ha, hc⟩ := HS.out.ent hlt
      obtain ⟨c1, c2, c3⟩ := hc wr HB.out
      obtain ⟨qb, cb, hv, _, _, _⟩ := HE.out C[i] (List.getElem_mem hlt)
      have kk : (i : Int) < (C.length : Int) := by omega
      have hgl : (withoutT (C.take i) p.data.toList).length ≤ i := Nat.le_trans (List.length_filter_le _ _) (List.length_take_le _ _)
      have htk : withoutT (C.take (i + 1)) p.data.toList = withoutT (C.take i) p.data.toList ++ (if (C[i].pa == p.data.toList) = true then [] else [C[i]]) := by
        unfold withoutT
        rw [List.take_add_one, List.getElem?_eq_getElem hlt, List.filter_append]
        cases hk : (C[i].pa == p.data.toList) <;> simp [hk]
      have HTK := Lib.hid htk
      obtain ⟨e, he⟩ : ∃ e, C[i] = e := ⟨_, rfl⟩
      rw [he] at c1 c2 c3 hv HTK
      obtain ⟨x, d, bv, bb⟩ := e
      simp only [] at c1 c2 c3
      have hv' : bv = .slice qb (List.length bb) cb := hv
      have h1 : bv.oneCell' = true := by rw [hv']; rfl
      have hlx : x.toList = x.data.toList := Lib.toList_data x
      have hlp : p.toList = p.data.toList := Lib.toList_data p
      clear hc ha hv hv' htk he
      cases hxp : (x.data.toList == p.data.toList) with
      | true =>
        have HNX : Hid (withoutT (C.take (i + 1)) p.data.toList = withoutT (C.take i) p.data.toList) := Lib.hid (by rw [HTK.out, if_pos (show (Ent.pa (x, d, bv, bb) == p.data.toList) = true from hxp), List.append_nil])
        go_wp2_with fail
        go_roundw
        case rel => exact ⟨i + 1, by omega, by go_num, by rw [HNX.out]; exact HROW.out, HB.out⟩
        case measure => simp [intOf]; omega
      | false =>
        have HNX : Hid (withoutT (C.take (i + 1)) p.data.toList = withoutT (C.take i) p.data.toList ++ [(x, d, bv, bb)]) := Lib.hid (by rw [HTK.out, if_neg (by rw [show (Ent.pa (x, d, bv, bb) == p.data.toList) = false from hxp]; simp)])
        have HLEN : Hid ((withoutT (C.take i) p.data.toList).length ≤ 1000000) := Lib.hid (by omega)
        go_wp2_with (refine wp_addE rfl (.tmp 20) (.tmp 25) rfl (base := w.heap.size) (World.ownsRow.alloc HROW.out (.cells #[.string x, .bool d, bv] 51)) (by have := HB.out.size; simp; omega) rfl wr.heap.size (x, d, bv, bb) rfl (Has.made' wr 51 #[.string x, .bool d, bv] _ rfl) h1 HLEN.out ?_; intro v3 w3 ho3 hb3; have HROW2 := Lib.hid ho3; have HB5 := Lib.hid hb3; clear ho3 hb3 HROW)
        go_roundw
        case rel => exact ⟨i + 1, by omega, by go_num, by rw [HNX.out]; exact HROW2.out, (HB.out.alloc HB.out.size _).trans HB5.out⟩
        case measure => simp [intOf]; omega
    · have hil : i = C.length := by omega
      subst hil
      have k0 : ¬ (C.length : Int) < (C.length : Int) := by omega
      rw [List.take_length] at HROW
      have HT := Lib.hid (OwnE.tr HROW.out)
      clear hlt HROW
      go_wp2_with fail
      go_ret
      first | exact ⟨⟨_, rfl, HT.out⟩, HB.out⟩ | exact ⟨HT.out, HB.out⟩
end Go.Proofs.YthpendoblgndcaaDoor
/- Contract: the document's own Up. Condition: a text of at most 2^20 bytes. -/
namespace Go.Proofs.YthpendoblgndcaaDoor
open Go.RowKit
set_option maxHeartbeats 2000000 in
theorem rup_any (s : ByteArray) (hs : s.size ≤ 1048576) (w : World) :
    Calls Tryd.prog 58 #[.string s] w fun e w' => e = .returned (.tuple #[.string ⟨(upV s.data.toList).toArray⟩, .bool (okPath s.data.toList)]) ∧ Below w.heap.size w w' := by
  have HG := Lib.hid (rgood_any s hs w)
  have HN := Lib.hid (fun w1 => names_any s hs w1)
  unfold upV upL
  cases hg : okPath s.data.toList with
  | false =>
    rw [hg] at HG
    clear hg
    go_enter Tryd.func58, Tryd.ntmps58
    go_wp2_with fail
    refine (HG.out).mono ?_
    rintro e w1 ⟨rfl, hb⟩
    go_wp2_with fail
    go_ret2
    exact ⟨rfl, hb⟩
  | true =>
    rw [hg] at HG
    rw [if_pos rfl]
    have hall : ∀ n ∈ nms s.data.toList, okName n = true ∧ 47 ∉ n := fun n hn => by
      unfold okPath at hg
      rw [Bool.and_eq_true] at hg
      exact ⟨List.all_eq_true.1 hg.2 n hn, nms_no _ n hn⟩
    have hn4 : (nms s.data.toList).length ≤ 4 := by
      unfold okPath at hg
      rw [Bool.and_eq_true] at hg
      exact of_decide_eq_true hg.1
    clear hg
    have h0 := nms_pos s.data.toList
    have hcl : (nms s.data.toList).length ≤ 1048577 := by rw [nms_count]; have : s.data.toList.count 47 ≤ s.data.toList.length := List.count_le_length; have : s.data.toList.length = s.size := rfl; omega
    generalize nms s.data.toList = N at *
    obtain ⟨V, hV⟩ : ∃ V : ByteArray, (⟨(jn N.dropLast).toArray⟩ : ByteArray) = V := ⟨_, rfl⟩
    have HV : Hid (V.data.toList = jn N.dropLast) := Lib.hid (by rw [← hV])
    rw [hV]
    clear hV
    go_enter Tryd.func58, Tryd.ntmps58
    go_wp2_with fail
    refine (HG.out).mono ?_
    rintro e w1 ⟨rfl, hb⟩
    have HB := Lib.hid hb
    clear hb
    go_wp2_with fail
    refine (HN.out _).mono ?_
    rintro e w2 ⟨⟨v, rfl, q, c, rfl, hc, hsee⟩, hb⟩
    replace HB := Lib.hid (HB.out.trans (hb.mono HB.out.size))
    clear hb
    obtain ⟨ad, rfl, hap, hcell⟩ := hsee.get (by rw [List.length_map]; omega)
    have HC := Lib.hid hcell
    clear hcell hsee
    go_wp2_with fail
    go_loop [5, 6] (fun vs vi => ∃ (i : Nat) (t : ByteArray), i + 1 ≤ N.length ∧ vi = .int .i64 i ∧ vs = .string t ∧ t.data.toList = jn (N.take i)) (fun _ vi => N.length - (intOf vi).toNat)
    case atStart => exact ⟨0, ⟨#[]⟩, by omega, rfl, rfl, rfl⟩
    case round =>
      obtain ⟨i, t, hi, rfl, rfl, ht⟩ := hrel
      have kw : IntKind.i64.wrap ((i : Int) + 1) = (i : Int) + 1 := by rw [IntWalk.i64_in _ (by omega)]
      have hts : t.size ≤ 68 := by
        have h1 := jn_len (T := N.take i) (fun n hn => hall n (List.mem_of_mem_take hn))
        rw [← ht] at h1
        have h2 : t.data.toList.length = t.size := rfl
        rw [h2, List.length_take] at h1
        omega
      by_cases hlt : i + 1 < N.length
      · have hil : i < N.length := by omega
        have c1 := HC.out i (.string ⟨N[i].toArray⟩) (by rw [List.getElem?_map, List.getElem?_eq_getElem hil]; rfl)
        have htk : N.take (i + 1) = N.take i ++ [N[i]] := by rw [List.take_add_one, List.getElem?_eq_getElem hil]; rfl
        have hx : (⟨N[i].toArray⟩ : ByteArray).data.toList = N[i] := rfl
        have hxs : (⟨N[i].toArray⟩ : ByteArray).size ≤ 16 := by
          have h1 := ok_len (hall N[i] (List.getElem_mem hil)).1
          show N[i].toArray.size ≤ 16
          simpa using h1
        have kl : (i : Int) + 1 < (N.length : Int) := by omega
        have kl2 : (i : Int) < (N.length : Int) := by omega
        by_cases h0 : i = 0
        · have hte : t.data.toList = [] := by rw [ht, h0]; rfl
          have ht0 : N.take i = [] := by rw [h0]; rfl
          have HRES : Hid ((t ++ ⟨N[i].toArray⟩).data.toList = jn (N.take (i + 1))) := Lib.hid (by
            rw [htk, ht0, ByteArray.data_append, Array.toList_append, hte, hx]; rfl)
          have k0 : ¬ (0 : Int) < (i : Int) := by omega
          have k0n : ¬ 0 < i := by omega
          clear ht0
          generalize (⟨N[i].toArray⟩ : ByteArray) = x at *
          clear htk hx h0 hte ht
          go_wp2_with fail
          go_round
          case rel => exact ⟨i + 1, _, by omega, by go_num, rfl, HRES.out⟩
          case measure => simp [intOf]; omega
        · have hne : N.take i ≠ [] := fun e => h0 (by have h9 := congrArg List.length e; rw [List.length_take, List.length_nil] at h9; omega)
          have HRES : Hid ((t ++ ⟨#[47]⟩ ++ ⟨N[i].toArray⟩).data.toList = jn (N.take (i + 1))) := Lib.hid (by
            rw [htk, jn_snoc hne, ByteArray.data_append, ByteArray.data_append, Array.toList_append, Array.toList_append, ht, hx]; simp)
          have k0 : (0 : Int) < (i : Int) := by omega
          have k0n : 0 < i := by omega
          generalize (⟨N[i].toArray⟩ : ByteArray) = x at *
          clear htk hx h0 hne ht
          go_wp2_with fail
          go_round
          case rel => exact ⟨i + 1, _, by omega, by go_num, rfl, HRES.out⟩
          case measure => simp [intOf]; omega
      · have hie : i + 1 = N.length := by omega
        have htv : t = V := by
          have h1 := HV.out
          rw [← take_last N hie, ← ht] at h1
          rw [← Lib.mk_data t, ← Lib.mk_data V, h1]
        subst htv
        have kl : ¬ (i : Int) + 1 < (N.length : Int) := by omega
        clear ht hlt hie
        go_wp2_with fail
        go_ret2
        exact ⟨rfl, HB.out⟩
end Go.Proofs.YthpendoblgndcaaDoor
/- Contract: the document's own 'room': what a new entry's Up tells. Conditions: at most 10^6 entries, a text of at most 2^20 bytes. -/
namespace Go.Proofs.YthpendoblgndcaaDoor
open Go.RowKit
def dirT (C : List Ent) (k : Nat) : Bool := ((C[k]?).map Ent.dir).getD false
/-- What stands at a text's place: 0 a directory (or the top), ENONE, EKIND. -/
def roomT (C : List Ent) (p : Tx) : Int := if upV p = [] then 0 else if atT C (upV p) < 0 then 5 else if dirT C (atT C (upV p)).toNat = true then 0 else 7
set_option maxHeartbeats 4000000 in
set_option maxRecDepth 100000 in
theorem rroom_any (C : List Ent) (q : Option Addr) (c : Nat) (p : ByteArray) (hm : C.length ≤ 1000000) (hp : p.size ≤ 1048576) (w : World) (hs : Sees w w.heap.size q (rowC C)) :
    Calls Tryd.prog 50 #[.slice q C.length c, .string p] w fun e w' => e = .returned (.int .i64 (roomT C p.data.toList)) ∧ Below w.heap.size w w' := by
  have HS := Lib.hid hs
  have HU := Lib.hid (fun w1 => rup_any p hp w1)
  clear hs
  obtain ⟨U, hU⟩ : ∃ U : ByteArray, (⟨(upV p.data.toList).toArray⟩ : ByteArray) = U := ⟨_, rfl⟩
  rw [hU] at HU
  have hUt : upV p.data.toList = U.data.toList := by rw [← hU]
  obtain ⟨V, hV⟩ : ∃ V, roomT C p.data.toList = V := ⟨_, rfl⟩
  rw [hV]
  unfold roomT at hV
  rw [hUt] at hV
  have HV := Lib.hid hV
  generalize okPath p.data.toList = G at *
  clear hV hU hUt
  go_enter Tryd.func50, Tryd.ntmps50
  go_wp2_with fail
  refine (HU.out _).mono ?_
  rintro e w1 ⟨rfl, hb⟩
  have HB := Lib.hid hb
  clear hb
  by_cases hU : U.data = #[]
  · have hv : V = 0 := by rw [← HV.out, hU]; rfl
    subst hv
    have k1 := no_text hU
    clear hU
    go_wp2_with fail
    go_ret
    exact ⟨rfl, HB.out⟩
  · have k1 := some_text hU
    have hne : U.data.toList ≠ [] := fun e => hU (by simpa using e)
    have hv := HV.out
    rw [if_neg hne] at hv
    have HV2 := Lib.hid hv
    have HAT := Lib.hid (fun w1 h => rat_any C q c U (by omega) w1 h)
    have hge := atT_ge C U.data.toList
    have hlt := atT_lt C U.data.toList
    clear hne hU hv
    obtain ⟨K, hK⟩ : ∃ K, atT C U.data.toList = K := ⟨_, rfl⟩
    rw [hK] at HAT HV2 hge hlt
    clear hK
    go_wp2_with fail
    refine (HAT.out _ ((HS.out.keep HB.out).more HB.out.size)).mono ?_
    rintro e w2 ⟨rfl, rfl⟩
    by_cases h0 : K < 0
    · have hv : V = 5 := by rw [← HV2.out, if_pos h0]
      subst hv
      go_wp2_with fail
      go_ret
      exact ⟨rfl, HB.out⟩
    · obtain ⟨k, rfl⟩ : ∃ k : Nat, K = (k : Int) := ⟨K.toNat, by omega⟩
      have hk : k < C.length := by omega
      obtain ⟨a, rfl, ha, hc⟩ := HS.out.ent hk
      obtain ⟨_, c2, _⟩ := hc w1 HB.out
      have hv := HV2.out
      rw [if_neg h0, show ((k : Int)).toNat = k from rfl] at hv
      have hd : dirT C k = C[k].2.1 := by unfold dirT; rw [List.getElem?_eq_getElem hk]; rfl
      rw [hd] at hv
      have HV3 := Lib.hid hv
      have kk : ¬ (k : Int) < 0 := h0
      have kl : (k : Int) < (C.length : Int) := hlt
      clear hc ha hv hd
      generalize C[k].2.1 = d at *
      cases d with
      | true =>
        have hv : V = 0 := by rw [← HV3.out]; rfl
        subst hv
        go_wp2_with fail
        go_ret
        exact ⟨rfl, HB.out⟩
      | false =>
        have hv : V = 7 := by rw [← HV3.out]; rfl
        subst hv
        go_wp2_with fail
        go_ret
        exact ⟨rfl, HB.out⟩
end Go.Proofs.YthpendoblgndcaaDoor
/- Contract: package tree's upIn. Conditions: the entries are in order; texts shorter than 2^61 bytes. -/
namespace Go.Proofs.YthpendoblgndcaaDoor
open Go.RowKit
/-- Entries in path's order. -/
def AscE (C : List Ent) : Prop := C.Pairwise fun a b => cmpL a.pa b.pa < 0
theorem cmpL_lt_le {p q r : Tx} (h1 : cmpL p q < 0) (h2 : cmpL q r ≤ 0) : cmpL p r < 0 := by
  have h3 := cmpL_trans (Int.le_of_lt h1) h2
  rcases Int.lt_or_le (cmpL p r) 0 with h | h
  · exact h
  · exfalso
    have h0 : cmpL p r = 0 := by omega
    have e := cmpL_zero.1 h0
    subst e
    rw [cmpL_neg] at h2
    omega
theorem cmpL_le_lt {p q r : Tx} (h1 : cmpL p q ≤ 0) (h2 : cmpL q r < 0) : cmpL p r < 0 := by
  have h3 := cmpL_trans h1 (Int.le_of_lt h2)
  rcases Int.lt_or_le (cmpL p r) 0 with h | h
  · exact h
  · exfalso
    have h0 : cmpL p r = 0 := by omega
    have e := cmpL_zero.1 h0
    subst e
    rw [cmpL_neg] at h1
    omega
theorem AscE.lt {C : List Ent} (h : AscE C) {i j : Nat} (hi : i < C.length) (hj : j < C.length) (hij : i < j) : cmpL C[i].pa C[j].pa < 0 :=
  List.pairwise_iff_getElem.1 h i j hi hj hij
theorem AscE.up {C : List Ent} (h : AscE C) (p : Tx) : ∀ i j (hi : i < C.length) (hj : j < C.length), i ≤ j → cmpL C[j].pa p < 0 → cmpL C[i].pa p < 0 := fun i j hi hj hij hl => by
  rcases Nat.lt_or_eq_of_le hij with h1 | rfl
  · exact cmpL_lt_le (h.lt hi hj h1) (Int.le_of_lt hl)
  · exact hl
theorem AscE.take {C : List Ent} (h : AscE C) (k : Nat) : AscE (C.take k) := h.sublist (List.take_sublist k C)
/-- Found by halving is found at all. -/
theorem asc_at : ∀ {C : List Ent}, AscE C → ∀ p, (hasT C p = true ∧ atT C p = (posT C p : Int) ∧ posT C p < C.length) ∨ (hasT C p = false ∧ atT C p = -1)
  | [], _, p => .inr ⟨rfl, rfl⟩
  | e :: C, h, p => by
    have h' := List.pairwise_cons.1 h
    by_cases hl : cmpL e.pa p < 0
    · have hp : posT (e :: C) p = posT C p + 1 := by unfold posT; rw [List.takeWhile_cons, if_pos (by simp [hl])]; rfl
      have hh : hasT (e :: C) p = hasT C p := by unfold hasT; rw [hp, List.getElem?_cons_succ]
      have hne : e.pa ≠ p := fun k => by rw [k, cmpL_self] at hl; omega
      rcases asc_at h'.2 p with ⟨h1, h2, h3⟩ | ⟨h1, h2⟩
      · refine .inl ⟨hh.trans h1, ?_, by rw [hp, List.length_cons]; omega⟩
        unfold atT; rw [if_neg hne, if_neg (by rw [h2]; omega), h2, hp]; rfl
      · refine .inr ⟨hh.trans h1, ?_⟩
        unfold atT; rw [if_neg hne, if_pos (by rw [h2]; decide)]
    · have hp : posT (e :: C) p = 0 := by unfold posT; rw [List.takeWhile_cons, if_neg (by simp [hl])]; rfl
      have hh : hasT (e :: C) p = decide (cmpL e.pa p = 0) := by unfold hasT; rw [hp]; rfl
      by_cases h0 : cmpL e.pa p = 0
      · refine .inl ⟨by rw [hh]; simp [h0], ?_, by rw [hp]; simp⟩
        unfold atT; rw [if_pos (cmpL_zero.1 h0), hp]; rfl
      · refine .inr ⟨by rw [hh]; simp [h0], atT_no fun x hx => ?_⟩
        rcases List.mem_cons.1 hx with rfl | hx
        · exact fun k => h0 (cmpL_zero.2 k)
        · intro k
          have := h'.1 x hx
          rw [k] at this
          exact hl this
theorem upV_len (p : Tx) : (upV p).length ≤ p.length := by
  unfold upV
  split
  · exact (up_less p).1
  · simp
set_option maxHeartbeats 4000000 in
set_option maxRecDepth 100000 in
theorem tupIn_any (C : List Ent) (q : Option Addr) (c : Nat) (p : ByteArray) (hm : C.length ≤ 100000) (hn : ∀ e ∈ C, e.1.size < 9223372036854775808) (hA : AscE C) (hp : p.size < 2305843009213693952) (w : World) (hs : Sees w w.heap.size q (rowC C)) :
    Calls Tryd.prog 34 #[.slice q C.length c, .string p] w fun e w' => e = .returned (.int .i64 (roomT C p.data.toList)) ∧ Below w.heap.size w w' := by
  have HS := Lib.hid hs
  have HU := Lib.hid (fun w1 => up_any p hp w1)
  clear hs
  obtain ⟨U, hU⟩ : ∃ U : ByteArray, (⟨(upV p.data.toList).toArray⟩ : ByteArray) = U := ⟨_, rfl⟩
  rw [hU] at HU
  have hUt : upV p.data.toList = U.data.toList := by rw [← hU]
  have hUs : U.size < 9223372036854775808 := by
    have h1 := upV_len p.data.toList
    rw [hUt] at h1
    have h2 : U.size = U.data.toList.length := rfl
    have h3 : p.size = p.data.toList.length := rfl
    omega
  obtain ⟨V, hV⟩ : ∃ V, roomT C p.data.toList = V := ⟨_, rfl⟩
  rw [hV]
  unfold roomT at hV
  rw [hUt] at hV
  have HV := Lib.hid hV
  have HWH := Lib.hid (fun w1 h => twhere_any C q c U hm hn hUs (hA.up _) w1 h)
  have HAT := Lib.hid (asc_at hA U.data.toList)
  generalize okPath p.data.toList = G at *
  clear hV hU hUt hn hA hUs hp
  go_enter Tryd.func34, Tryd.ntmps34
  go_wp2_with fail
  refine (HU.out _).mono ?_
  rintro e w1 ⟨rfl, hb⟩
  have HB := Lib.hid hb
  clear hb
  by_cases hU : U.data = #[]
  · have hv : V = 0 := by rw [← HV.out, hU]; rfl
    subst hv
    have k1 := no_text hU
    clear hU
    go_wp2_with fail
    go_ret
    exact ⟨rfl, HB.out⟩
  · have k1 := some_text hU
    have hne : U.data.toList ≠ [] := fun e => hU (by simpa using e)
    have hv := HV.out
    rw [if_neg hne] at hv
    have HV2 := Lib.hid hv
    clear hne hU hv
    go_wp2_with fail
    refine (HWH.out _ ((HS.out.keep HB.out).more HB.out.size)).mono ?_
    rintro e w2 ⟨rfl, hb⟩
    replace HB := Lib.hid (HB.out.trans (hb.mono HB.out.size))
    clear hb
    rcases HAT.out with ⟨h1, h2, h3⟩ | ⟨h1, h2⟩
    · rw [h1]
      have hv := HV2.out
      rw [h2, if_neg (by omega)] at hv
      have hv2 : (if dirT C (posT C U.data.toList) = true then (0 : Int) else 7) = V := by simpa using hv
      obtain ⟨a, rfl, ha, hc⟩ := HS.out.ent h3
      obtain ⟨c1, c2, c3⟩ := hc w2 HB.out
      have hd : dirT C (posT C U.data.toList) = C[posT C U.data.toList].2.1 := by unfold dirT; rw [List.getElem?_eq_getElem h3]; rfl
      rw [hd] at hv2
      generalize C[posT C U.data.toList].2.1 = D at *
      generalize C[posT C U.data.toList].1 = x at *
      generalize C[posT C U.data.toList].2.2.1 = bv at *
      generalize posT C U.data.toList = K at *
      have kk : (K : Int) < (C.length : Int) := by omega
      clear hv hc ha HWH h1 h2 HAT HV2 HV
      subst hv2
      cases D with
      | true =>
        go_wp2_with fail
        go_ret
        exact ⟨rfl, HB.out⟩
      | false =>
        go_wp2_with fail
        go_ret
        exact ⟨rfl, HB.out⟩
    · rw [h1]
      have hv := HV2.out
      rw [h2] at hv
      have hv2 : (5 : Int) = V := by simpa using hv
      clear hv HWH h1 h2 HAT HV2 HV
      subst hv2
      go_wp2_with fail
      go_ret
      exact ⟨rfl, HB.out⟩
end Go.Proofs.YthpendoblgndcaaDoor
/- Contract: the document's own 'with': a tree with one more entry, in its place. Conditions: at most 10^5 entries, paths of at most 2^20 bytes. -/
namespace Go.Proofs.YthpendoblgndcaaDoor
open Go.RowKit
def withT : List Ent → Ent → Bool → List Ent
  | [], e, done => if done then [] else [e]
  | y :: r, e, done => (if !done && decide (0 ≤ cmpL y.pa e.pa) then [e] else []) ++ ((if y.pa == e.pa then [] else [y]) ++ withT r e (done || decide (0 ≤ cmpL y.pa e.pa)))
theorem withT_cons (y e : Ent) (r : List Ent) (done b1 b2 : Bool) (h1 : (y.pa == e.pa) = b1) (h2 : decide (0 ≤ cmpL y.pa e.pa) = b2) : withT (y :: r) e done = (if !done && b2 then [e] else []) ++ ((if b1 then [] else [y]) ++ withT r e (done || b2)) := by rw [withT, h1, h2]
set_option maxHeartbeats 16000000 in
set_option maxRecDepth 100000 in
theorem rwith_any (C : List Ent) (q : Option Addr) (c : Nat) (x : ByteArray) (d : Bool) (bv : Value) (bb : List (BitVec 8)) (hm : C.length ≤ 100000) (hx : x.size ≤ 1048576) (hn : ∀ e ∈ C, e.1.size ≤ 1048576) (w : World) (hs : Sees w w.heap.size q (rowC C)) (hE : Ents w C) (h1 : bv.oneCell' = true) :
    Calls Tryd.prog 52 #[.slice q C.length c, .agg #[.string x, .bool d, bv]] w fun e w' => (∃ v, e = .returned v ∧ TrV w' v (withT C (x, d, bv, bb) false)) ∧ Below w.heap.size w w' := by
  have HS := Lib.hid hs
  have HE := Lib.hid hE
  have HN := Lib.hid hn
  clear hs hE hn
  go_enter Tryd.func52, Tryd.ntmps52
  go_wp2_with fail
  have hbox := Has.made' w 51 #[.string x, .bool d, bv] (entC (x, d, bv, bb)) rfl
  have hgl : w.heap.size < (w.alloc (.cells #[.string x, .bool d, bv] 51)).heap.size := by simp
  have HB00 := Lib.hid ((Below.refl w.heap.size w).alloc (Nat.le_refl _) (.cells #[.string x, .bool d, bv] 51))
  generalize w.alloc (.cells #[.string x, .bool d, bv] 51) = w0 at *
  have HBX3 : Hid (∀ w', Below w0.heap.size w0 w' → w'.cell? ⟨w.heap.size, 0, none⟩ = some (.string x) ∧ w'.cell? ⟨w.heap.size, 1, none⟩ = some (.bool d) ∧ w'.cell? ⟨w.heap.size, 2, none⟩ = some bv) := Lib.hid (fun w' hb => ⟨(hb.cell hgl).trans (hbox.cellv rfl), (hb.cell hgl).trans (hbox.cellv rfl), (hb.cell hgl).trans (hbox.cellv rfl)⟩)
  have HNIL := Lib.hid (OwnE.nil w0 w0.heap.size)
  clear hbox hgl
  go_loopw [5, 6, 7] (fun v vd vi wr => ∃ (R : List Ent) (i : Nat) (dn : Bool), i ≤ C.length ∧ vi = .int .i64 i ∧ vd = .bool dn ∧ R.length ≤ 2 * i ∧ R ++ withT (C.drop i) (x, d, bv, bb) dn = withT C (x, d, bv, bb) false ∧ OwnE wr w0.heap.size v R ∧ Below w0.heap.size w0 wr) (fun _ _ vi _ => C.length - (intOf vi).toNat)
  case atStart => exact ⟨[], 0, false, by omega, rfl, rfl, Nat.le_refl _, rfl, HNIL.out, Below.refl _ _⟩
  case round =>
    rename_i wr
    obtain ⟨R, i, dn, hi, rfl, rfl, hrl, heq, hrow, hB⟩ := hrel
    have HROW := Lib.hid hrow
    have HB := Lib.hid hB
    have HEQ := Lib.hid heq
    have HRL := Lib.hid hrl
    clear hrow hB heq hrl
    by_cases hlt : i < C.length
    · obtain ⟨a, rfl, ha, hc⟩ := HS.out.ent hlt
      obtain ⟨qb, cb, hv, _, _, _⟩ := HE.out C[i] (List.getElem_mem hlt)
      have hsz := HN.out C[i] (List.getElem_mem hlt)
      have hdr : C.drop i = C[i] :: C.drop (i + 1) := List.drop_eq_getElem_cons hlt
      have kk : (i : Int) < (C.length : Int) := by omega
      have HLEN1 : Hid (R.length ≤ 1000000) := Lib.hid (by have := HRL.out; omega)
      have HLEN2 : Hid ((R ++ [(x, d, bv, bb)]).length ≤ 1000000) := Lib.hid (by have := HRL.out; rw [List.length_append, List.length_singleton]; omega)
      obtain ⟨e, he⟩ : ∃ e, C[i] = e := ⟨_, rfl⟩
      rw [he] at hc hv hsz hdr
      obtain ⟨y, dy, vy, yb⟩ := e
      have hv' : vy = .slice qb (List.length yb) cb := hv
      have hy1 : vy.oneCell' = true := by rw [hv']; rfl
      have hyz : y.size ≤ 1048576 := hsz
      have hlx : x.toList = x.data.toList := Lib.toList_data x
      have hly : y.toList = y.data.toList := Lib.toList_data y
      have HDR := Lib.hid hdr
      have HC3 : Hid (∀ w', Below w0.heap.size w0 w' → w'.cell? (a.add (i * 3)) = some (.string y) ∧ w'.cell? ⟨(a.add (i * 3)).block, (a.add (i * 3)).off + 1, none⟩ = some (.bool dy) ∧ w'.cell? ⟨(a.add (i * 3)).block, (a.add (i * 3)).off + 2, none⟩ = some vy) := Lib.hid (fun w' hb => hc w' (HB00.out.trans (hb.mono HB00.out.size)))
      have HCM := Lib.hid (fun w1 => rcmp_any y x hyz hx w1)
      clear hc ha hv hv' hsz he hdr
      cases dn with
      | true =>
        cases hxp : (y.data.toList == x.data.toList) with
        | true =>
          have HNX : Hid (R ++ withT (C.drop (i + 1)) (x, d, bv, bb) true = withT C (x, d, bv, bb) false) := Lib.hid (by rw [← HEQ.out, HDR.out, withT_cons (y, dy, vy, yb) (x, d, bv, bb) _ _ _ _ hxp rfl]; simp)
          go_wp2_with fail
          refine wp_region_org [(0, true), (1, true), (2, true), (3, true), (4, true), (5, true), (6, true), (7, true), (8, true), (9, true), (10, false), (11, true), (12, true)] (by kernel_rfl) (by kernel_rfl) (by kernel_rfl) ?_
          replace HB := Lib.hid HB.out.drew
          replace HROW := Lib.hid (World.ownsRow.drew HROW.out)
          generalize wr.drew = wd at *
          simp only [pickOrs, List.getElem?_cons_zero, List.getElem?_cons_succ]
          refine org_pure (v := ?_) (by kernel_rfl) ?_ ?_
          rotate_left
          · intro w' hv; clear hv; go_simp; try with_reducible rfl
          try simp only [Act.put, List.setIfInBounds_toArray, List.set_cons_zero, List.set_cons_succ]
          refine org_pure (v := ?_) (by kernel_rfl) ?_ ?_
          rotate_left
          · intro w' hv; clear hv; go_simp; try with_reducible rfl
          try simp only [Act.put, List.setIfInBounds_toArray, List.set_cons_zero, List.set_cons_succ]
          refine org_pure (v := ?_) (by kernel_rfl) ?_ ?_
          rotate_left
          · intro w' hv; clear hv; go_simp; try with_reducible rfl
          try simp only [Act.put, List.setIfInBounds_toArray, List.set_cons_zero, List.set_cons_succ]
          refine org_skip (by kernel_rfl) ?_
          try simp only [Act.put, List.setIfInBounds_toArray, List.set_cons_zero, List.set_cons_succ]
          refine org_skip (by kernel_rfl) ?_
          try simp only [Act.put, List.setIfInBounds_toArray, List.set_cons_zero, List.set_cons_succ]
          refine org_skip (by kernel_rfl) ?_
          try simp only [Act.put, List.setIfInBounds_toArray, List.set_cons_zero, List.set_cons_succ]
          refine org_skip (by kernel_rfl) ?_
          try simp only [Act.put, List.setIfInBounds_toArray, List.set_cons_zero, List.set_cons_succ]
          refine org_skip (by kernel_rfl) ?_
          try simp only [Act.put, List.setIfInBounds_toArray, List.set_cons_zero, List.set_cons_succ]
          refine org_skip (by kernel_rfl) ?_
          try simp only [Act.put, List.setIfInBounds_toArray, List.set_cons_zero, List.set_cons_succ]
          refine org_skip (by kernel_rfl) ?_
          try simp only [Act.put, List.setIfInBounds_toArray, List.set_cons_zero, List.set_cons_succ]
          refine org_pass (by kernel_rfl) ?_
          try simp only [Act.put, List.setIfInBounds_toArray, List.set_cons_zero, List.set_cons_succ]
          refine org_skip (by kernel_rfl) ?_
          try simp only [Act.put, List.setIfInBounds_toArray, List.set_cons_zero, List.set_cons_succ]
          refine org_pure (v := ?_) (by kernel_rfl) ?_ ?_
          rotate_left
          · intro w' hv; clear hv; go_simp; try with_reducible rfl
          try simp only [Act.put, List.setIfInBounds_toArray, List.set_cons_zero, List.set_cons_succ]
          refine org_nil ?_
          go_wp2_with fail
          refine wp_region_org [(0, true), (1, true), (2, true), (3, true), (4, true), (5, true), (6, true), (7, true)] (by kernel_rfl) (by kernel_rfl) (by kernel_rfl) ?_
          replace HB := Lib.hid HB.out.drew
          replace HROW := Lib.hid (World.ownsRow.drew HROW.out)
          generalize wd.drew = we at *
          simp only [pickOrs, List.getElem?_cons_zero, List.getElem?_cons_succ]
          refine org_pure (v := ?_) (by kernel_rfl) ?_ ?_
          rotate_left
          · intro w' hv; clear hv; go_simp; try with_reducible rfl
          try simp only [Act.put, List.setIfInBounds_toArray, List.set_cons_zero, List.set_cons_succ]
          refine org_pure (v := ?_) (by kernel_rfl) ?_ ?_
          rotate_left
          · intro w' hv; clear hv; go_simp; try with_reducible rfl
          try simp only [Act.put, List.setIfInBounds_toArray, List.set_cons_zero, List.set_cons_succ]
          refine org_pure (v := ?_) (by kernel_rfl) ?_ ?_
          rotate_left
          · intro w' hv; clear hv; go_simp; try with_reducible rfl
          try simp only [Act.put, List.setIfInBounds_toArray, List.set_cons_zero, List.set_cons_succ]
          refine org_pure (v := ?_) (by kernel_rfl) ?_ ?_
          rotate_left
          · intro w' hv; clear hv; go_simp; try with_reducible rfl
          try simp only [Act.put, List.setIfInBounds_toArray, List.set_cons_zero, List.set_cons_succ]
          refine org_pure (v := ?_) (by kernel_rfl) ?_ ?_
          rotate_left
          · intro w' hv; have cp := (HC3.out w' (HB.out.trans (Below.mono hv HB.out.size))).1; clear hv; go_simp; try with_reducible rfl
          try simp only [Act.put, List.setIfInBounds_toArray, List.set_cons_zero, List.set_cons_succ]
          refine org_pure (v := ?_) (by kernel_rfl) ?_ ?_
          rotate_left
          · intro w' hv; clear hv; go_simp; try with_reducible rfl
          try simp only [Act.put, List.setIfInBounds_toArray, List.set_cons_zero, List.set_cons_succ]
          refine org_pure (v := ?_) (by kernel_rfl) ?_ ?_
          rotate_left
          · intro w' hv; have cq := (HBX3.out w' (HB.out.trans (Below.mono hv HB.out.size))).1; clear hv; go_simp; try with_reducible rfl
          try simp only [Act.put, List.setIfInBounds_toArray, List.set_cons_zero, List.set_cons_succ]
          refine org_pure (v := ?_) (by kernel_rfl) ?_ ?_
          rotate_left
          · intro w' hv; clear hv; go_simp; try with_reducible rfl
          try simp only [Act.put, List.setIfInBounds_toArray, List.set_cons_zero, List.set_cons_succ]
          refine org_nil ?_
          go_wp2_with fail
          go_roundw
          case rel => exact ⟨R, i + 1, true, by omega, by go_num, rfl, by have := HRL.out; omega, HNX.out, HROW.out, HB.out⟩
          case measure => simp [intOf]; omega
        | false =>
          have HNX : Hid (R ++ [(y, dy, vy, yb)] ++ withT (C.drop (i + 1)) (x, d, bv, bb) true = withT C (x, d, bv, bb) false) := Lib.hid (by rw [← HEQ.out, HDR.out, withT_cons (y, dy, vy, yb) (x, d, bv, bb) _ _ _ _ hxp rfl]; simp)
          go_wp2_with fail
          refine wp_region_org [(0, true), (1, true), (2, true), (3, true), (4, true), (5, true), (6, true), (7, true), (8, true), (9, true), (10, false), (11, true), (12, true)] (by kernel_rfl) (by kernel_rfl) (by kernel_rfl) ?_
          replace HB := Lib.hid HB.out.drew
          replace HROW := Lib.hid (World.ownsRow.drew HROW.out)
          generalize wr.drew = wd at *
          simp only [pickOrs, List.getElem?_cons_zero, List.getElem?_cons_succ]
          refine org_pure (v := ?_) (by kernel_rfl) ?_ ?_
          rotate_left
          · intro w' hv; clear hv; go_simp; try with_reducible rfl
          try simp only [Act.put, List.setIfInBounds_toArray, List.set_cons_zero, List.set_cons_succ]
          refine org_pure (v := ?_) (by kernel_rfl) ?_ ?_
          rotate_left
          · intro w' hv; clear hv; go_simp; try with_reducible rfl
          try simp only [Act.put, List.setIfInBounds_toArray, List.set_cons_zero, List.set_cons_succ]
          refine org_pure (v := ?_) (by kernel_rfl) ?_ ?_
          rotate_left
          · intro w' hv; clear hv; go_simp; try with_reducible rfl
          try simp only [Act.put, List.setIfInBounds_toArray, List.set_cons_zero, List.set_cons_succ]
          refine org_skip (by kernel_rfl) ?_
          try simp only [Act.put, List.setIfInBounds_toArray, List.set_cons_zero, List.set_cons_succ]
          refine org_skip (by kernel_rfl) ?_
          try simp only [Act.put, List.setIfInBounds_toArray, List.set_cons_zero, List.set_cons_succ]
          refine org_skip (by kernel_rfl) ?_
          try simp only [Act.put, List.setIfInBounds_toArray, List.set_cons_zero, List.set_cons_succ]
          refine org_skip (by kernel_rfl) ?_
          try simp only [Act.put, List.setIfInBounds_toArray, List.set_cons_zero, List.set_cons_succ]
          refine org_skip (by kernel_rfl) ?_
          try simp only [Act.put, List.setIfInBounds_toArray, List.set_cons_zero, List.set_cons_succ]
          refine org_skip (by kernel_rfl) ?_
          try simp only [Act.put, List.setIfInBounds_toArray, List.set_cons_zero, List.set_cons_succ]
          refine org_skip (by kernel_rfl) ?_
          try simp only [Act.put, List.setIfInBounds_toArray, List.set_cons_zero, List.set_cons_succ]
          refine org_pass (by kernel_rfl) ?_
          try simp only [Act.put, List.setIfInBounds_toArray, List.set_cons_zero, List.set_cons_succ]
          refine org_skip (by kernel_rfl) ?_
          try simp only [Act.put, List.setIfInBounds_toArray, List.set_cons_zero, List.set_cons_succ]
          refine org_pure (v := ?_) (by kernel_rfl) ?_ ?_
          rotate_left
          · intro w' hv; clear hv; go_simp; try with_reducible rfl
          try simp only [Act.put, List.setIfInBounds_toArray, List.set_cons_zero, List.set_cons_succ]
          refine org_nil ?_
          go_wp2_with fail
          refine wp_region_org [(0, true), (1, true), (2, true), (3, true), (4, true), (5, true), (6, true), (7, true)] (by kernel_rfl) (by kernel_rfl) (by kernel_rfl) ?_
          replace HB := Lib.hid HB.out.drew
          replace HROW := Lib.hid (World.ownsRow.drew HROW.out)
          generalize wd.drew = we at *
          simp only [pickOrs, List.getElem?_cons_zero, List.getElem?_cons_succ]
          refine org_pure (v := ?_) (by kernel_rfl) ?_ ?_
          rotate_left
          · intro w' hv; clear hv; go_simp; try with_reducible rfl
          try simp only [Act.put, List.setIfInBounds_toArray, List.set_cons_zero, List.set_cons_succ]
          refine org_pure (v := ?_) (by kernel_rfl) ?_ ?_
          rotate_left
          · intro w' hv; clear hv; go_simp; try with_reducible rfl
          try simp only [Act.put, List.setIfInBounds_toArray, List.set_cons_zero, List.set_cons_succ]
          refine org_pure (v := ?_) (by kernel_rfl) ?_ ?_
          rotate_left
          · intro w' hv; clear hv; go_simp; try with_reducible rfl
          try simp only [Act.put, List.setIfInBounds_toArray, List.set_cons_zero, List.set_cons_succ]
          refine org_pure (v := ?_) (by kernel_rfl) ?_ ?_
          rotate_left
          · intro w' hv; clear hv; go_simp; try with_reducible rfl
          try simp only [Act.put, List.setIfInBounds_toArray, List.set_cons_zero, List.set_cons_succ]
          refine org_pure (v := ?_) (by kernel_rfl) ?_ ?_
          rotate_left
          · intro w' hv; have cp := (HC3.out w' (HB.out.trans (Below.mono hv HB.out.size))).1; clear hv; go_simp; try with_reducible rfl
          try simp only [Act.put, List.setIfInBounds_toArray, List.set_cons_zero, List.set_cons_succ]
          refine org_pure (v := ?_) (by kernel_rfl) ?_ ?_
          rotate_left
          · intro w' hv; clear hv; go_simp; try with_reducible rfl
          try simp only [Act.put, List.setIfInBounds_toArray, List.set_cons_zero, List.set_cons_succ]
          refine org_pure (v := ?_) (by kernel_rfl) ?_ ?_
          rotate_left
          · intro w' hv; have cq := (HBX3.out w' (HB.out.trans (Below.mono hv HB.out.size))).1; clear hv; go_simp; try with_reducible rfl
          try simp only [Act.put, List.setIfInBounds_toArray, List.set_cons_zero, List.set_cons_succ]
          refine org_pure (v := ?_) (by kernel_rfl) ?_ ?_
          rotate_left
          · intro w' hv; clear hv; go_simp; try with_reducible rfl
          try simp only [Act.put, List.setIfInBounds_toArray, List.set_cons_zero, List.set_cons_succ]
          refine org_nil ?_
          obtain ⟨c1, c2, c3⟩ := HC3.out we HB.out
          go_wp2_with (refine wp_addE rfl (.tmp 39) (.tmp 44) rfl (base := w0.heap.size) (World.ownsRow.alloc HROW.out (.cells #[.string y, .bool dy, vy] 51)) (by have := HB.out.size; simp; omega) rfl we.heap.size (y, dy, vy, yb) rfl (Has.made' we 51 #[.string y, .bool dy, vy] _ rfl) hy1 HLEN1.out ?_; intro v3 w3 ho3 hb3; have HROW2 := Lib.hid ho3; have HB5 := Lib.hid hb3; clear ho3 hb3 HROW)
          replace HB := Lib.hid ((HB.out.alloc HB.out.size (.cells #[.string y, .bool dy, vy] 51)).trans HB5.out)
          have HROW := HROW2
          clear HROW2 HB5
          go_roundw
          case rel => exact ⟨R ++ [(y, dy, vy, yb)], i + 1, true, by omega, by go_num, rfl, by have := HRL.out; simp only [List.length_append, List.length_cons, List.length_nil]; omega, HNX.out, HROW.out, HB.out⟩
          case measure => simp [intOf]; omega
      | false =>
        by_cases hV : 0 ≤ cmpL y.data.toList x.data.toList
        · have hdec : decide (0 ≤ cmpL y.data.toList x.data.toList) = true := decide_eq_true hV
          cases hxp : (y.data.toList == x.data.toList) with
          | true =>
            have HNX : Hid (R ++ [(x, d, bv, bb)] ++ withT (C.drop (i + 1)) (x, d, bv, bb) true = withT C (x, d, bv, bb) false) := Lib.hid (by rw [← HEQ.out, HDR.out, withT_cons (y, dy, vy, yb) (x, d, bv, bb) _ _ _ _ hxp hdec]; simp)
            clear hdec
            go_wp2_with fail
            refine wp_region_org [(0, true), (1, true), (2, true), (3, true), (4, true), (5, true), (6, true), (7, true), (8, true), (9, true), (10, false), (11, true), (12, true)] (by kernel_rfl) (by kernel_rfl) (by kernel_rfl) ?_
            replace HB := Lib.hid HB.out.drew
            replace HROW := Lib.hid (World.ownsRow.drew HROW.out)
            generalize wr.drew = wd at *
            simp only [pickOrs, List.getElem?_cons_zero, List.getElem?_cons_succ]
            refine org_pure (v := ?_) (by kernel_rfl) ?_ ?_
            rotate_left
            · intro w' hv; clear hv; go_simp; try with_reducible rfl
            try simp only [Act.put, List.setIfInBounds_toArray, List.set_cons_zero, List.set_cons_succ]
            refine org_pure (v := ?_) (by kernel_rfl) ?_ ?_
            rotate_left
            · intro w' hv; clear hv; go_simp; try with_reducible rfl
            try simp only [Act.put, List.setIfInBounds_toArray, List.set_cons_zero, List.set_cons_succ]
            refine org_pure (v := ?_) (by kernel_rfl) ?_ ?_
            rotate_left
            · intro w' hv; clear hv; go_simp; try with_reducible rfl
            try simp only [Act.put, List.setIfInBounds_toArray, List.set_cons_zero, List.set_cons_succ]
            refine org_pure (v := ?_) (by kernel_rfl) ?_ ?_
            rotate_left
            · intro w' hv; clear hv; go_simp; try with_reducible rfl
            try simp only [Act.put, List.setIfInBounds_toArray, List.set_cons_zero, List.set_cons_succ]
            refine org_pure (v := ?_) (by kernel_rfl) ?_ ?_
            rotate_left
            · intro w' hv; clear hv; go_simp; try with_reducible rfl
            try simp only [Act.put, List.setIfInBounds_toArray, List.set_cons_zero, List.set_cons_succ]
            refine org_pure (v := ?_) (by kernel_rfl) ?_ ?_
            rotate_left
            · intro w' hv; clear hv; go_simp; try with_reducible rfl
            try simp only [Act.put, List.setIfInBounds_toArray, List.set_cons_zero, List.set_cons_succ]
            refine org_pure (v := ?_) (by kernel_rfl) ?_ ?_
            rotate_left
            · intro w' hv; clear hv; go_simp; try with_reducible rfl
            try simp only [Act.put, List.setIfInBounds_toArray, List.set_cons_zero, List.set_cons_succ]
            refine org_pure (v := ?_) (by kernel_rfl) ?_ ?_
            rotate_left
            · intro w' hv; have cp := (HC3.out w' (HB.out.trans (Below.mono hv HB.out.size))).1; clear hv; go_simp; try with_reducible rfl
            try simp only [Act.put, List.setIfInBounds_toArray, List.set_cons_zero, List.set_cons_succ]
            refine org_pure (v := ?_) (by kernel_rfl) ?_ ?_
            rotate_left
            · intro w' hv; clear hv; go_simp; try with_reducible rfl
            try simp only [Act.put, List.setIfInBounds_toArray, List.set_cons_zero, List.set_cons_succ]
            refine org_pure (v := ?_) (by kernel_rfl) ?_ ?_
            rotate_left
            · intro w' hv; have cq := (HBX3.out w' (HB.out.trans (Below.mono hv HB.out.size))).1; clear hv; go_simp; try with_reducible rfl
            try simp only [Act.put, List.setIfInBounds_toArray, List.set_cons_zero, List.set_cons_succ]
            refine org_step (by kernel_rfl) (fun K hK => ?_)
            go_wp2_with fail
            refine (HCM.out _).mono ?_
            rintro e wx ⟨rfl, hb⟩
            have HE2 := Lib.hid hb
            replace HROW := Lib.hid (own_below3 HROW.out hb)
            replace HB := Lib.hid (HB.out.trans (hb.mono HB.out.size))
            clear hb
            refine hK _ _ ⟨HE2.out, ?_⟩
            clear hK HE2
            try simp only [Act.put, List.setIfInBounds_toArray, List.set_cons_zero, List.set_cons_succ]
            refine org_pure (v := ?_) (by kernel_rfl) ?_ ?_
            rotate_left
            · intro w' hv; clear hv; go_simp; try with_reducible rfl
            try simp only [Act.put, List.setIfInBounds_toArray, List.set_cons_zero, List.set_cons_succ]
            refine org_pure (v := ?_) (by kernel_rfl) ?_ ?_
            rotate_left
            · intro w' hv; clear hv; go_simp; try with_reducible rfl
            try simp only [Act.put, List.setIfInBounds_toArray, List.set_cons_zero, List.set_cons_succ]
            refine org_nil ?_
            obtain ⟨b1, b2, b3⟩ := HBX3.out wx HB.out
            go_wp2_with (refine wp_addE rfl (.tmp 27) (.tmp 29) rfl (base := w0.heap.size) (World.ownsRow.alloc HROW.out (.cells #[.string x, .bool d, bv] 51)) (by have := HB.out.size; simp; omega) rfl wx.heap.size (x, d, bv, bb) rfl (Has.made' wx 51 #[.string x, .bool d, bv] _ rfl) h1 HLEN1.out ?_; intro v3 w3 ho3 hb3; have HROW2 := Lib.hid ho3; have HB5 := Lib.hid hb3; clear ho3 hb3 HROW)
            replace HB := Lib.hid ((HB.out.alloc HB.out.size (.cells #[.string x, .bool d, bv] 51)).trans HB5.out)
            have HROW := HROW2
            clear HROW2 HB5
            clear b1 b2 b3
            refine wp_region_org [(0, true), (1, true), (2, true), (3, true), (4, true), (5, true), (6, true), (7, true)] (by kernel_rfl) (by kernel_rfl) (by kernel_rfl) ?_
            replace HB := Lib.hid HB.out.drew
            replace HROW := Lib.hid (World.ownsRow.drew HROW.out)
            generalize w3.drew = we at *
            simp only [pickOrs, List.getElem?_cons_zero, List.getElem?_cons_succ]
            refine org_pure (v := ?_) (by kernel_rfl) ?_ ?_
            rotate_left
            · intro w' hv; clear hv; go_simp; try with_reducible rfl
            try simp only [Act.put, List.setIfInBounds_toArray, List.set_cons_zero, List.set_cons_succ]
            refine org_pure (v := ?_) (by kernel_rfl) ?_ ?_
            rotate_left
            · intro w' hv; clear hv; go_simp; try with_reducible rfl
            try simp only [Act.put, List.setIfInBounds_toArray, List.set_cons_zero, List.set_cons_succ]
            refine org_pure (v := ?_) (by kernel_rfl) ?_ ?_
            rotate_left
            · intro w' hv; clear hv; go_simp; try with_reducible rfl
            try simp only [Act.put, List.setIfInBounds_toArray, List.set_cons_zero, List.set_cons_succ]
            refine org_pure (v := ?_) (by kernel_rfl) ?_ ?_
            rotate_left
            · intro w' hv; clear hv; go_simp; try with_reducible rfl
            try simp only [Act.put, List.setIfInBounds_toArray, List.set_cons_zero, List.set_cons_succ]
            refine org_pure (v := ?_) (by kernel_rfl) ?_ ?_
            rotate_left
            · intro w' hv; have cp := (HC3.out w' (HB.out.trans (Below.mono hv HB.out.size))).1; clear hv; go_simp; try with_reducible rfl
            try simp only [Act.put, List.setIfInBounds_toArray, List.set_cons_zero, List.set_cons_succ]
            refine org_pure (v := ?_) (by kernel_rfl) ?_ ?_
            rotate_left
            · intro w' hv; clear hv; go_simp; try with_reducible rfl
            try simp only [Act.put, List.setIfInBounds_toArray, List.set_cons_zero, List.set_cons_succ]
            refine org_pure (v := ?_) (by kernel_rfl) ?_ ?_
            rotate_left
            · intro w' hv; have cq := (HBX3.out w' (HB.out.trans (Below.mono hv HB.out.size))).1; clear hv; go_simp; try with_reducible rfl
            try simp only [Act.put, List.setIfInBounds_toArray, List.set_cons_zero, List.set_cons_succ]
            refine org_pure (v := ?_) (by kernel_rfl) ?_ ?_
            rotate_left
            · intro w' hv; clear hv; go_simp; try with_reducible rfl
            try simp only [Act.put, List.setIfInBounds_toArray, List.set_cons_zero, List.set_cons_succ]
            refine org_nil ?_
            go_wp2_with fail
            go_roundw
            case rel => exact ⟨R ++ [(x, d, bv, bb)], i + 1, true, by omega, by go_num, rfl, by have := HRL.out; simp only [List.length_append, List.length_cons, List.length_nil]; omega, HNX.out, HROW.out, HB.out⟩
            case measure => simp [intOf]; omega
          | false =>
            have HNX : Hid (R ++ [(x, d, bv, bb)] ++ [(y, dy, vy, yb)] ++ withT (C.drop (i + 1)) (x, d, bv, bb) true = withT C (x, d, bv, bb) false) := Lib.hid (by rw [← HEQ.out, HDR.out, withT_cons (y, dy, vy, yb) (x, d, bv, bb) _ _ _ _ hxp hdec]; simp)
            clear hdec
            go_wp2_with fail
            refine wp_region_org [(0, true), (1, true), (2, true), (3, true), (4, true), (5, true), (6, true), (7, true), (8, true), (9, true), (10, false), (11, true), (12, true)] (by kernel_rfl) (by kernel_rfl) (by kernel_rfl) ?_
            replace HB := Lib.hid HB.out.drew
            replace HROW := Lib.hid (World.ownsRow.drew HROW.out)
            generalize wr.drew = wd at *
            simp only [pickOrs, List.getElem?_cons_zero, List.getElem?_cons_succ]
            refine org_pure (v := ?_) (by kernel_rfl) ?_ ?_
            rotate_left
            · intro w' hv; clear hv; go_simp; try with_reducible rfl
            try simp only [Act.put, List.setIfInBounds_toArray, List.set_cons_zero, List.set_cons_succ]
            refine org_pure (v := ?_) (by kernel_rfl) ?_ ?_
            rotate_left
            · intro w' hv; clear hv; go_simp; try with_reducible rfl
            try simp only [Act.put, List.setIfInBounds_toArray, List.set_cons_zero, List.set_cons_succ]
            refine org_pure (v := ?_) (by kernel_rfl) ?_ ?_
            rotate_left
            · intro w' hv; clear hv; go_simp; try with_reducible rfl
            try simp only [Act.put, List.setIfInBounds_toArray, List.set_cons_zero, List.set_cons_succ]
            refine org_pure (v := ?_) (by kernel_rfl) ?_ ?_
            rotate_left
            · intro w' hv; clear hv; go_simp; try with_reducible rfl
            try simp only [Act.put, List.setIfInBounds_toArray, List.set_cons_zero, List.set_cons_succ]
            refine org_pure (v := ?_) (by kernel_rfl) ?_ ?_
            rotate_left
            · intro w' hv; clear hv; go_simp; try with_reducible rfl
            try simp only [Act.put, List.setIfInBounds_toArray, List.set_cons_zero, List.set_cons_succ]
            refine org_pure (v := ?_) (by kernel_rfl) ?_ ?_
            rotate_left
            · intro w' hv; clear hv; go_simp; try with_reducible rfl
            try simp only [Act.put, List.setIfInBounds_toArray, List.set_cons_zero, List.set_cons_succ]
            refine org_pure (v := ?_) (by kernel_rfl) ?_ ?_
            rotate_left
            · intro w' hv; clear hv; go_simp; try with_reducible rfl
            try simp only [Act.put, List.setIfInBounds_toArray, List.set_cons_zero, List.set_cons_succ]
            refine org_pure (v := ?_) (by kernel_rfl) ?_ ?_
            rotate_left
            · intro w' hv; have cp := (HC3.out w' (HB.out.trans (Below.mono hv HB.out.size))).1; clear hv; go_simp; try with_reducible rfl
            try simp only [Act.put, List.setIfInBounds_toArray, List.set_cons_zero, List.set_cons_succ]
            refine org_pure (v := ?_) (by kernel_rfl) ?_ ?_
            rotate_left
            · intro w' hv; clear hv; go_simp; try with_reducible rfl
            try simp only [Act.put, List.setIfInBounds_toArray, List.set_cons_zero, List.set_cons_succ]
            refine org_pure (v := ?_) (by kernel_rfl) ?_ ?_
            rotate_left
            · intro w' hv; have cq := (HBX3.out w' (HB.out.trans (Below.mono hv HB.out.size))).1; clear hv; go_simp; try with_reducible rfl
            try simp only [Act.put, List.setIfInBounds_toArray, List.set_cons_zero, List.set_cons_succ]
            refine org_step (by kernel_rfl) (fun K hK => ?_)
            go_wp2_with fail
            refine (HCM.out _).mono ?_
            rintro e wx ⟨rfl, hb⟩
            have HE2 := Lib.hid hb
            replace HROW := Lib.hid (own_below3 HROW.out hb)
            replace HB := Lib.hid (HB.out.trans (hb.mono HB.out.size))
            clear hb
            refine hK _ _ ⟨HE2.out, ?_⟩
            clear hK HE2
            try simp only [Act.put, List.setIfInBounds_toArray, List.set_cons_zero, List.set_cons_succ]
            refine org_pure (v := ?_) (by kernel_rfl) ?_ ?_
            rotate_left
            · intro w' hv; clear hv; go_simp; try with_reducible rfl
            try simp only [Act.put, List.setIfInBounds_toArray, List.set_cons_zero, List.set_cons_succ]
            refine org_pure (v := ?_) (by kernel_rfl) ?_ ?_
            rotate_left
            · intro w' hv; clear hv; go_simp; try with_reducible rfl
            try simp only [Act.put, List.setIfInBounds_toArray, List.set_cons_zero, List.set_cons_succ]
            refine org_nil ?_
            obtain ⟨b1, b2, b3⟩ := HBX3.out wx HB.out
            go_wp2_with (refine wp_addE rfl (.tmp 27) (.tmp 29) rfl (base := w0.heap.size) (World.ownsRow.alloc HROW.out (.cells #[.string x, .bool d, bv] 51)) (by have := HB.out.size; simp; omega) rfl wx.heap.size (x, d, bv, bb) rfl (Has.made' wx 51 #[.string x, .bool d, bv] _ rfl) h1 HLEN1.out ?_; intro v3 w3 ho3 hb3; have HROW2 := Lib.hid ho3; have HB5 := Lib.hid hb3; clear ho3 hb3 HROW)
            replace HB := Lib.hid ((HB.out.alloc HB.out.size (.cells #[.string x, .bool d, bv] 51)).trans HB5.out)
            have HROW := HROW2
            clear HROW2 HB5
            clear b1 b2 b3
            refine wp_region_org [(0, true), (1, true), (2, true), (3, true), (4, true), (5, true), (6, true), (7, true)] (by kernel_rfl) (by kernel_rfl) (by kernel_rfl) ?_
            replace HB := Lib.hid HB.out.drew
            replace HROW := Lib.hid (World.ownsRow.drew HROW.out)
            generalize w3.drew = we at *
            simp only [pickOrs, List.getElem?_cons_zero, List.getElem?_cons_succ]
            refine org_pure (v := ?_) (by kernel_rfl) ?_ ?_
            rotate_left
            · intro w' hv; clear hv; go_simp; try with_reducible rfl
            try simp only [Act.put, List.setIfInBounds_toArray, List.set_cons_zero, List.set_cons_succ]
            refine org_pure (v := ?_) (by kernel_rfl) ?_ ?_
            rotate_left
            · intro w' hv; clear hv; go_simp; try with_reducible rfl
            try simp only [Act.put, List.setIfInBounds_toArray, List.set_cons_zero, List.set_cons_succ]
            refine org_pure (v := ?_) (by kernel_rfl) ?_ ?_
            rotate_left
            · intro w' hv; clear hv; go_simp; try with_reducible rfl
            try simp only [Act.put, List.setIfInBounds_toArray, List.set_cons_zero, List.set_cons_succ]
            refine org_pure (v := ?_) (by kernel_rfl) ?_ ?_
            rotate_left
            · intro w' hv; clear hv; go_simp; try with_reducible rfl
            try simp only [Act.put, List.setIfInBounds_toArray, List.set_cons_zero, List.set_cons_succ]
            refine org_pure (v := ?_) (by kernel_rfl) ?_ ?_
            rotate_left
            · intro w' hv; have cp := (HC3.out w' (HB.out.trans (Below.mono hv HB.out.size))).1; clear hv; go_simp; try with_reducible rfl
            try simp only [Act.put, List.setIfInBounds_toArray, List.set_cons_zero, List.set_cons_succ]
            refine org_pure (v := ?_) (by kernel_rfl) ?_ ?_
            rotate_left
            · intro w' hv; clear hv; go_simp; try with_reducible rfl
            try simp only [Act.put, List.setIfInBounds_toArray, List.set_cons_zero, List.set_cons_succ]
            refine org_pure (v := ?_) (by kernel_rfl) ?_ ?_
            rotate_left
            · intro w' hv; have cq := (HBX3.out w' (HB.out.trans (Below.mono hv HB.out.size))).1; clear hv; go_simp; try with_reducible rfl
            try simp only [Act.put, List.setIfInBounds_toArray, List.set_cons_zero, List.set_cons_succ]
            refine org_pure (v := ?_) (by kernel_rfl) ?_ ?_
            rotate_left
            · intro w' hv; clear hv; go_simp; try with_reducible rfl
            try simp only [Act.put, List.setIfInBounds_toArray, List.set_cons_zero, List.set_cons_succ]
            refine org_nil ?_
            obtain ⟨c1, c2, c3⟩ := HC3.out we HB.out
            go_wp2_with (refine wp_addE rfl (.tmp 39) (.tmp 44) rfl (base := w0.heap.size) (World.ownsRow.alloc HROW.out (.cells #[.string y, .bool dy, vy] 51)) (by have := HB.out.size; simp; omega) rfl we.heap.size (y, dy, vy, yb) rfl (Has.made' we 51 #[.string y, .bool dy, vy] _ rfl) hy1 HLEN2.out ?_; intro v4 w4 ho3 hb3; have HROW2 := Lib.hid ho3; have HB5 := Lib.hid hb3; clear ho3 hb3 HROW)
            replace HB := Lib.hid ((HB.out.alloc HB.out.size (.cells #[.string y, .bool dy, vy] 51)).trans HB5.out)
            have HROW := HROW2
            clear HROW2 HB5
            go_roundw
            case rel => exact ⟨R ++ [(x, d, bv, bb)] ++ [(y, dy, vy, yb)], i + 1, true, by omega, by go_num, rfl, by have := HRL.out; simp only [List.length_append, List.length_cons, List.length_nil]; omega, HNX.out, HROW.out, HB.out⟩
            case measure => simp [intOf]; omega
        · have hdec : decide (0 ≤ cmpL y.data.toList x.data.toList) = false := decide_eq_false hV
          have hxp : (y.data.toList == x.data.toList) = false := by
            rw [beq_eq_false_iff_ne]
            intro e
            rw [e, cmpL_self] at hV
            exact hV (Int.le_refl _)
          have HNX : Hid (R ++ [(y, dy, vy, yb)] ++ withT (C.drop (i + 1)) (x, d, bv, bb) false = withT C (x, d, bv, bb) false) := Lib.hid (by rw [← HEQ.out, HDR.out, withT_cons (y, dy, vy, yb) (x, d, bv, bb) _ _ _ _ hxp hdec]; simp)
          clear hdec
          go_wp2_with fail
          refine wp_region_org [(0, true), (1, true), (2, true), (3, true), (4, true), (5, true), (6, true), (7, true), (8, true), (9, true), (10, false), (11, true), (12, true)] (by kernel_rfl) (by kernel_rfl) (by kernel_rfl) ?_
          replace HB := Lib.hid HB.out.drew
          replace HROW := Lib.hid (World.ownsRow.drew HROW.out)
          generalize wr.drew = wd at *
          simp only [pickOrs, List.getElem?_cons_zero, List.getElem?_cons_succ]
          refine org_pure (v := ?_) (by kernel_rfl) ?_ ?_
          rotate_left
          · intro w' hv; clear hv; go_simp; try with_reducible rfl
          try simp only [Act.put, List.setIfInBounds_toArray, List.set_cons_zero, List.set_cons_succ]
          refine org_pure (v := ?_) (by kernel_rfl) ?_ ?_
          rotate_left
          · intro w' hv; clear hv; go_simp; try with_reducible rfl
          try simp only [Act.put, List.setIfInBounds_toArray, List.set_cons_zero, List.set_cons_succ]
          refine org_pure (v := ?_) (by kernel_rfl) ?_ ?_
          rotate_left
          · intro w' hv; clear hv; go_simp; try with_reducible rfl
          try simp only [Act.put, List.setIfInBounds_toArray, List.set_cons_zero, List.set_cons_succ]
          refine org_pure (v := ?_) (by kernel_rfl) ?_ ?_
          rotate_left
          · intro w' hv; clear hv; go_simp; try with_reducible rfl
          try simp only [Act.put, List.setIfInBounds_toArray, List.set_cons_zero, List.set_cons_succ]
          refine org_pure (v := ?_) (by kernel_rfl) ?_ ?_
          rotate_left
          · intro w' hv; clear hv; go_simp; try with_reducible rfl
          try simp only [Act.put, List.setIfInBounds_toArray, List.set_cons_zero, List.set_cons_succ]
          refine org_pure (v := ?_) (by kernel_rfl) ?_ ?_
          rotate_left
          · intro w' hv; clear hv; go_simp; try with_reducible rfl
          try simp only [Act.put, List.setIfInBounds_toArray, List.set_cons_zero, List.set_cons_succ]
          refine org_pure (v := ?_) (by kernel_rfl) ?_ ?_
          rotate_left
          · intro w' hv; clear hv; go_simp; try with_reducible rfl
          try simp only [Act.put, List.setIfInBounds_toArray, List.set_cons_zero, List.set_cons_succ]
          refine org_pure (v := ?_) (by kernel_rfl) ?_ ?_
          rotate_left
          · intro w' hv; have cp := (HC3.out w' (HB.out.trans (Below.mono hv HB.out.size))).1; clear hv; go_simp; try with_reducible rfl
          try simp only [Act.put, List.setIfInBounds_toArray, List.set_cons_zero, List.set_cons_succ]
          refine org_pure (v := ?_) (by kernel_rfl) ?_ ?_
          rotate_left
          · intro w' hv; clear hv; go_simp; try with_reducible rfl
          try simp only [Act.put, List.setIfInBounds_toArray, List.set_cons_zero, List.set_cons_succ]
          refine org_pure (v := ?_) (by kernel_rfl) ?_ ?_
          rotate_left
          · intro w' hv; have cq := (HBX3.out w' (HB.out.trans (Below.mono hv HB.out.size))).1; clear hv; go_simp; try with_reducible rfl
          try simp only [Act.put, List.setIfInBounds_toArray, List.set_cons_zero, List.set_cons_succ]
          refine org_step (by kernel_rfl) (fun K hK => ?_)
          go_wp2_with fail
          refine (HCM.out _).mono ?_
          rintro e wx ⟨rfl, hb⟩
          have HE2 := Lib.hid hb
          replace HROW := Lib.hid (own_below3 HROW.out hb)
          replace HB := Lib.hid (HB.out.trans (hb.mono HB.out.size))
          clear hb
          refine hK _ _ ⟨HE2.out, ?_⟩
          clear hK HE2
          try simp only [Act.put, List.setIfInBounds_toArray, List.set_cons_zero, List.set_cons_succ]
          refine org_pure (v := ?_) (by kernel_rfl) ?_ ?_
          rotate_left
          · intro w' hv; clear hv; go_simp; try with_reducible rfl
          try simp only [Act.put, List.setIfInBounds_toArray, List.set_cons_zero, List.set_cons_succ]
          refine org_pure (v := ?_) (by kernel_rfl) ?_ ?_
          rotate_left
          · intro w' hv; clear hv; go_simp; try with_reducible rfl
          try simp only [Act.put, List.setIfInBounds_toArray, List.set_cons_zero, List.set_cons_succ]
          refine org_nil ?_
          go_wp2_with fail
          refine wp_region_org [(0, true), (1, true), (2, true), (3, true), (4, true), (5, true), (6, true), (7, true)] (by kernel_rfl) (by kernel_rfl) (by kernel_rfl) ?_
          replace HB := Lib.hid HB.out.drew
          replace HROW := Lib.hid (World.ownsRow.drew HROW.out)
          generalize wx.drew = we at *
          simp only [pickOrs, List.getElem?_cons_zero, List.getElem?_cons_succ]
          refine org_pure (v := ?_) (by kernel_rfl) ?_ ?_
          rotate_left
          · intro w' hv; clear hv; go_simp; try with_reducible rfl
          try simp only [Act.put, List.setIfInBounds_toArray, List.set_cons_zero, List.set_cons_succ]
          refine org_pure (v := ?_) (by kernel_rfl) ?_ ?_
          rotate_left
          · intro w' hv; clear hv; go_simp; try with_reducible rfl
          try simp only [Act.put, List.setIfInBounds_toArray, List.set_cons_zero, List.set_cons_succ]
          refine org_pure (v := ?_) (by kernel_rfl) ?_ ?_
          rotate_left
          · intro w' hv; clear hv; go_simp; try with_reducible rfl
          try simp only [Act.put, List.setIfInBounds_toArray, List.set_cons_zero, List.set_cons_succ]
          refine org_pure (v := ?_) (by kernel_rfl) ?_ ?_
          rotate_left
          · intro w' hv; clear hv; go_simp; try with_reducible rfl
          try simp only [Act.put, List.setIfInBounds_toArray, List.set_cons_zero, List.set_cons_succ]
          refine org_pure (v := ?_) (by kernel_rfl) ?_ ?_
          rotate_left
          · intro w' hv; have cp := (HC3.out w' (HB.out.trans (Below.mono hv HB.out.size))).1; clear hv; go_simp; try with_reducible rfl
          try simp only [Act.put, List.setIfInBounds_toArray, List.set_cons_zero, List.set_cons_succ]
          refine org_pure (v := ?_) (by kernel_rfl) ?_ ?_
          rotate_left
          · intro w' hv; clear hv; go_simp; try with_reducible rfl
          try simp only [Act.put, List.setIfInBounds_toArray, List.set_cons_zero, List.set_cons_succ]
          refine org_pure (v := ?_) (by kernel_rfl) ?_ ?_
          rotate_left
          · intro w' hv; have cq := (HBX3.out w' (HB.out.trans (Below.mono hv HB.out.size))).1; clear hv; go_simp; try with_reducible rfl
          try simp only [Act.put, List.setIfInBounds_toArray, List.set_cons_zero, List.set_cons_succ]
          refine org_pure (v := ?_) (by kernel_rfl) ?_ ?_
          rotate_left
          · intro w' hv; clear hv; go_simp; try with_reducible rfl
          try simp only [Act.put, List.setIfInBounds_toArray, List.set_cons_zero, List.set_cons_succ]
          refine org_nil ?_
          obtain ⟨c1, c2, c3⟩ := HC3.out we HB.out
          go_wp2_with (refine wp_addE rfl (.tmp 39) (.tmp 44) rfl (base := w0.heap.size) (World.ownsRow.alloc HROW.out (.cells #[.string y, .bool dy, vy] 51)) (by have := HB.out.size; simp; omega) rfl we.heap.size (y, dy, vy, yb) rfl (Has.made' we 51 #[.string y, .bool dy, vy] _ rfl) hy1 HLEN1.out ?_; intro v3 w3 ho3 hb3; have HROW2 := Lib.hid ho3; have HB5 := Lib.hid hb3; clear ho3 hb3 HROW)
          replace HB := Lib.hid ((HB.out.alloc HB.out.size (.cells #[.string y, .bool dy, vy] 51)).trans HB5.out)
          have HROW := HROW2
          clear HROW2 HB5
          go_roundw
          case rel => exact ⟨R ++ [(y, dy, vy, yb)], i + 1, false, by omega, by go_num, rfl, by have := HRL.out; simp only [List.length_append, List.length_cons, List.length_nil]; omega, HNX.out, HROW.out, HB.out⟩
          case measure => simp [intOf]; omega
    · have hil : i = C.length := by omega
      subst hil
      have k0 : ¬ (C.length : Int) < (C.length : Int) := by omega
      have HLEN1 : Hid (R.length ≤ 1000000) := Lib.hid (by have := HRL.out; omega)
      have heq := HEQ.out
      rw [List.drop_length] at heq
      cases dn with
      | true =>
        have hr : R = withT C (x, d, bv, bb) false := by rw [← heq]; simp [withT]
        subst hr
        have HT := Lib.hid (OwnE.tr HROW.out)
        clear hlt HROW heq HEQ
        go_wp2_with fail
        go_ret
        first | exact ⟨⟨_, rfl, HT.out⟩, HB00.out.trans (HB.out.mono HB00.out.size)⟩ | exact ⟨HT.out, HB00.out.trans (HB.out.mono HB00.out.size)⟩
      | false =>
        have hr : R ++ [(x, d, bv, bb)] = withT C (x, d, bv, bb) false := by rw [← heq]; simp [withT]
        have HR := Lib.hid hr
        clear hlt heq HEQ hr
        obtain ⟨b1, b2, b3⟩ := HBX3.out wr HB.out
        go_wp2_with (refine wp_addE rfl (.tmp 48) (.tmp 50) rfl (base := w0.heap.size) (World.ownsRow.alloc HROW.out (.cells #[.string x, .bool d, bv] 51)) (by have := HB.out.size; simp; omega) rfl wr.heap.size (x, d, bv, bb) rfl (Has.made' wr 51 #[.string x, .bool d, bv] _ rfl) h1 HLEN1.out ?_; intro v3 w3 ho3 hb3; have HROW2 := Lib.hid ho3; have HB5 := Lib.hid hb3; clear ho3 hb3 HROW)
        replace HB := Lib.hid ((HB.out.alloc HB.out.size (.cells #[.string x, .bool d, bv] 51)).trans HB5.out)
        have HROW := HROW2
        clear HROW2 HB5
        have HT := Lib.hid (OwnE.tr HROW.out)
        rw [HR.out] at HT
        clear HROW
        go_ret
        first | exact ⟨⟨_, rfl, HT.out⟩, HB00.out.trans (HB.out.mono HB00.out.size)⟩ | exact ⟨HT.out, HB00.out.trans (HB.out.mono HB00.out.size)⟩
end Go.Proofs.YthpendoblgndcaaDoor
