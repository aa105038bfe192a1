/- The walk of the law SumKnown: it returns true, and writes nothing that was there. Condition: the variables as laid. -/
import Derived.Test.YtpfckamobjcdhaaDoorRaw
import Derived.Test.YtpfckamobjcdhaaDoorPbad
import Derived.Test.YtpfckamobjcdhaaDoorKnownM
import Derived.Test.YtpfckamobjcdhaaDoorFreeze
import Derived.Test.YtpfckamobjcdhaaDoorTab
namespace Go.Proofs.YtpfckamobjcdhaaDoor
open Go.RowKit
/-- The text of nothing's sum. -/
def tE : List (BitVec 8) := textOf (sha [])
theorem tE_length : tE.length = 64 := by unfold tE; rw [textOf_length, sha_length]
theorem tE_ok (j : Nat) (h : j < 64) : digOk (at8 tE j) = true := textOf_digits _ j (by rw [sha_length]; exact h)
def bads : Nat → List (BitVec 8)
  | 0 => []
  | 1 => [101, 51]
  | 2 => tE ++ [48]
  | 3 => [69, 51] ++ tE.drop 2
  | 4 => [103, 51] ++ tE.drop 2
  | _ => tE.take 63 ++ [32]
theorem bad_any (k : Nat) (w : World) :
    Calls Tryd.prog 11 #[.string (strB (bads k))] w fun e w' => e = .returned (.tuple #[.agg zrw, .bool false]) ∧ Below w.heap.size w w' := by
  match k with
  | 0 => exact parse_bad1 _ (by simp [bads]) w
  | 1 => exact parse_bad1 _ (by simp [bads]) w
  | 2 => exact parse_bad1 _ (by simp [bads, tE_length]) w
  | 3 => exact parse_bad2 _ (by simp [bads, tE_length]) 0 (by omega) (by omega) (.inl (by show digOk 69 = false; decide)) w
  | 4 => exact parse_bad2 _ (by simp [bads, tE_length]) 0 (by omega) (by omega) (.inl (by show digOk 103 = false; decide)) w
  | n + 5 =>
    have hb : bads (n + 5) = tE.take 63 ++ [32] := rfl
    rw [hb]
    have hl : (tE.take 63).length = 63 := by rw [List.length_take, tE_length]; rfl
    refine parse_bad2 _ (by rw [List.length_append, hl]; rfl) 31 (by omega) (fun j hj => ?_) (.inr ?_) w
    · have : at8 (tE.take 63 ++ [32]) j = at8 tE j := by
        unfold at8
        rw [List.getD_eq_getElem?_getD, List.getD_eq_getElem?_getD, List.getElem?_append_left (by omega), List.getElem?_take_of_lt (by omega)]
      rw [this]; exact tE_ok j (by omega)
    · have : at8 (tE.take 63 ++ [32]) 63 = 32 := by
        unfold at8
        rw [List.getD_eq_getElem?_getD, List.getElem?_append_right (by omega), hl]; rfl
      show digOk (at8 _ 63) = false
      rw [this]; decide
theorem str_size (t : List (BitVec 8)) : (strB t).size = t.length := by simp [strB, ByteArray.size]
theorem strB_append (a b : List (BitVec 8)) : strB a ++ strB b = strB (a ++ b) := by
  apply ByteArray.ext
  simp [strB]
theorem strB_extract (t : List (BitVec 8)) (i j : Nat) : (strB t).extract i j = strB ((t.take j).drop i) := by
  apply ByteArray.ext
  simp [strB, List.map_drop, List.map_take, List.drop_take]
section
variable {P : Program}
/-- A whole row loaded, the operation guarded and wanted. -/
theorem wpList_load_on {ops : Array Oper} {rest : List Oper} {o : Oper} {a : Act} {w : World} {Q : Exit → Act → World → Prop} (hw : Region.wanted o (yielded ops a.tmps) = true) (ty : TypeId) (x : Operand) (ho : o.op = .load ty x)
    (g : Nat) (hx : a.eval x = .pointer (some ⟨g, 0, none⟩)) (t : TypeId) (cs : Array Value) (fr : Nat × Nat) (d : TypeDesc) (hg : w.heap[g]? = some (.cells cs t fr))
    (hu : P.underlying ty = some d) (hd : (match d with | .struct _ | .array _ _ => true | _ => false) = true) (hi : (P.info? ty).map (·.size) = some cs.size)
    (h : wpList P ops Q rest (a.put o.dst (.agg cs)) w) : wpList P ops Q (o :: rest) a w :=
  wpList_step fun K hK => by rw [if_pos hw]; exact wp_load_row ty x ho g hx t cs fr d hg hu hd hi (hK _ _ h)
end
theorem zero_zrw (w : World) : Calls Tryd.prog 13 #[.agg zrw] w fun e w' => e = .returned (.bool true) ∧ Below w.heap.size w w' := by
  have := zero_any zero32 rfl w
  rw [decide_eq_true (rfl : zero32 = zero32), ← zrw_eq] at this
  exact this
def zer (n : Nat) : List Value := List.replicate n (.int .u8 0)
def z56 : List (BitVec 8) := List.replicate 56 0
theorem zer_u8 (n : Nat) : zer n = (List.replicate n (0 : BitVec 8)).map u8v := by simp [zer, u8v, B]
theorem make55 (w : World) : (Instr.makeSlice 30 (.int .i64 55) (.int .i64 55)).run Tryd.prog w = .ok (.slice (some ⟨w.heap.size, 0, none⟩) 55 55) (w.alloc (.cells (zer 55).toArray 5)) := by kernel_rfl
theorem make1 (w : World) : (Instr.makeSlice 30 (.int .i64 1) (.int .i64 1)).run Tryd.prog w = .ok (.slice (some ⟨w.heap.size, 0, none⟩) 1 1) (w.alloc (.cells (zer 1).toArray 5)) := by kernel_rfl
theorem make56 (w : World) : (Instr.makeSlice 30 (.int .i64 56) (.int .i64 56)).run Tryd.prog w = .ok (.slice (some ⟨w.heap.size, 0, none⟩) 56 56) (w.alloc (.cells (zer 56).toArray 5)) := by kernel_rfl
/-- Fifty-five noughts and one: their sum. -/
theorem of_two (w : World) (a b c : Nat) (ha : Has w a 5 (zer 55)) (hb : Has w b 5 (zer 1)) (hc : Has w c 30 [.slice (some ⟨a, 0, none⟩) 55 55, .slice (some ⟨b, 0, none⟩) 1 1]) (hL : Laid w) :
    Calls Tryd.prog 10 #[.slice (some ⟨c, 0, none⟩) 2 2] w fun e w' => e = .returned (.agg ((sha z56).map u8v).toArray) ∧ Below w.heap.size w w' := by
  have hP : Parts w w.heap.size (some ⟨c, 0, none⟩) [List.replicate 55 0, List.replicate 1 0] := by
    intro i hi
    have hi' : i = 0 ∨ i = 1 := by simp at hi; omega
    rcases hi' with rfl | rfl
    · have hcell : w.cell? (Addr.add ⟨c, 0, none⟩ 0) = some (.slice (some ⟨a, 0, none⟩) 55 55) := hc.cellv (i := 0) rfl
      exact ⟨_, some ⟨a, 0, none⟩, 55, rfl, hc.lt, by simpa using hcell, by simp, by
        have := Sees.of_has ha ha.lt
        rw [zer_u8] at this
        simpa using this⟩
    · have hcell : w.cell? (Addr.add ⟨c, 0, none⟩ 1) = some (.slice (some ⟨b, 0, none⟩) 1 1) := hc.cellv (i := 1) rfl
      exact ⟨_, some ⟨b, 0, none⟩, 1, rfl, hc.lt, by simpa using hcell, by simp, by
        have := Sees.of_has hb hb.lt
        rw [zer_u8] at this
        simpa using this⟩
  have := of_any [List.replicate 55 0, List.replicate 1 0] (some ⟨c, 0, none⟩) 2 w hP (by simp) (by simp) hL
  exact this
def HasA (w : World) (g : Nat) (t : TypeId) (cs : Array Value) : Prop := w.heap[g]? = some (.cells cs t (0, 0))
theorem HasA.lt {w : World} {g : Nat} {t : TypeId} {cs : Array Value} (h : HasA w g t cs) : g < w.heap.size := (Array.getElem?_eq_some_iff.1 h).1
/-- What region 13 keeps. -/
def Kept (w0 : World) (b g1 g2 b8 b9 : Nat) (ce cl : List Value) (wl : Array Value) (w : World) : Prop := Two 24 g1 g2 ce ce w ∧ Has w b8 24 cl ∧ HasA w b9 24 wl ∧ Below b w0 w ∧ b ≤ w.heap.size
namespace Kept
variable {w0 w w' : World} {b g1 g2 b8 b9 : Nat} {ce cl : List Value} {wl : Array Value}
theorem keep (h : Kept w0 b g1 g2 b8 b9 ce cl wl w) (hb : Below w.heap.size w w') : Kept w0 b g1 g2 b8 b9 ce cl wl w' :=
  ⟨h.1.keep hb, h.2.1.keep hb h.2.1.lt, (hb.block _ h.2.2.1.lt).trans h.2.2.1, h.2.2.2.1.trans (hb.mono h.2.2.2.2), Nat.le_trans h.2.2.2.2 hb.size⟩
theorem alloc (h : Kept w0 b g1 g2 b8 b9 ce cl wl w) (o : Obj) : Kept w0 b g1 g2 b8 b9 ce cl wl (w.alloc o) :=
  ⟨h.1.alloc o, h.2.1.alloc o, (Below.heap_alloc w o _ h.2.2.1.lt).trans h.2.2.1, h.2.2.2.1.alloc h.2.2.2.2 o, by have := h.2.2.2.2; simp; omega⟩
end Kept
theorem kept_drew {w0 w : World} {b g1 g2 b8 b9 : Nat} {ce cl : List Value} {wl : Array Value} (h : Kept w0 b g1 g2 b8 b9 ce cl wl w) : Kept w0 b g1 g2 b8 b9 ce cl wl w.drew :=
  ⟨h.1, h.2.1, h.2.2.1, h.2.2.2.1.drew, h.2.2.2.2⟩
theorem kept_below {w0 w : World} {b g1 g2 b8 b9 : Nat} {ce cl : List Value} {wl : Array Value} (h : Kept w0 b g1 g2 b8 b9 ce cl wl w) : Below b w0 w := h.2.2.2.1
theorem kept_ext {w0 w w' : World} {b g1 g2 b8 b9 : Nat} {ce cl : List Value} {wl : Array Value} (h : Kept w0 b g1 g2 b8 b9 ce cl wl w) (he : Ext b w w') : Kept w0 b g1 g2 b8 b9 ce cl wl w' :=
  ⟨⟨he.has h.1.1 (by decide), he.has h.1.2 (by decide)⟩, he.has h.2.1 (by decide), he.hasA h.2.2.1 (by decide), he.under h.2.2.2.1 h.2.2.2.2, Nat.le_trans h.2.2.2.2 he.size⟩
theorem load_yieldA {P : Program} {S : World → Prop} {o : Oper} {ev : Operand → Value} (T : TypeId) (x : Operand) (ho : o.op = .load T x) (g : Nat) (hx : ev x = .pointer (some ⟨g, 0, none⟩)) (t : TypeId) (cs : Array Value)
    (hS : ∀ w, S w → HasA w g t cs) (d : TypeDesc) (hu : P.underlying T = some d) (hd : (match d with | .struct _ | .array _ _ => true | _ => false) = true) (hi : (P.info? T).map (·.size) = some cs.size) :
    ∀ w', S w' → (execOp ev o).run P w' = .ok (.value (.agg cs)) w' := by
  intro w' h
  unfold execOp
  simp only [ho, hx, Instr.loadAt, Instr.sureAddr, Sem.run_bind, Sem.run_pure, Result.andThen_ok, run_loadVar_row w' g t T cs (0, 0) d (hS w' h) hu hd hi]
def bysK (base : Nat) (x : List (BitVec 8)) : Kind (Ext base) := ⟨fun v w => ∃ b, v = .slice (some ⟨b, 0, none⟩) x.length x.length ∧ Bys base w b x, fun _ _ _ h he => by
  obtain ⟨b, h1, h2⟩ := h; exact ⟨b, h1, h2.ext he⟩⟩
def rowK (base : Nat) (x : List (BitVec 8)) : Kind (Ext base) := ⟨fun v w => ∃ b d, v = .slice (some ⟨d, 0, none⟩) 1 1 ∧ Has w d 30 [.slice (some ⟨b, 0, none⟩) x.length x.length] ∧ Bys base w b x, fun _ _ _ h he => by
  obtain ⟨b, d, h1, h2, h3⟩ := h; exact ⟨b, d, h1, he.has h2 (by decide), h3.ext he⟩⟩
def pairK (base : Nat) : Kind (Ext base) := ⟨fun v w => ∃ b c d, v = .slice (some ⟨d, 0, none⟩) 2 2 ∧ Has w d 30 [.slice (some ⟨b, 0, none⟩) 1 1, .slice (some ⟨c, 0, none⟩) 2 2] ∧ Bys base w b [97] ∧ Bys base w c [98, 99], fun _ _ _ h he => by
  obtain ⟨b, c, d, h1, h2, h3, h4⟩ := h; exact ⟨b, c, d, h1, he.has h2 (by decide), h3.ext he, h4.ext he⟩⟩
theorem conv_lit {base : Nat} {w : World} {b n : Nat} {x : List (BitVec 8)} (h : Bys base w b x) (hn : x.length = n) :
    ∃ m, (convert 30 30 (.slice (some ⟨b, 0, none⟩) n n)).run Tryd.prog w = .ok (.slice (some ⟨b, 0, none⟩) n n) (w.freeze ⟨b, m, none⟩ 1) ∧ Ext base w (w.freeze ⟨b, m, none⟩ 1) := by
  subst hn
  obtain ⟨hb, fr, hc⟩ := h
  exact ⟨_, conv_any w b _ _ _ fr hc, ext_freeze ⟨hb, fr, hc⟩⟩
theorem conv_goes {base : Nat} {o : Oper} {a : Act} {v : World} {K : Act → World → Prop} {Q : Exit → Act → World → Prop} {s b n : Nat} {x : List (BitVec 8)} (ho : o.op = .convert 30 30 (.tmp s)) (he : a.eval (.tmp s) = .slice (some ⟨b, 0, none⟩) n n)
    (hb : Bys base v b x) (hn : x.length = n) (h : ∀ w', Ext base v w' → K (a.put o.dst (.slice (some ⟨b, 0, none⟩) n n)) w') : o.wp Tryd.prog a v K Q := by
  obtain ⟨m, hcv, hx⟩ := conv_lit hb hn
  unfold Oper.wp execOp
  simp only [ho, he, Sem.run_bind, Sem.run_pure, Result.andThen_ok, hcv]
  exact h _ hx
theorem conv_op {base : Nat} {o : Oper} {a : Act} {v : World} {Q : Exit → Act → World → Prop} {S : World → Prop} {s t b n : Nat} {x : List (BitVec 8)} (ho : o.op = .convert 30 30 (.tmp s)) (hd : o.dst = some t) (he : a.eval (.tmp s) = .slice (some ⟨b, 0, none⟩) n n)
    (hb : Bys base v b x) (hn : x.length = n) (hS : ∀ w', Ext base v w' → S w') : ∀ K : Act → World → Prop, (∀ v' w', S w' → Ext base v w' → (bysK base x).1 v' w' → K (a.put (some t) v') w') → o.wp Tryd.prog a v K Q := by
  intro K hK
  refine conv_goes ho he hb hn (fun w' hx => ?_)
  rw [hd]
  exact hK _ _ (hS _ hx) hx ⟨b, by rw [hn], hb.ext hx⟩
def pairsB (ops : Array Oper) (C : Nat → Array Bool → Bool) (l0 : Array Bool) : List (List (List Nat)) → Prop
  | E :: E' :: r => ((E.map (listN l0)).all (stB ops C (E'.map (listN l0))) = true) ∧ pairsB ops C l0 (E' :: r)
  | _ => True
theorem levels_of_pairs (ops : Array Oper) (C : Nat → Array Bool → Bool) (l0 : Array Bool) : ∀ L : List (List (List Nat)), pairsB ops C l0 L → levelsB .any ops C (L.map fun L => L.map (listN l0)) = true
  | [], _ => rfl
  | [_], _ => rfl
  | _ :: E' :: r, h => levelsB_step h.1 (levels_of_pairs ops C l0 (E' :: r) h.2)
theorem levs_eq (l0 : Array Bool) (mids : List (List (List Nat))) (done : List Nat) : ([l0] :: (mids.map fun L => L.map (listN l0)) ++ [[listN l0 done]]) = (([[]] :: mids ++ [[done]]).map fun L => L.map (listN l0)) := by
  simp [listN]
noncomputable def ops14 : Array Oper := regOf Tryd.f3.body 14
def l14 : Array Bool := listN (Array.replicate 81 false) (List.range 19)
def deps14 : List (Nat × List Nat) := [(19, []), (20, [19]), (21, []), (22, [21]), (23, [20, 22]), (24, [23]), (25, []), (26, [25]), (27, [26])]
set_option maxRecDepth 100000 in
theorem lev14_0 : ([[]].map (listN l14)).all (stB ops14 (CT deps14) ([[19], [21], [25]].map (listN l14))) = true := by kernel_rfl
set_option maxRecDepth 100000 in
theorem lev14_1 : ([[19], [21], [25]].map (listN l14)).all (stB ops14 (CT deps14) ([[19, 20], [19, 21], [19, 25], [21, 22], [21, 25], [25, 26]].map (listN l14))) = true := by kernel_rfl
set_option maxRecDepth 100000 in
theorem lev14_2 : ([[19, 20], [19, 21], [19, 25], [21, 22], [21, 25], [25, 26]].map (listN l14)).all (stB ops14 (CT deps14) ([[19, 20, 21], [19, 20, 25], [19, 21, 22], [19, 21, 25], [19, 25, 26], [21, 22, 25], [21, 25, 26], [25, 26, 27]].map (listN l14))) = true := by kernel_rfl
set_option maxRecDepth 100000 in
theorem lev14_3 : ([[19, 20, 21], [19, 20, 25], [19, 21, 22], [19, 21, 25], [19, 25, 26], [21, 22, 25], [21, 25, 26], [25, 26, 27]].map (listN l14)).all (stB ops14 (CT deps14) ([[19, 20, 21, 22], [19, 20, 21, 25], [19, 20, 25, 26], [19, 21, 22, 25], [19, 21, 25, 26], [19, 25, 26, 27], [21, 22, 25, 26], [21, 25, 26, 27]].map (listN l14))) = true := by kernel_rfl
set_option maxRecDepth 100000 in
theorem lev14_4 : ([[19, 20, 21, 22], [19, 20, 21, 25], [19, 20, 25, 26], [19, 21, 22, 25], [19, 21, 25, 26], [19, 25, 26, 27], [21, 22, 25, 26], [21, 25, 26, 27]].map (listN l14)).all (stB ops14 (CT deps14) ([[19, 20, 21, 22, 23], [19, 20, 21, 22, 25], [19, 20, 21, 25, 26], [19, 20, 25, 26, 27], [19, 21, 22, 25, 26], [19, 21, 25, 26, 27], [21, 22, 25, 26, 27]].map (listN l14))) = true := by kernel_rfl
set_option maxRecDepth 100000 in
theorem lev14_5 : ([[19, 20, 21, 22, 23], [19, 20, 21, 22, 25], [19, 20, 21, 25, 26], [19, 20, 25, 26, 27], [19, 21, 22, 25, 26], [19, 21, 25, 26, 27], [21, 22, 25, 26, 27]].map (listN l14)).all (stB ops14 (CT deps14) ([[19, 20, 21, 22, 23, 24], [19, 20, 21, 22, 23, 25], [19, 20, 21, 22, 25, 26], [19, 20, 21, 25, 26, 27], [19, 21, 22, 25, 26, 27]].map (listN l14))) = true := by kernel_rfl
set_option maxRecDepth 100000 in
theorem lev14_6 : ([[19, 20, 21, 22, 23, 24], [19, 20, 21, 22, 23, 25], [19, 20, 21, 22, 25, 26], [19, 20, 21, 25, 26, 27], [19, 21, 22, 25, 26, 27]].map (listN l14)).all (stB ops14 (CT deps14) ([[19, 20, 21, 22, 23, 24, 25], [19, 20, 21, 22, 23, 25, 26], [19, 20, 21, 22, 25, 26, 27]].map (listN l14))) = true := by kernel_rfl
set_option maxRecDepth 100000 in
theorem lev14_7 : ([[19, 20, 21, 22, 23, 24, 25], [19, 20, 21, 22, 23, 25, 26], [19, 20, 21, 22, 25, 26, 27]].map (listN l14)).all (stB ops14 (CT deps14) ([[19, 20, 21, 22, 23, 24, 25, 26], [19, 20, 21, 22, 23, 25, 26, 27]].map (listN l14))) = true := by kernel_rfl
set_option maxRecDepth 100000 in
theorem lev14_8 : ([[19, 20, 21, 22, 23, 24, 25, 26], [19, 20, 21, 22, 23, 25, 26, 27]].map (listN l14)).all (stB ops14 (CT deps14) ([[19, 20, 21, 22, 23, 24, 25, 26, 27]].map (listN l14))) = true := by kernel_rfl
theorem lev14 : levelsB .any ops14 (CT deps14) ([l14] :: (([[[19], [21], [25]], [[19, 20], [19, 21], [19, 25], [21, 22], [21, 25], [25, 26]], [[19, 20, 21], [19, 20, 25], [19, 21, 22], [19, 21, 25], [19, 25, 26], [21, 22, 25], [21, 25, 26], [25, 26, 27]], [[19, 20, 21, 22], [19, 20, 21, 25], [19, 20, 25, 26], [19, 21, 22, 25], [19, 21, 25, 26], [19, 25, 26, 27], [21, 22, 25, 26], [21, 25, 26, 27]], [[19, 20, 21, 22, 23], [19, 20, 21, 22, 25], [19, 20, 21, 25, 26], [19, 20, 25, 26, 27], [19, 21, 22, 25, 26], [19, 21, 25, 26, 27], [21, 22, 25, 26, 27]], [[19, 20, 21, 22, 23, 24], [19, 20, 21, 22, 23, 25], [19, 20, 21, 22, 25, 26], [19, 20, 21, 25, 26, 27], [19, 21, 22, 25, 26, 27]], [[19, 20, 21, 22, 23, 24, 25], [19, 20, 21, 22, 23, 25, 26], [19, 20, 21, 22, 25, 26, 27]], [[19, 20, 21, 22, 23, 24, 25, 26], [19, 20, 21, 22, 23, 25, 26, 27]]] : List (List (List Nat))).map fun L => L.map (listN l14)) ++ [[listN l14 [19, 20, 21, 22, 23, 24, 25, 26, 27]]]) = true := by
  rw [levs_eq]
  exact levels_of_pairs _ _ _ _ ⟨lev14_0, lev14_1, lev14_2, lev14_3, lev14_4, lev14_5, lev14_6, lev14_7, lev14_8, trivial⟩
set_option maxRecDepth 100000 in
theorem l14_eq : listedAfter [(0, true), (1, false), (2, true), (3, true), (4, true), (5, true), (6, true), (7, true), (8, true), (9, true), (10, true), (11, true), (12, true), (13, false), (14, false), (15, false), (16, true), (17, true), (18, true)] (Array.replicate ops14.size false) = l14 := by kernel_rfl
set_option maxRecDepth 100000 in
theorem chk14_0 : (fun q : Array Oper => (decide (62 + ([(0, true), (1, false), (2, true), (3, true), (4, true), (5, true), (6, true), (7, true), (8, true), (9, true), (10, true), (11, true), (12, true), (13, false), (14, false), (15, false), (16, true), (17, true), (18, true)] : List (Nat × Bool)).length = q.size) && (orsNB .any q [(0, true), (1, false), (2, true), (3, true), (4, true), (5, true), (6, true), (7, true), (8, true), (9, true), (10, true), (11, true), (12, true), (13, false), (14, false), (15, false), (16, true), (17, true), (18, true)] (Array.replicate q.size false) && ([(0, true), (1, false), (2, true), (3, true), (4, true), (5, true), (6, true), (7, true), (8, true), (9, true), (10, true), (11, true), (12, true), (13, false), (14, false), (15, false), (16, true), (17, true), (18, true)] : List (Nat × Bool)).all fun x => decide (x.1 < q.size)))) ops14 = true := by kernel_rfl
set_option maxRecDepth 100000 in
theorem chk14_1 : (fun q : Array Oper => levelsB .any q (CT deps14) ([(listedAfter [(0, true), (1, false), (2, true), (3, true), (4, true), (5, true), (6, true), (7, true), (8, true), (9, true), (10, true), (11, true), (12, true), (13, false), (14, false), (15, false), (16, true), (17, true), (18, true)] (Array.replicate q.size false))] :: (([[[19], [21], [25]], [[19, 20], [19, 21], [19, 25], [21, 22], [21, 25], [25, 26]], [[19, 20, 21], [19, 20, 25], [19, 21, 22], [19, 21, 25], [19, 25, 26], [21, 22, 25], [21, 25, 26], [25, 26, 27]], [[19, 20, 21, 22], [19, 20, 21, 25], [19, 20, 25, 26], [19, 21, 22, 25], [19, 21, 25, 26], [19, 25, 26, 27], [21, 22, 25, 26], [21, 25, 26, 27]], [[19, 20, 21, 22, 23], [19, 20, 21, 22, 25], [19, 20, 21, 25, 26], [19, 20, 25, 26, 27], [19, 21, 22, 25, 26], [19, 21, 25, 26, 27], [21, 22, 25, 26, 27]], [[19, 20, 21, 22, 23, 24], [19, 20, 21, 22, 23, 25], [19, 20, 21, 22, 25, 26], [19, 20, 21, 25, 26, 27], [19, 21, 22, 25, 26, 27]], [[19, 20, 21, 22, 23, 24, 25], [19, 20, 21, 22, 23, 25, 26], [19, 20, 21, 22, 25, 26, 27]], [[19, 20, 21, 22, 23, 24, 25, 26], [19, 20, 21, 22, 23, 25, 26, 27]]] : List (List (List Nat))).map fun L => L.map (listN (listedAfter [(0, true), (1, false), (2, true), (3, true), (4, true), (5, true), (6, true), (7, true), (8, true), (9, true), (10, true), (11, true), (12, true), (13, false), (14, false), (15, false), (16, true), (17, true), (18, true)] (Array.replicate q.size false)))) ++ [[listN (listedAfter [(0, true), (1, false), (2, true), (3, true), (4, true), (5, true), (6, true), (7, true), (8, true), (9, true), (10, true), (11, true), (12, true), (13, false), (14, false), (15, false), (16, true), (17, true), (18, true)] (Array.replicate q.size false)) [19, 20, 21, 22, 23, 24, 25, 26, 27]]])) ops14 = true := by
  show levelsB .any ops14 (CT deps14) ([(listedAfter [(0, true), (1, false), (2, true), (3, true), (4, true), (5, true), (6, true), (7, true), (8, true), (9, true), (10, true), (11, true), (12, true), (13, false), (14, false), (15, false), (16, true), (17, true), (18, true)] (Array.replicate ops14.size false))] :: (([[[19], [21], [25]], [[19, 20], [19, 21], [19, 25], [21, 22], [21, 25], [25, 26]], [[19, 20, 21], [19, 20, 25], [19, 21, 22], [19, 21, 25], [19, 25, 26], [21, 22, 25], [21, 25, 26], [25, 26, 27]], [[19, 20, 21, 22], [19, 20, 21, 25], [19, 20, 25, 26], [19, 21, 22, 25], [19, 21, 25, 26], [19, 25, 26, 27], [21, 22, 25, 26], [21, 25, 26, 27]], [[19, 20, 21, 22, 23], [19, 20, 21, 22, 25], [19, 20, 21, 25, 26], [19, 20, 25, 26, 27], [19, 21, 22, 25, 26], [19, 21, 25, 26, 27], [21, 22, 25, 26, 27]], [[19, 20, 21, 22, 23, 24], [19, 20, 21, 22, 23, 25], [19, 20, 21, 22, 25, 26], [19, 20, 21, 25, 26, 27], [19, 21, 22, 25, 26, 27]], [[19, 20, 21, 22, 23, 24, 25], [19, 20, 21, 22, 23, 25, 26], [19, 20, 21, 22, 25, 26, 27]], [[19, 20, 21, 22, 23, 24, 25, 26], [19, 20, 21, 22, 23, 25, 26, 27]]] : List (List (List Nat))).map fun L => L.map (listN (listedAfter [(0, true), (1, false), (2, true), (3, true), (4, true), (5, true), (6, true), (7, true), (8, true), (9, true), (10, true), (11, true), (12, true), (13, false), (14, false), (15, false), (16, true), (17, true), (18, true)] (Array.replicate ops14.size false)))) ++ [[listN (listedAfter [(0, true), (1, false), (2, true), (3, true), (4, true), (5, true), (6, true), (7, true), (8, true), (9, true), (10, true), (11, true), (12, true), (13, false), (14, false), (15, false), (16, true), (17, true), (18, true)] (Array.replicate ops14.size false)) [19, 20, 21, 22, 23, 24, 25, 26, 27]]]) = true
  rw [l14_eq]; exact lev14
set_option maxRecDepth 100000 in
theorem chk14_2 : (fun q : Array Oper => (orsNB .any q [(28, false), (29, true), (30, true), (31, true), (32, true), (33, false), (34, true), (35, true), (36, true), (37, true), (38, false), (39, true), (40, true), (41, true), (42, true), (43, false), (44, true), (45, true), (46, true), (47, true), (48, false), (49, true), (50, true), (51, true), (52, true), (53, true), (54, false), (55, true), (56, true), (57, true), (58, true), (59, true), (60, false), (61, true), (62, true), (63, true), (64, true), (65, true), (66, false), (67, true), (68, true), (69, true), (70, true), (71, true), (72, false), (73, false), (74, true), (75, true), (76, true), (77, false), (78, true), (79, true), (80, true)] (listN (listedAfter [(0, true), (1, false), (2, true), (3, true), (4, true), (5, true), (6, true), (7, true), (8, true), (9, true), (10, true), (11, true), (12, true), (13, false), (14, false), (15, false), (16, true), (17, true), (18, true)] (Array.replicate q.size false)) [19, 20, 21, 22, 23, 24, 25, 26, 27]) && ([(28, false), (29, true), (30, true), (31, true), (32, true), (33, false), (34, true), (35, true), (36, true), (37, true), (38, false), (39, true), (40, true), (41, true), (42, true), (43, false), (44, true), (45, true), (46, true), (47, true), (48, false), (49, true), (50, true), (51, true), (52, true), (53, true), (54, false), (55, true), (56, true), (57, true), (58, true), (59, true), (60, false), (61, true), (62, true), (63, true), (64, true), (65, true), (66, false), (67, true), (68, true), (69, true), (70, true), (71, true), (72, false), (73, false), (74, true), (75, true), (76, true), (77, false), (78, true), (79, true), (80, true)] : List (Nat × Bool)).all fun x => decide (x.1 < q.size))) ops14 = true := by
  show (orsNB .any ops14 [(28, false), (29, true), (30, true), (31, true), (32, true), (33, false), (34, true), (35, true), (36, true), (37, true), (38, false), (39, true), (40, true), (41, true), (42, true), (43, false), (44, true), (45, true), (46, true), (47, true), (48, false), (49, true), (50, true), (51, true), (52, true), (53, true), (54, false), (55, true), (56, true), (57, true), (58, true), (59, true), (60, false), (61, true), (62, true), (63, true), (64, true), (65, true), (66, false), (67, true), (68, true), (69, true), (70, true), (71, true), (72, false), (73, false), (74, true), (75, true), (76, true), (77, false), (78, true), (79, true), (80, true)] (listN (listedAfter [(0, true), (1, false), (2, true), (3, true), (4, true), (5, true), (6, true), (7, true), (8, true), (9, true), (10, true), (11, true), (12, true), (13, false), (14, false), (15, false), (16, true), (17, true), (18, true)] (Array.replicate ops14.size false)) [19, 20, 21, 22, 23, 24, 25, 26, 27]) && ([(28, false), (29, true), (30, true), (31, true), (32, true), (33, false), (34, true), (35, true), (36, true), (37, true), (38, false), (39, true), (40, true), (41, true), (42, true), (43, false), (44, true), (45, true), (46, true), (47, true), (48, false), (49, true), (50, true), (51, true), (52, true), (53, true), (54, false), (55, true), (56, true), (57, true), (58, true), (59, true), (60, false), (61, true), (62, true), (63, true), (64, true), (65, true), (66, false), (67, true), (68, true), (69, true), (70, true), (71, true), (72, false), (73, false), (74, true), (75, true), (76, true), (77, false), (78, true), (79, true), (80, true)] : List (Nat × Bool)).all fun x => decide (x.1 < ops14.size)) = true
  rw [l14_eq]; kernel_rfl
set_option maxHeartbeats 40000000 in
set_option maxRecDepth 100000 in
theorem known_any (w : World) (hL : Laid w) :
    Calls Tryd.prog 3 #[] w fun e w' => e = .returned (.bool true) ∧ Below w.heap.size w w' := by
  obtain ⟨ce, hce⟩ : ∃ ce, ce = (sha []).map u8v := ⟨_, rfl⟩
  have hl0 : (sha []).length = 32 := sha_length _
  have KE : Hid ((Tryd.prog.info? 24).map (·.size) = some ce.toArray.size) := Lib.hid (by rw [sum_info, hce]; simp [hl0])
  have LE : Hid ((brow 32 []).toArray.size = ce.toArray.size) := Lib.hid (by rw [hce]; simp [brow, hl0])
  have OE : Hid (ce.toArray.all (·.oneCell') = true) := Lib.hid (by rw [hce]; exact u8v_one _)
  have T1 : Hid (∀ w, Calls Tryd.prog 12 #[.agg ce.toArray] w fun e w' => e = .returned (.string (strB tE)) ∧ Below w.heap.size w w') := Lib.hid fun w => by
    rw [hce]; exact text_any _ hl0 w
  have P1 : Hid (∀ w, Calls Tryd.prog 11 #[.string (strB tE)] w fun e w' => e = .returned (.tuple #[.agg ce.toArray, .bool true]) ∧ Below w.heap.size w w') := Lib.hid fun w => by
    rw [hce]; exact parse_text _ hl0 w
  have A0 : Hid (∀ w, Laid w → Calls Tryd.prog 10 #[.slice none 0 0] w fun e w' => e = .returned (.agg ce.toArray) ∧ Below w.heap.size w w') := Lib.hid fun w h => by
    rw [hce]
    exact of_any [] none 0 w (fun i hi => absurd hi (by simp)) (by simp) (by simp) h
  have HL : Hid (∀ w', Below w.heap.size w w' → Laid w') := Lib.hid fun w' hb => hL.keep hb hL.size
  have hA := Lib.hid (awake_any w hL)
  obtain ⟨cl, hcl⟩ : ∃ cl, cl = (sha z56).map u8v := ⟨_, rfl⟩
  have ll : (sha z56).length = 32 := sha_length _
  have KL : Hid ((Tryd.prog.info? 24).map (·.size) = some cl.toArray.size) := Lib.hid (by rw [sum_info, hcl]; simp [ll])
  have LL : Hid ((brow 32 []).toArray.size = cl.toArray.size) := Lib.hid (by rw [hcl]; simp [brow, ll])
  have OL : Hid (cl.toArray.all (·.oneCell') = true) := Lib.hid (by rw [hcl]; exact u8v_one _)
  have O2 : Hid (∀ (w : World) (a b c : Nat), Has w a 5 (zer 55) → Has w b 5 (zer 1) → Has w c 30 [.slice (some ⟨a, 0, none⟩) 55 55, .slice (some ⟨b, 0, none⟩) 1 1] → Laid w →
      Calls Tryd.prog 10 #[.slice (some ⟨c, 0, none⟩) 2 2] w fun e w' => e = .returned (.agg cl.toArray) ∧ Below w.heap.size w w') := Lib.hid fun w a b c ha hb hc hL => by
    rw [hcl]; exact of_two w a b c ha hb hc hL
  have Hcl := Lib.hid hcl
  have Hce := Lib.hid hce
  clear hce hl0 hL hcl ll
  have Hts : Hid (((strB tE).size : Int) = 64) := Lib.hid (by rw [str_size, tE_length]; rfl)
  obtain ⟨tx, htx⟩ : ∃ tx, tx = strB tE := ⟨_, rfl⟩
  have HTX := Lib.hid htx
  rw [← htx] at Hts T1 P1
  clear htx
  go_enter Tryd.func3, Tryd.ntmps3
  go_upto_region 4 with (first
    | (go_at_call 9; refine hA.out.mono ?_; rintro e w1 ⟨rfl, hb1⟩; have HB1 := Lib.hid hb1; clear hb1)
    | (go_at_call 10; refine (A0.out _ (HL.out _ HB1.out)).mono ?_; rintro e w2 ⟨rfl, hb2⟩; have HB2 := Lib.hid (HB1.out.trans (hb2.mono HB1.out.size)); clear hb2)
    | (refine wpList_store_row rfl 24 _ _ rfl w2.heap.size _ rfl rfl 24 _ (Has.made' w2 24 _ (brow 32 []) rfl) KE.out LE.out OE.out ?_))
  have e1 : (w2.alloc (.cells (brow 32 []).toArray 24)).heap.size = w2.heap.size + 1 := by simp
  have x1 : Has ((w2.alloc (.cells (brow 32 []).toArray 24)).setRow w2.heap.size ce.toArray) w2.heap.size 24 ce := (Has.made' w2 24 _ (brow 32 []) rfl).rowl ce
  have x2 : Below w.heap.size w ((w2.alloc (.cells (brow 32 []).toArray 24)).setRow w2.heap.size ce.toArray) := below_row (HB2.out.alloc HB2.out.size _) HB2.out.size _
  generalize hw3 : World.setRow _ _ _ = w3
  have h1 : Has w3 w2.heap.size 24 ce := by rw [← hw3]; exact x1
  have HB3 : Hid (Below w.heap.size w w3) := by rw [← hw3]; exact Lib.hid x2
  clear hw3 x1 x2 e1 HB1
  generalize w2.heap.size = g1 at *
  clear HB2
  go_upto_region 5 with (first
    | (refine wpList_load_row rfl 24 _ rfl g1 rfl 24 _ (0, 0) _ h1 Tryd.underlying24 rfl KE.out ?_)
    | (go_at_call 12; with_reducible refine (T1.out _).mono ?_; rintro e w4 ⟨rfl, hb⟩; have H4 := Lib.hid (h1.keep hb h1.lt); have HB4 := Lib.hid (HB3.out.trans (hb.mono HB3.out.size)); clear hb h1 HB3)
    | (go_at_call 11; with_reducible refine (P1.out _).mono ?_; rintro e w5 ⟨rfl, hb⟩; have H5 := Lib.hid (H4.out.keep hb H4.out.lt); have HB5 := Lib.hid (HB4.out.trans (hb.mono HB4.out.size)); clear hb H4 HB4)
    | (refine wpList_store_row rfl 24 _ _ rfl w5.heap.size _ rfl rfl 24 _ (Has.made' w5 24 _ (brow 32 []) rfl) KE.out LE.out OE.out ?_))
  have x1 : Has ((w5.alloc (.cells (brow 32 []).toArray 24)).setRow w5.heap.size ce.toArray) w5.heap.size 24 ce := (Has.made' w5 24 _ (brow 32 []) rfl).rowl ce
  have x2 : Below w.heap.size w ((w5.alloc (.cells (brow 32 []).toArray 24)).setRow w5.heap.size ce.toArray) := below_row (HB5.out.alloc HB5.out.size _) HB5.out.size _
  have x3 : Has ((w5.alloc (.cells (brow 32 []).toArray 24)).setRow w5.heap.size ce.toArray) g1 24 ce := (H5.out.alloc _).offRow (Nat.ne_of_lt H5.out.lt) _
  generalize hw6 : World.setRow _ _ _ = w6
  have h2 : Two 24 g1 w5.heap.size ce ce w6 := by rw [← hw6]; exact ⟨x3, x1⟩
  have hB6 : Below w.heap.size w w6 := by rw [← hw6]; exact x2
  clear hw6 x1 x2 x3 H5 HB5
  generalize w5.heap.size = g2 at *
  have hts : tx.size = 64 := by have := Hts.out; omega
  have a3 : (⟨#[69, 51]⟩ : ByteArray) ++ tx.extract 2 64 = strB (bads 3) := by
    rw [HTX.out, strB_extract, List.take_of_length_le (by rw [tE_length]; exact Nat.le_refl _)]; exact strB_append [69, 51] (tE.drop 2)
  have a4 : (⟨#[103, 51]⟩ : ByteArray) ++ tx.extract 2 64 = strB (bads 4) := by
    rw [HTX.out, strB_extract, List.take_of_length_le (by rw [tE_length]; exact Nat.le_refl _)]; exact strB_append [103, 51] (tE.drop 2)
  have a5 : tx.extract 0 63 ++ ⟨#[32]⟩ = strB (bads 5) := by
    rw [HTX.out, strB_extract, List.drop_zero]; exact strB_append (tE.take 63) [32]
  have a2 : tx ++ ⟨#[48]⟩ = strB (bads 2) := by rw [HTX.out]; exact strB_append tE [48]
  go_cut [4] (fun v wc => ∃ b4, v = .slice (some ⟨b4, 0, none⟩) 6 6 ∧ Has wc b4 9 ((List.range 6).map fun k => .string (strB (bads k))) ∧ Two 24 g1 g2 ce ce wc ∧ Below w.heap.size w wc)
  case first =>
    have s0 := h2.drew
    have b0 := hB6.drew
    clear h2 hB6
    refine wp_region_ors (Two 24 g1 g2 ce ce) [(0, true), (3, true), (7, true), (11, true), (1, false), (2, true), (4, false), (5, true), (6, true), (8, false), (9, true), (10, true), (12, false), (13, true), (14, true), (15, false), (16, true)] (by kernel_rfl) (by kernel_rfl) (by kernel_rfl) s0 ?_
    simp only [pickOrs, List.getElem?_cons_zero, List.getElem?_cons_succ]
    generalize w6.drew = v0 at *
    refine ors_pure (by rfl) (load_yield 24 (.tmp 1) (by rfl) _ (by rfl) 24 ce (fun _ h => h.1) _ Tryd.underlying24 rfl KE.out) ?_
    try simp only [Act.put, List.setIfInBounds_toArray, List.set_cons_zero, List.set_cons_succ]
    refine ors_pure (by rfl) (load_yield 24 (.tmp 1) (by rfl) _ (by rfl) 24 ce (fun _ h => h.1) _ Tryd.underlying24 rfl KE.out) ?_
    try simp only [Act.put, List.setIfInBounds_toArray, List.set_cons_zero, List.set_cons_succ]
    refine ors_pure (by rfl) (load_yield 24 (.tmp 1) (by rfl) _ (by rfl) 24 ce (fun _ h => h.1) _ Tryd.underlying24 rfl KE.out) ?_
    try simp only [Act.put, List.setIfInBounds_toArray, List.set_cons_zero, List.set_cons_succ]
    refine ors_pure (by rfl) (load_yield 24 (.tmp 1) (by rfl) _ (by rfl) 24 ce (fun _ h => h.1) _ Tryd.underlying24 rfl KE.out) ?_
    try simp only [Act.put, List.setIfInBounds_toArray, List.set_cons_zero, List.set_cons_succ]
    refine ors_step (by rfl) (fun K hK => ?_)
    go_wp2_with fail
    with_reducible refine (T1.out _).mono ?_
    rintro e v1 ⟨rfl, hb⟩
    have s1 := s0.keep hb
    have b1 := b0.trans (hb.mono b0.size)
    clear hb b0
    go_wp2_with fail
    refine ⟨s1, ?_⟩
    clear s0
    try simp only [Act.put, List.setIfInBounds_toArray, List.set_cons_zero, List.set_cons_succ]
    refine ors_pure (v := ?_) (by rfl) ?_ ?_
    rotate_left
    · intro w' _; go_simp; try with_reducible rfl
    try simp only [Act.put, List.setIfInBounds_toArray, List.set_cons_zero, List.set_cons_succ]
    refine ors_step (by rfl) (fun K hK => ?_)
    go_wp2_with fail
    with_reducible refine (T1.out _).mono ?_
    rintro e v2 ⟨rfl, hb⟩
    have s2 := s1.keep hb
    have b2 := b1.trans (hb.mono b1.size)
    clear hb b1
    go_wp2_with fail
    refine ⟨s2, ?_⟩
    clear s1
    try simp only [Act.put, List.setIfInBounds_toArray, List.set_cons_zero, List.set_cons_succ]
    refine ors_pure (v := ?_) (by rfl) ?_ ?_
    rotate_left
    · intro w' _; go_simp; try with_reducible rfl
    try simp only [Act.put, List.setIfInBounds_toArray, List.set_cons_zero, List.set_cons_succ]
    refine ors_pure (v := ?_) (by rfl) ?_ ?_
    rotate_left
    · intro w' _; go_simp; try with_reducible rfl
    try simp only [Act.put, List.setIfInBounds_toArray, List.set_cons_zero, List.set_cons_succ]
    refine ors_step (by rfl) (fun K hK => ?_)
    go_wp2_with fail
    with_reducible refine (T1.out _).mono ?_
    rintro e v3 ⟨rfl, hb⟩
    have s3 := s2.keep hb
    have b3 := b2.trans (hb.mono b2.size)
    clear hb b2
    go_wp2_with fail
    refine ⟨s3, ?_⟩
    clear s2
    try simp only [Act.put, List.setIfInBounds_toArray, List.set_cons_zero, List.set_cons_succ]
    refine ors_pure (v := ?_) (by rfl) ?_ ?_
    rotate_left
    · intro w' _; go_simp; try with_reducible rfl
    try simp only [Act.put, List.setIfInBounds_toArray, List.set_cons_zero, List.set_cons_succ]
    refine ors_pure (v := ?_) (by rfl) ?_ ?_
    rotate_left
    · intro w' _; go_simp; try with_reducible rfl
    try simp only [Act.put, List.setIfInBounds_toArray, List.set_cons_zero, List.set_cons_succ]
    refine ors_step (by rfl) (fun K hK => ?_)
    go_wp2_with fail
    with_reducible refine (T1.out _).mono ?_
    rintro e v4 ⟨rfl, hb⟩
    have s4 := s3.keep hb
    have b4 := b3.trans (hb.mono b3.size)
    clear hb b3
    go_wp2_with fail
    refine ⟨s4, ?_⟩
    clear s3
    try simp only [Act.put, List.setIfInBounds_toArray, List.set_cons_zero, List.set_cons_succ]
    refine ors_pure (v := ?_) (by rfl) ?_ ?_
    rotate_left
    · intro w' _; go_simp; try with_reducible rfl
    try simp only [Act.put, List.setIfInBounds_toArray, List.set_cons_zero, List.set_cons_succ]
    refine ors_pure (v := ?_) (by rfl) ?_ ?_
    rotate_left
    · intro w' _; go_simp; try with_reducible rfl
    try simp only [Act.put, List.setIfInBounds_toArray, List.set_cons_zero, List.set_cons_succ]
    refine ors_step (by rfl) (fun K hK => ?_)
    go_wp2_with fail
    refine ⟨s4.alloc _, ?_⟩
    try simp only [Act.put, List.setIfInBounds_toArray, List.set_cons_zero, List.set_cons_succ]
    refine ors_pure (v := ?_) (by rfl) ?_ ?_
    rotate_left
    · intro w' _; go_simp; try with_reducible rfl
    try simp only [Act.put, List.setIfInBounds_toArray, List.set_cons_zero, List.set_cons_succ]
    refine ors_nil ?_
    go_wp2_with fail
    go_meet
    exact ⟨v4.heap.size, rfl, Has.made' v4 9 _ _ rfl, s4.alloc _, b4.alloc b4.size _⟩
  case rest =>
    obtain ⟨b4, rfl, hS, hT, hB⟩ := hcut
    clear a2 a3 a4 a5 hts h2 hB6 P1
    have Z0 := Lib.hid zero_zrw
    have ZS := Lib.hid zrw_size
    have ZL := Lib.hid zrw_len
    have ZO := Lib.hid zrw_one
    have BA := Lib.hid bad_any
    generalize zrw = zz at *
    go_wp2_with fail
    go_loopw [5] (fun i wr => ∃ k : Nat, k ≤ 6 ∧ i = .int .i64 k ∧ Has wr b4 9 ((List.range 6).map fun k => .string (strB (bads k))) ∧ Two 24 g1 g2 ce ce wr ∧ Below w.heap.size w wr) (fun i _ => 6 - (intOf i).toNat)
    case atStart => exact ⟨0, by omega, rfl, hS, hT, hB⟩
    case round =>
      clear hS hT hB
      rename_i wr
      obtain ⟨k, hk, rfl, hS, hT, hB⟩ := hrel
      by_cases hlt : k < 6
      · have hk6 : (k : Int) < 6 := by omega
        have hc := hS.cellv (i := k) (v := .string (strB (bads k))) (by rw [List.getElem?_map, List.getElem?_range hlt]; rfl)
        have hP := Lib.hid (BA.out k)
        generalize strB (bads k) = sk at *
        have HS0 := Lib.hid hS
        have HT0 := Lib.hid hT
        have HB0 := Lib.hid hB
        clear hS hT hB
        go_wp2_with (first
          | (go_at_call 11; with_reducible refine (hP.out _).mono ?_; rintro e v1 ⟨rfl, hb⟩; have HS1 := Lib.hid (HS0.out.keep hb HS0.out.lt); have HT1 := Lib.hid (HT0.out.keep hb); have HB1 := Lib.hid (HB0.out.trans (hb.mono HB0.out.size)); clear hb hc)
          | (refine wpList_store_row rfl 24 _ _ rfl v1.heap.size _ rfl rfl 24 _ (Has.made' v1 24 _ (brow 32 []) rfl) ZS.out ZL.out ZO.out ?_)
          | (refine wpList_load_on rfl 24 _ rfl v1.heap.size rfl 24 _ (0, 0) _ ((Has.made' v1 24 _ (brow 32 []) rfl).row zz) Tryd.underlying24 rfl ZS.out ?_)
          | (go_at_call 13; with_reducible refine (Z0.out _).mono ?_; rintro e v2 ⟨rfl, hb2⟩; have HB2 := Lib.hid (show Below _ ((v1.alloc (.cells (brow 32 []).toArray 24)).setRow v1.heap.size zz) v2 from hb2); clear hb2))
        have y1 := (HS1.out.alloc (.cells (brow 32 []).toArray 24)).offRow (g' := v1.heap.size) (Nat.ne_of_lt HS1.out.lt) zz
        have y2 := (HT1.out.alloc (.cells (brow 32 []).toArray 24)).row (g := v1.heap.size) (Nat.ne_of_lt HT1.out.1.lt) (Nat.ne_of_lt HT1.out.2.lt) zz
        have y3 := below_row (HB1.out.alloc HB1.out.size (.cells (brow 32 []).toArray 24)) HB1.out.size zz
        have z1 := Lib.hid (y1.keep HB2.out y1.lt)
        have z2 := Lib.hid (y2.keep HB2.out)
        have z3 := Lib.hid (y3.trans (HB2.out.mono y3.size))
        clear y1 y2 y3
        go_roundw
        case rel => exact ⟨k + 1, by omega, by go_num, z1.out, z2.out, z3.out⟩
        case measure => simp [intOf]; omega
      · have : k = 6 := by omega
        subst this
        clear hS BA Z0 ZS ZL ZO hlt hk
        go_upto_region 12 with (fail)
        go_cut [8] (fun v wc => ∃ b8, v = .pointer (some ⟨b8, 0, none⟩) ∧ Has wc b8 24 cl ∧ Two 24 g1 g2 ce ce wc ∧ Below w.heap.size w wc)
        case first =>
          have sT0 := hT.drew
          have sB0 := hB.drew
          have m55 := make55
          have m1 := make1
          clear hT hB
          refine held_start (Two 24 g1 g2 ce ce) (by kernel_rfl) sT0 ?_
          generalize wr.drew = v0 at *
          refine held_three 0 1 4 (by rfl) (by rfl) (by rfl) (by kernel_rfl) (by rfl) (by rfl) (by rfl) (fun K hK => ?_) (fun K hK => ?_) (fun K hK => ?_)
          · go_wp2_with fail
            refine ⟨sT0.alloc _, ?_⟩
            try simp only [Act.put, List.setIfInBounds_toArray, List.set_cons_zero, List.set_cons_succ]
            generalize hv : World.alloc v0 _ = v1
            have sT1 : Two 24 g1 g2 ce ce v1 := by rw [← hv]; exact sT0.alloc _
            have sB1 : Below w.heap.size w v1 := by rw [← hv]; exact sB0.alloc sB0.size _
            have hA1 : Has v1 (v0.heap.size) 5 (zer 55) := by rw [← hv]; exact Has.made' _ _ _ _ rfl
            clear hv sT0 sB0
            refine held_two 1 4 (by rfl) (by rfl) (by kernel_rfl) (by rfl) (by rfl) (fun K hK => ?_) (fun K hK => ?_)
            · go_wp2_with fail
              refine ⟨sT1.alloc _, ?_⟩
              try simp only [Act.put, List.setIfInBounds_toArray, List.set_cons_zero, List.set_cons_succ]
              generalize hv : World.alloc v1 _ = v2
              have sT2 : Two 24 g1 g2 ce ce v2 := by rw [← hv]; exact sT1.alloc _
              have sB2 : Below w.heap.size w v2 := by rw [← hv]; exact sB1.alloc sB1.size _
              have hA2 : Has v2 (v0.heap.size) 5 (zer 55) := by rw [← hv]; exact hA1.alloc _
              have hZ2 : Has v2 (v1.heap.size) 5 (zer 1) := by rw [← hv]; exact Has.made' _ _ _ _ rfl
              clear hv sT1 sB1 hA1
              refine held_two 2 4 (by rfl) (by rfl) (by kernel_rfl) (by rfl) (by rfl) (fun K hK => ?_) (fun K hK => ?_)
              · go_wp2_with fail
                refine ⟨sT2.alloc _, ?_⟩
                try simp only [Act.put, List.setIfInBounds_toArray, List.set_cons_zero, List.set_cons_succ]
                generalize hv : World.alloc v2 _ = v3
                have sT3 : Two 24 g1 g2 ce ce v3 := by rw [← hv]; exact sT2.alloc _
                have sB3 : Below w.heap.size w v3 := by rw [← hv]; exact sB2.alloc sB2.size _
                have hA3 : Has v3 (v0.heap.size) 5 (zer 55) := by rw [← hv]; exact hA2.alloc _
                have hZ3 : Has v3 (v1.heap.size) 5 (zer 1) := by rw [← hv]; exact hZ2.alloc _
                have hC3 : Has v3 (v2.heap.size) 30 [.slice (some ⟨v0.heap.size, 0, none⟩) 55 55, .slice (some ⟨v1.heap.size, 0, none⟩) 1 1] := by rw [← hv]; exact Has.made' _ _ _ _ rfl
                clear hv sT2 sB2 hA2 hZ2
                refine held_two 3 4 (by rfl) (by rfl) (by kernel_rfl) (by rfl) (by rfl) (fun K hK => ?_) (fun K hK => ?_)
                · go_wp2_with fail
                  refine (O2.out v3 _ _ _ hA3 hZ3 hC3 (HL.out _ sB3)).mono ?_
                  rintro e v4 ⟨rfl, hb⟩
                  have sT4 := sT3.keep hb
                  have sB4 := sB3.trans (hb.mono sB3.size)
                  have hA4 := hA3.keep hb hA3.lt
                  have hZ4 := hZ3.keep hb hZ3.lt
                  have hC4 := hC3.keep hb hC3.lt
                  clear hb sT3 sB3 hA3 hZ3 hC3
                  go_wp2_with fail
                  refine ⟨sT4, ?_⟩
                  try simp only [Act.put, List.setIfInBounds_toArray, List.set_cons_zero, List.set_cons_succ]
                  refine held_one 4 (by rfl) (by kernel_rfl) (by rfl) (fun K hK => ?_)
                  go_wp2_with fail
                  refine ⟨sT4.alloc _, ?_⟩
                  try simp only [Act.put, List.setIfInBounds_toArray, List.set_cons_zero, List.set_cons_succ]
                  generalize hv : World.alloc v4 _ = v5
                  have sT5 : Two 24 g1 g2 ce ce v5 := by rw [← hv]; exact sT4.alloc _
                  have sB5 : Below w.heap.size w v5 := by rw [← hv]; exact sB4.alloc sB4.size _
                  have hA5 : Has v5 (v0.heap.size) 5 (zer 55) := by rw [← hv]; exact hA4.alloc _
                  have hZ5 : Has v5 (v1.heap.size) 5 (zer 1) := by rw [← hv]; exact hZ4.alloc _
                  have hC5 : Has v5 (v2.heap.size) 30 [.slice (some ⟨v0.heap.size, 0, none⟩) 55 55, .slice (some ⟨v1.heap.size, 0, none⟩) 1 1] := by rw [← hv]; exact hC4.alloc _
                  have h85 : Has v5 (v4.heap.size) 24 (brow 32 []) := by rw [← hv]; exact Has.made' _ _ _ _ rfl
                  have l8a := sT4.1.lt
                  have l8b := sT4.2.lt
                  have ge8 := sB4.size
                  clear hv sT4 sB4 hA4 hZ4 hC4
                  refine held_one 5 (by rfl) (by kernel_rfl) (by rfl) (fun K hK => ?_)
                  refine wp_store_row 24 (.tmp 8) (.tmp 58) (by rfl) v4.heap.size cl.toArray (by rfl) (by rfl) 24 _ h85 KL.out LL.out OL.out ?_
                  refine hK _ _ ⟨sT5.row (Nat.ne_of_lt l8a) (Nat.ne_of_lt l8b) _, ?_⟩
                  have sT6 := sT5.row (Nat.ne_of_lt l8a) (Nat.ne_of_lt l8b) cl.toArray
                  have sB6 := below_row sB5 ge8 cl.toArray
                  have h86 := h85.rowl cl
                  simp only [Act.put]
                  refine held_done (by kernel_rfl) ?_
                  go_wp2_with fail
                  go_meet
                  exact ⟨v4.heap.size, rfl, h86, sT6, sB6⟩
                · go_wp2_with fail
                  refine ⟨sT3.alloc _, ?_⟩
                  try simp only [Act.put, List.setIfInBounds_toArray, List.set_cons_zero, List.set_cons_succ]
                  generalize hv : World.alloc v3 _ = v4
                  have sT4 : Two 24 g1 g2 ce ce v4 := by rw [← hv]; exact sT3.alloc _
                  have sB4 : Below w.heap.size w v4 := by rw [← hv]; exact sB3.alloc sB3.size _
                  have hA4 : Has v4 (v0.heap.size) 5 (zer 55) := by rw [← hv]; exact hA3.alloc _
                  have hZ4 : Has v4 (v1.heap.size) 5 (zer 1) := by rw [← hv]; exact hZ3.alloc _
                  have hC4 : Has v4 (v2.heap.size) 30 [.slice (some ⟨v0.heap.size, 0, none⟩) 55 55, .slice (some ⟨v1.heap.size, 0, none⟩) 1 1] := by rw [← hv]; exact hC3.alloc _
                  have h84 : Has v4 (v3.heap.size) 24 (brow 32 []) := by rw [← hv]; exact Has.made' _ _ _ _ rfl
                  have l8a := sT3.1.lt
                  have l8b := sT3.2.lt
                  have ge8 := sB3.size
                  clear hv sT3 sB3 hA3 hZ3 hC3
                  refine held_one 3 (by rfl) (by kernel_rfl) (by rfl) (fun K hK => ?_)
                  go_wp2_with fail
                  refine (O2.out v4 _ _ _ hA4 hZ4 hC4 (HL.out _ sB4)).mono ?_
                  rintro e v5 ⟨rfl, hb⟩
                  have sT5 := sT4.keep hb
                  have sB5 := sB4.trans (hb.mono sB4.size)
                  have hA5 := hA4.keep hb hA4.lt
                  have hZ5 := hZ4.keep hb hZ4.lt
                  have hC5 := hC4.keep hb hC4.lt
                  have h85 := h84.keep hb h84.lt
                  clear hb sT4 sB4 hA4 hZ4 hC4 h84
                  go_wp2_with fail
                  refine ⟨sT5, ?_⟩
                  try simp only [Act.put, List.setIfInBounds_toArray, List.set_cons_zero, List.set_cons_succ]
                  refine held_one 5 (by rfl) (by kernel_rfl) (by rfl) (fun K hK => ?_)
                  refine wp_store_row 24 (.tmp 8) (.tmp 58) (by rfl) v3.heap.size cl.toArray (by rfl) (by rfl) 24 _ h85 KL.out LL.out OL.out ?_
                  refine hK _ _ ⟨sT5.row (Nat.ne_of_lt l8a) (Nat.ne_of_lt l8b) _, ?_⟩
                  have sT6 := sT5.row (Nat.ne_of_lt l8a) (Nat.ne_of_lt l8b) cl.toArray
                  have sB6 := below_row sB5 ge8 cl.toArray
                  have h86 := h85.rowl cl
                  simp only [Act.put]
                  refine held_done (by kernel_rfl) ?_
                  go_wp2_with fail
                  go_meet
                  exact ⟨v3.heap.size, rfl, h86, sT6, sB6⟩
              · go_wp2_with fail
                refine ⟨sT2.alloc _, ?_⟩
                try simp only [Act.put, List.setIfInBounds_toArray, List.set_cons_zero, List.set_cons_succ]
                generalize hv : World.alloc v2 _ = v3
                have sT3 : Two 24 g1 g2 ce ce v3 := by rw [← hv]; exact sT2.alloc _
                have sB3 : Below w.heap.size w v3 := by rw [← hv]; exact sB2.alloc sB2.size _
                have hA3 : Has v3 (v0.heap.size) 5 (zer 55) := by rw [← hv]; exact hA2.alloc _
                have hZ3 : Has v3 (v1.heap.size) 5 (zer 1) := by rw [← hv]; exact hZ2.alloc _
                have h83 : Has v3 (v2.heap.size) 24 (brow 32 []) := by rw [← hv]; exact Has.made' _ _ _ _ rfl
                have l8a := sT2.1.lt
                have l8b := sT2.2.lt
                have ge8 := sB2.size
                clear hv sT2 sB2 hA2 hZ2
                refine held_one 2 (by rfl) (by kernel_rfl) (by rfl) (fun K hK => ?_)
                go_wp2_with fail
                refine ⟨sT3.alloc _, ?_⟩
                try simp only [Act.put, List.setIfInBounds_toArray, List.set_cons_zero, List.set_cons_succ]
                generalize hv : World.alloc v3 _ = v4
                have sT4 : Two 24 g1 g2 ce ce v4 := by rw [← hv]; exact sT3.alloc _
                have sB4 : Below w.heap.size w v4 := by rw [← hv]; exact sB3.alloc sB3.size _
                have hA4 : Has v4 (v0.heap.size) 5 (zer 55) := by rw [← hv]; exact hA3.alloc _
                have hZ4 : Has v4 (v1.heap.size) 5 (zer 1) := by rw [← hv]; exact hZ3.alloc _
                have hC4 : Has v4 (v3.heap.size) 30 [.slice (some ⟨v0.heap.size, 0, none⟩) 55 55, .slice (some ⟨v1.heap.size, 0, none⟩) 1 1] := by rw [← hv]; exact Has.made' _ _ _ _ rfl
                have h84 : Has v4 (v2.heap.size) 24 (brow 32 []) := by rw [← hv]; exact h83.alloc _
                clear hv sT3 sB3 hA3 hZ3 h83
                refine held_one 3 (by rfl) (by kernel_rfl) (by rfl) (fun K hK => ?_)
                go_wp2_with fail
                refine (O2.out v4 _ _ _ hA4 hZ4 hC4 (HL.out _ sB4)).mono ?_
                rintro e v5 ⟨rfl, hb⟩
                have sT5 := sT4.keep hb
                have sB5 := sB4.trans (hb.mono sB4.size)
                have hA5 := hA4.keep hb hA4.lt
                have hZ5 := hZ4.keep hb hZ4.lt
                have hC5 := hC4.keep hb hC4.lt
                have h85 := h84.keep hb h84.lt
                clear hb sT4 sB4 hA4 hZ4 hC4 h84
                go_wp2_with fail
                refine ⟨sT5, ?_⟩
                try simp only [Act.put, List.setIfInBounds_toArray, List.set_cons_zero, List.set_cons_succ]
                refine held_one 5 (by rfl) (by kernel_rfl) (by rfl) (fun K hK => ?_)
                refine wp_store_row 24 (.tmp 8) (.tmp 58) (by rfl) v2.heap.size cl.toArray (by rfl) (by rfl) 24 _ h85 KL.out LL.out OL.out ?_
                refine hK _ _ ⟨sT5.row (Nat.ne_of_lt l8a) (Nat.ne_of_lt l8b) _, ?_⟩
                have sT6 := sT5.row (Nat.ne_of_lt l8a) (Nat.ne_of_lt l8b) cl.toArray
                have sB6 := below_row sB5 ge8 cl.toArray
                have h86 := h85.rowl cl
                simp only [Act.put]
                refine held_done (by kernel_rfl) ?_
                go_wp2_with fail
                go_meet
                exact ⟨v2.heap.size, rfl, h86, sT6, sB6⟩
            · go_wp2_with fail
              refine ⟨sT1.alloc _, ?_⟩
              try simp only [Act.put, List.setIfInBounds_toArray, List.set_cons_zero, List.set_cons_succ]
              generalize hv : World.alloc v1 _ = v2
              have sT2 : Two 24 g1 g2 ce ce v2 := by rw [← hv]; exact sT1.alloc _
              have sB2 : Below w.heap.size w v2 := by rw [← hv]; exact sB1.alloc sB1.size _
              have hA2 : Has v2 (v0.heap.size) 5 (zer 55) := by rw [← hv]; exact hA1.alloc _
              have h82 : Has v2 (v1.heap.size) 24 (brow 32 []) := by rw [← hv]; exact Has.made' _ _ _ _ rfl
              have l8a := sT1.1.lt
              have l8b := sT1.2.lt
              have ge8 := sB1.size
              clear hv sT1 sB1 hA1
              refine held_one 1 (by rfl) (by kernel_rfl) (by rfl) (fun K hK => ?_)
              go_wp2_with fail
              refine ⟨sT2.alloc _, ?_⟩
              try simp only [Act.put, List.setIfInBounds_toArray, List.set_cons_zero, List.set_cons_succ]
              generalize hv : World.alloc v2 _ = v3
              have sT3 : Two 24 g1 g2 ce ce v3 := by rw [← hv]; exact sT2.alloc _
              have sB3 : Below w.heap.size w v3 := by rw [← hv]; exact sB2.alloc sB2.size _
              have hA3 : Has v3 (v0.heap.size) 5 (zer 55) := by rw [← hv]; exact hA2.alloc _
              have hZ3 : Has v3 (v2.heap.size) 5 (zer 1) := by rw [← hv]; exact Has.made' _ _ _ _ rfl
              have h83 : Has v3 (v1.heap.size) 24 (brow 32 []) := by rw [← hv]; exact h82.alloc _
              clear hv sT2 sB2 hA2 h82
              refine held_one 2 (by rfl) (by kernel_rfl) (by rfl) (fun K hK => ?_)
              go_wp2_with fail
              refine ⟨sT3.alloc _, ?_⟩
              try simp only [Act.put, List.setIfInBounds_toArray, List.set_cons_zero, List.set_cons_succ]
              generalize hv : World.alloc v3 _ = v4
              have sT4 : Two 24 g1 g2 ce ce v4 := by rw [← hv]; exact sT3.alloc _
              have sB4 : Below w.heap.size w v4 := by rw [← hv]; exact sB3.alloc sB3.size _
              have hA4 : Has v4 (v0.heap.size) 5 (zer 55) := by rw [← hv]; exact hA3.alloc _
              have hZ4 : Has v4 (v2.heap.size) 5 (zer 1) := by rw [← hv]; exact hZ3.alloc _
              have hC4 : Has v4 (v3.heap.size) 30 [.slice (some ⟨v0.heap.size, 0, none⟩) 55 55, .slice (some ⟨v2.heap.size, 0, none⟩) 1 1] := by rw [← hv]; exact Has.made' _ _ _ _ rfl
              have h84 : Has v4 (v1.heap.size) 24 (brow 32 []) := by rw [← hv]; exact h83.alloc _
              clear hv sT3 sB3 hA3 hZ3 h83
              refine held_one 3 (by rfl) (by kernel_rfl) (by rfl) (fun K hK => ?_)
              go_wp2_with fail
              refine (O2.out v4 _ _ _ hA4 hZ4 hC4 (HL.out _ sB4)).mono ?_
              rintro e v5 ⟨rfl, hb⟩
              have sT5 := sT4.keep hb
              have sB5 := sB4.trans (hb.mono sB4.size)
              have hA5 := hA4.keep hb hA4.lt
              have hZ5 := hZ4.keep hb hZ4.lt
              have hC5 := hC4.keep hb hC4.lt
              have h85 := h84.keep hb h84.lt
              clear hb sT4 sB4 hA4 hZ4 hC4 h84
              go_wp2_with fail
              refine ⟨sT5, ?_⟩
              try simp only [Act.put, List.setIfInBounds_toArray, List.set_cons_zero, List.set_cons_succ]
              refine held_one 5 (by rfl) (by kernel_rfl) (by rfl) (fun K hK => ?_)
              refine wp_store_row 24 (.tmp 8) (.tmp 58) (by rfl) v1.heap.size cl.toArray (by rfl) (by rfl) 24 _ h85 KL.out LL.out OL.out ?_
              refine hK _ _ ⟨sT5.row (Nat.ne_of_lt l8a) (Nat.ne_of_lt l8b) _, ?_⟩
              have sT6 := sT5.row (Nat.ne_of_lt l8a) (Nat.ne_of_lt l8b) cl.toArray
              have sB6 := below_row sB5 ge8 cl.toArray
              have h86 := h85.rowl cl
              simp only [Act.put]
              refine held_done (by kernel_rfl) ?_
              go_wp2_with fail
              go_meet
              exact ⟨v1.heap.size, rfl, h86, sT6, sB6⟩
          · go_wp2_with fail
            refine ⟨sT0.alloc _, ?_⟩
            try simp only [Act.put, List.setIfInBounds_toArray, List.set_cons_zero, List.set_cons_succ]
            generalize hv : World.alloc v0 _ = v1
            have sT1 : Two 24 g1 g2 ce ce v1 := by rw [← hv]; exact sT0.alloc _
            have sB1 : Below w.heap.size w v1 := by rw [← hv]; exact sB0.alloc sB0.size _
            have hZ1 : Has v1 (v0.heap.size) 5 (zer 1) := by rw [← hv]; exact Has.made' _ _ _ _ rfl
            clear hv sT0 sB0
            refine held_two 0 4 (by rfl) (by rfl) (by kernel_rfl) (by rfl) (by rfl) (fun K hK => ?_) (fun K hK => ?_)
            · go_wp2_with fail
              refine ⟨sT1.alloc _, ?_⟩
              try simp only [Act.put, List.setIfInBounds_toArray, List.set_cons_zero, List.set_cons_succ]
              generalize hv : World.alloc v1 _ = v2
              have sT2 : Two 24 g1 g2 ce ce v2 := by rw [← hv]; exact sT1.alloc _
              have sB2 : Below w.heap.size w v2 := by rw [← hv]; exact sB1.alloc sB1.size _
              have hA2 : Has v2 (v1.heap.size) 5 (zer 55) := by rw [← hv]; exact Has.made' _ _ _ _ rfl
              have hZ2 : Has v2 (v0.heap.size) 5 (zer 1) := by rw [← hv]; exact hZ1.alloc _
              clear hv sT1 sB1 hZ1
              refine held_two 2 4 (by rfl) (by rfl) (by kernel_rfl) (by rfl) (by rfl) (fun K hK => ?_) (fun K hK => ?_)
              · go_wp2_with fail
                refine ⟨sT2.alloc _, ?_⟩
                try simp only [Act.put, List.setIfInBounds_toArray, List.set_cons_zero, List.set_cons_succ]
                generalize hv : World.alloc v2 _ = v3
                have sT3 : Two 24 g1 g2 ce ce v3 := by rw [← hv]; exact sT2.alloc _
                have sB3 : Below w.heap.size w v3 := by rw [← hv]; exact sB2.alloc sB2.size _
                have hA3 : Has v3 (v1.heap.size) 5 (zer 55) := by rw [← hv]; exact hA2.alloc _
                have hZ3 : Has v3 (v0.heap.size) 5 (zer 1) := by rw [← hv]; exact hZ2.alloc _
                have hC3 : Has v3 (v2.heap.size) 30 [.slice (some ⟨v1.heap.size, 0, none⟩) 55 55, .slice (some ⟨v0.heap.size, 0, none⟩) 1 1] := by rw [← hv]; exact Has.made' _ _ _ _ rfl
                clear hv sT2 sB2 hA2 hZ2
                refine held_two 3 4 (by rfl) (by rfl) (by kernel_rfl) (by rfl) (by rfl) (fun K hK => ?_) (fun K hK => ?_)
                · go_wp2_with fail
                  refine (O2.out v3 _ _ _ hA3 hZ3 hC3 (HL.out _ sB3)).mono ?_
                  rintro e v4 ⟨rfl, hb⟩
                  have sT4 := sT3.keep hb
                  have sB4 := sB3.trans (hb.mono sB3.size)
                  have hA4 := hA3.keep hb hA3.lt
                  have hZ4 := hZ3.keep hb hZ3.lt
                  have hC4 := hC3.keep hb hC3.lt
                  clear hb sT3 sB3 hA3 hZ3 hC3
                  go_wp2_with fail
                  refine ⟨sT4, ?_⟩
                  try simp only [Act.put, List.setIfInBounds_toArray, List.set_cons_zero, List.set_cons_succ]
                  refine held_one 4 (by rfl) (by kernel_rfl) (by rfl) (fun K hK => ?_)
                  go_wp2_with fail
                  refine ⟨sT4.alloc _, ?_⟩
                  try simp only [Act.put, List.setIfInBounds_toArray, List.set_cons_zero, List.set_cons_succ]
                  generalize hv : World.alloc v4 _ = v5
                  have sT5 : Two 24 g1 g2 ce ce v5 := by rw [← hv]; exact sT4.alloc _
                  have sB5 : Below w.heap.size w v5 := by rw [← hv]; exact sB4.alloc sB4.size _
                  have hA5 : Has v5 (v1.heap.size) 5 (zer 55) := by rw [← hv]; exact hA4.alloc _
                  have hZ5 : Has v5 (v0.heap.size) 5 (zer 1) := by rw [← hv]; exact hZ4.alloc _
                  have hC5 : Has v5 (v2.heap.size) 30 [.slice (some ⟨v1.heap.size, 0, none⟩) 55 55, .slice (some ⟨v0.heap.size, 0, none⟩) 1 1] := by rw [← hv]; exact hC4.alloc _
                  have h85 : Has v5 (v4.heap.size) 24 (brow 32 []) := by rw [← hv]; exact Has.made' _ _ _ _ rfl
                  have l8a := sT4.1.lt
                  have l8b := sT4.2.lt
                  have ge8 := sB4.size
                  clear hv sT4 sB4 hA4 hZ4 hC4
                  refine held_one 5 (by rfl) (by kernel_rfl) (by rfl) (fun K hK => ?_)
                  refine wp_store_row 24 (.tmp 8) (.tmp 58) (by rfl) v4.heap.size cl.toArray (by rfl) (by rfl) 24 _ h85 KL.out LL.out OL.out ?_
                  refine hK _ _ ⟨sT5.row (Nat.ne_of_lt l8a) (Nat.ne_of_lt l8b) _, ?_⟩
                  have sT6 := sT5.row (Nat.ne_of_lt l8a) (Nat.ne_of_lt l8b) cl.toArray
                  have sB6 := below_row sB5 ge8 cl.toArray
                  have h86 := h85.rowl cl
                  simp only [Act.put]
                  refine held_done (by kernel_rfl) ?_
                  go_wp2_with fail
                  go_meet
                  exact ⟨v4.heap.size, rfl, h86, sT6, sB6⟩
                · go_wp2_with fail
                  refine ⟨sT3.alloc _, ?_⟩
                  try simp only [Act.put, List.setIfInBounds_toArray, List.set_cons_zero, List.set_cons_succ]
                  generalize hv : World.alloc v3 _ = v4
                  have sT4 : Two 24 g1 g2 ce ce v4 := by rw [← hv]; exact sT3.alloc _
                  have sB4 : Below w.heap.size w v4 := by rw [← hv]; exact sB3.alloc sB3.size _
                  have hA4 : Has v4 (v1.heap.size) 5 (zer 55) := by rw [← hv]; exact hA3.alloc _
                  have hZ4 : Has v4 (v0.heap.size) 5 (zer 1) := by rw [← hv]; exact hZ3.alloc _
                  have hC4 : Has v4 (v2.heap.size) 30 [.slice (some ⟨v1.heap.size, 0, none⟩) 55 55, .slice (some ⟨v0.heap.size, 0, none⟩) 1 1] := by rw [← hv]; exact hC3.alloc _
                  have h84 : Has v4 (v3.heap.size) 24 (brow 32 []) := by rw [← hv]; exact Has.made' _ _ _ _ rfl
                  have l8a := sT3.1.lt
                  have l8b := sT3.2.lt
                  have ge8 := sB3.size
                  clear hv sT3 sB3 hA3 hZ3 hC3
                  refine held_one 3 (by rfl) (by kernel_rfl) (by rfl) (fun K hK => ?_)
                  go_wp2_with fail
                  refine (O2.out v4 _ _ _ hA4 hZ4 hC4 (HL.out _ sB4)).mono ?_
                  rintro e v5 ⟨rfl, hb⟩
                  have sT5 := sT4.keep hb
                  have sB5 := sB4.trans (hb.mono sB4.size)
                  have hA5 := hA4.keep hb hA4.lt
                  have hZ5 := hZ4.keep hb hZ4.lt
                  have hC5 := hC4.keep hb hC4.lt
                  have h85 := h84.keep hb h84.lt
                  clear hb sT4 sB4 hA4 hZ4 hC4 h84
                  go_wp2_with fail
                  refine ⟨sT5, ?_⟩
                  try simp only [Act.put, List.setIfInBounds_toArray, List.set_cons_zero, List.set_cons_succ]
                  refine held_one 5 (by rfl) (by kernel_rfl) (by rfl) (fun K hK => ?_)
                  refine wp_store_row 24 (.tmp 8) (.tmp 58) (by rfl) v3.heap.size cl.toArray (by rfl) (by rfl) 24 _ h85 KL.out LL.out OL.out ?_
                  refine hK _ _ ⟨sT5.row (Nat.ne_of_lt l8a) (Nat.ne_of_lt l8b) _, ?_⟩
                  have sT6 := sT5.row (Nat.ne_of_lt l8a) (Nat.ne_of_lt l8b) cl.toArray
                  have sB6 := below_row sB5 ge8 cl.toArray
                  have h86 := h85.rowl cl
                  simp only [Act.put]
                  refine held_done (by kernel_rfl) ?_
                  go_wp2_with fail
                  go_meet
                  exact ⟨v3.heap.size, rfl, h86, sT6, sB6⟩
              · go_wp2_with fail
                refine ⟨sT2.alloc _, ?_⟩
                try simp only [Act.put, List.setIfInBounds_toArray, List.set_cons_zero, List.set_cons_succ]
                generalize hv : World.alloc v2 _ = v3
                have sT3 : Two 24 g1 g2 ce ce v3 := by rw [← hv]; exact sT2.alloc _
                have sB3 : Below w.heap.size w v3 := by rw [← hv]; exact sB2.alloc sB2.size _
                have hA3 : Has v3 (v1.heap.size) 5 (zer 55) := by rw [← hv]; exact hA2.alloc _
                have hZ3 : Has v3 (v0.heap.size) 5 (zer 1) := by rw [← hv]; exact hZ2.alloc _
                have h83 : Has v3 (v2.heap.size) 24 (brow 32 []) := by rw [← hv]; exact Has.made' _ _ _ _ rfl
                have l8a := sT2.1.lt
                have l8b := sT2.2.lt
                have ge8 := sB2.size
                clear hv sT2 sB2 hA2 hZ2
                refine held_one 2 (by rfl) (by kernel_rfl) (by rfl) (fun K hK => ?_)
                go_wp2_with fail
                refine ⟨sT3.alloc _, ?_⟩
                try simp only [Act.put, List.setIfInBounds_toArray, List.set_cons_zero, List.set_cons_succ]
                generalize hv : World.alloc v3 _ = v4
                have sT4 : Two 24 g1 g2 ce ce v4 := by rw [← hv]; exact sT3.alloc _
                have sB4 : Below w.heap.size w v4 := by rw [← hv]; exact sB3.alloc sB3.size _
                have hA4 : Has v4 (v1.heap.size) 5 (zer 55) := by rw [← hv]; exact hA3.alloc _
                have hZ4 : Has v4 (v0.heap.size) 5 (zer 1) := by rw [← hv]; exact hZ3.alloc _
                have hC4 : Has v4 (v3.heap.size) 30 [.slice (some ⟨v1.heap.size, 0, none⟩) 55 55, .slice (some ⟨v0.heap.size, 0, none⟩) 1 1] := by rw [← hv]; exact Has.made' _ _ _ _ rfl
                have h84 : Has v4 (v2.heap.size) 24 (brow 32 []) := by rw [← hv]; exact h83.alloc _
                clear hv sT3 sB3 hA3 hZ3 h83
                refine held_one 3 (by rfl) (by kernel_rfl) (by rfl) (fun K hK => ?_)
                go_wp2_with fail
                refine (O2.out v4 _ _ _ hA4 hZ4 hC4 (HL.out _ sB4)).mono ?_
                rintro e v5 ⟨rfl, hb⟩
                have sT5 := sT4.keep hb
                have sB5 := sB4.trans (hb.mono sB4.size)
                have hA5 := hA4.keep hb hA4.lt
                have hZ5 := hZ4.keep hb hZ4.lt
                have hC5 := hC4.keep hb hC4.lt
                have h85 := h84.keep hb h84.lt
                clear hb sT4 sB4 hA4 hZ4 hC4 h84
                go_wp2_with fail
                refine ⟨sT5, ?_⟩
                try simp only [Act.put, List.setIfInBounds_toArray, List.set_cons_zero, List.set_cons_succ]
                refine held_one 5 (by rfl) (by kernel_rfl) (by rfl) (fun K hK => ?_)
                refine wp_store_row 24 (.tmp 8) (.tmp 58) (by rfl) v2.heap.size cl.toArray (by rfl) (by rfl) 24 _ h85 KL.out LL.out OL.out ?_
                refine hK _ _ ⟨sT5.row (Nat.ne_of_lt l8a) (Nat.ne_of_lt l8b) _, ?_⟩
                have sT6 := sT5.row (Nat.ne_of_lt l8a) (Nat.ne_of_lt l8b) cl.toArray
                have sB6 := below_row sB5 ge8 cl.toArray
                have h86 := h85.rowl cl
                simp only [Act.put]
                refine held_done (by kernel_rfl) ?_
                go_wp2_with fail
                go_meet
                exact ⟨v2.heap.size, rfl, h86, sT6, sB6⟩
            · go_wp2_with fail
              refine ⟨sT1.alloc _, ?_⟩
              try simp only [Act.put, List.setIfInBounds_toArray, List.set_cons_zero, List.set_cons_succ]
              generalize hv : World.alloc v1 _ = v2
              have sT2 : Two 24 g1 g2 ce ce v2 := by rw [← hv]; exact sT1.alloc _
              have sB2 : Below w.heap.size w v2 := by rw [← hv]; exact sB1.alloc sB1.size _
              have hZ2 : Has v2 (v0.heap.size) 5 (zer 1) := by rw [← hv]; exact hZ1.alloc _
              have h82 : Has v2 (v1.heap.size) 24 (brow 32 []) := by rw [← hv]; exact Has.made' _ _ _ _ rfl
              have l8a := sT1.1.lt
              have l8b := sT1.2.lt
              have ge8 := sB1.size
              clear hv sT1 sB1 hZ1
              refine held_one 0 (by rfl) (by kernel_rfl) (by rfl) (fun K hK => ?_)
              go_wp2_with fail
              refine ⟨sT2.alloc _, ?_⟩
              try simp only [Act.put, List.setIfInBounds_toArray, List.set_cons_zero, List.set_cons_succ]
              generalize hv : World.alloc v2 _ = v3
              have sT3 : Two 24 g1 g2 ce ce v3 := by rw [← hv]; exact sT2.alloc _
              have sB3 : Below w.heap.size w v3 := by rw [← hv]; exact sB2.alloc sB2.size _
              have hA3 : Has v3 (v2.heap.size) 5 (zer 55) := by rw [← hv]; exact Has.made' _ _ _ _ rfl
              have hZ3 : Has v3 (v0.heap.size) 5 (zer 1) := by rw [← hv]; exact hZ2.alloc _
              have h83 : Has v3 (v1.heap.size) 24 (brow 32 []) := by rw [← hv]; exact h82.alloc _
              clear hv sT2 sB2 hZ2 h82
              refine held_one 2 (by rfl) (by kernel_rfl) (by rfl) (fun K hK => ?_)
              go_wp2_with fail
              refine ⟨sT3.alloc _, ?_⟩
              try simp only [Act.put, List.setIfInBounds_toArray, List.set_cons_zero, List.set_cons_succ]
              generalize hv : World.alloc v3 _ = v4
              have sT4 : Two 24 g1 g2 ce ce v4 := by rw [← hv]; exact sT3.alloc _
              have sB4 : Below w.heap.size w v4 := by rw [← hv]; exact sB3.alloc sB3.size _
              have hA4 : Has v4 (v2.heap.size) 5 (zer 55) := by rw [← hv]; exact hA3.alloc _
              have hZ4 : Has v4 (v0.heap.size) 5 (zer 1) := by rw [← hv]; exact hZ3.alloc _
              have hC4 : Has v4 (v3.heap.size) 30 [.slice (some ⟨v2.heap.size, 0, none⟩) 55 55, .slice (some ⟨v0.heap.size, 0, none⟩) 1 1] := by rw [← hv]; exact Has.made' _ _ _ _ rfl
              have h84 : Has v4 (v1.heap.size) 24 (brow 32 []) := by rw [← hv]; exact h83.alloc _
              clear hv sT3 sB3 hA3 hZ3 h83
              refine held_one 3 (by rfl) (by kernel_rfl) (by rfl) (fun K hK => ?_)
              go_wp2_with fail
              refine (O2.out v4 _ _ _ hA4 hZ4 hC4 (HL.out _ sB4)).mono ?_
              rintro e v5 ⟨rfl, hb⟩
              have sT5 := sT4.keep hb
              have sB5 := sB4.trans (hb.mono sB4.size)
              have hA5 := hA4.keep hb hA4.lt
              have hZ5 := hZ4.keep hb hZ4.lt
              have hC5 := hC4.keep hb hC4.lt
              have h85 := h84.keep hb h84.lt
              clear hb sT4 sB4 hA4 hZ4 hC4 h84
              go_wp2_with fail
              refine ⟨sT5, ?_⟩
              try simp only [Act.put, List.setIfInBounds_toArray, List.set_cons_zero, List.set_cons_succ]
              refine held_one 5 (by rfl) (by kernel_rfl) (by rfl) (fun K hK => ?_)
              refine wp_store_row 24 (.tmp 8) (.tmp 58) (by rfl) v1.heap.size cl.toArray (by rfl) (by rfl) 24 _ h85 KL.out LL.out OL.out ?_
              refine hK _ _ ⟨sT5.row (Nat.ne_of_lt l8a) (Nat.ne_of_lt l8b) _, ?_⟩
              have sT6 := sT5.row (Nat.ne_of_lt l8a) (Nat.ne_of_lt l8b) cl.toArray
              have sB6 := below_row sB5 ge8 cl.toArray
              have h86 := h85.rowl cl
              simp only [Act.put]
              refine held_done (by kernel_rfl) ?_
              go_wp2_with fail
              go_meet
              exact ⟨v1.heap.size, rfl, h86, sT6, sB6⟩
          · go_wp2_with fail
            refine ⟨sT0.alloc _, ?_⟩
            try simp only [Act.put, List.setIfInBounds_toArray, List.set_cons_zero, List.set_cons_succ]
            generalize hv : World.alloc v0 _ = v1
            have sT1 : Two 24 g1 g2 ce ce v1 := by rw [← hv]; exact sT0.alloc _
            have sB1 : Below w.heap.size w v1 := by rw [← hv]; exact sB0.alloc sB0.size _
            have h81 : Has v1 (v0.heap.size) 24 (brow 32 []) := by rw [← hv]; exact Has.made' _ _ _ _ rfl
            have l8a := sT0.1.lt
            have l8b := sT0.2.lt
            have ge8 := sB0.size
            clear hv sT0 sB0
            refine held_two 0 1 (by rfl) (by rfl) (by kernel_rfl) (by rfl) (by rfl) (fun K hK => ?_) (fun K hK => ?_)
            · go_wp2_with fail
              refine ⟨sT1.alloc _, ?_⟩
              try simp only [Act.put, List.setIfInBounds_toArray, List.set_cons_zero, List.set_cons_succ]
              generalize hv : World.alloc v1 _ = v2
              have sT2 : Two 24 g1 g2 ce ce v2 := by rw [← hv]; exact sT1.alloc _
              have sB2 : Below w.heap.size w v2 := by rw [← hv]; exact sB1.alloc sB1.size _
              have hA2 : Has v2 (v1.heap.size) 5 (zer 55) := by rw [← hv]; exact Has.made' _ _ _ _ rfl
              have h82 : Has v2 (v0.heap.size) 24 (brow 32 []) := by rw [← hv]; exact h81.alloc _
              clear hv sT1 sB1 h81
              refine held_one 1 (by rfl) (by kernel_rfl) (by rfl) (fun K hK => ?_)
              go_wp2_with fail
              refine ⟨sT2.alloc _, ?_⟩
              try simp only [Act.put, List.setIfInBounds_toArray, List.set_cons_zero, List.set_cons_succ]
              generalize hv : World.alloc v2 _ = v3
              have sT3 : Two 24 g1 g2 ce ce v3 := by rw [← hv]; exact sT2.alloc _
              have sB3 : Below w.heap.size w v3 := by rw [← hv]; exact sB2.alloc sB2.size _
              have hA3 : Has v3 (v1.heap.size) 5 (zer 55) := by rw [← hv]; exact hA2.alloc _
              have hZ3 : Has v3 (v2.heap.size) 5 (zer 1) := by rw [← hv]; exact Has.made' _ _ _ _ rfl
              have h83 : Has v3 (v0.heap.size) 24 (brow 32 []) := by rw [← hv]; exact h82.alloc _
              clear hv sT2 sB2 hA2 h82
              refine held_one 2 (by rfl) (by kernel_rfl) (by rfl) (fun K hK => ?_)
              go_wp2_with fail
              refine ⟨sT3.alloc _, ?_⟩
              try simp only [Act.put, List.setIfInBounds_toArray, List.set_cons_zero, List.set_cons_succ]
              generalize hv : World.alloc v3 _ = v4
              have sT4 : Two 24 g1 g2 ce ce v4 := by rw [← hv]; exact sT3.alloc _
              have sB4 : Below w.heap.size w v4 := by rw [← hv]; exact sB3.alloc sB3.size _
              have hA4 : Has v4 (v1.heap.size) 5 (zer 55) := by rw [← hv]; exact hA3.alloc _
              have hZ4 : Has v4 (v2.heap.size) 5 (zer 1) := by rw [← hv]; exact hZ3.alloc _
              have hC4 : Has v4 (v3.heap.size) 30 [.slice (some ⟨v1.heap.size, 0, none⟩) 55 55, .slice (some ⟨v2.heap.size, 0, none⟩) 1 1] := by rw [← hv]; exact Has.made' _ _ _ _ rfl
              have h84 : Has v4 (v0.heap.size) 24 (brow 32 []) := by rw [← hv]; exact h83.alloc _
              clear hv sT3 sB3 hA3 hZ3 h83
              refine held_one 3 (by rfl) (by kernel_rfl) (by rfl) (fun K hK => ?_)
              go_wp2_with fail
              refine (O2.out v4 _ _ _ hA4 hZ4 hC4 (HL.out _ sB4)).mono ?_
              rintro e v5 ⟨rfl, hb⟩
              have sT5 := sT4.keep hb
              have sB5 := sB4.trans (hb.mono sB4.size)
              have hA5 := hA4.keep hb hA4.lt
              have hZ5 := hZ4.keep hb hZ4.lt
              have hC5 := hC4.keep hb hC4.lt
              have h85 := h84.keep hb h84.lt
              clear hb sT4 sB4 hA4 hZ4 hC4 h84
              go_wp2_with fail
              refine ⟨sT5, ?_⟩
              try simp only [Act.put, List.setIfInBounds_toArray, List.set_cons_zero, List.set_cons_succ]
              refine held_one 5 (by rfl) (by kernel_rfl) (by rfl) (fun K hK => ?_)
              refine wp_store_row 24 (.tmp 8) (.tmp 58) (by rfl) v0.heap.size cl.toArray (by rfl) (by rfl) 24 _ h85 KL.out LL.out OL.out ?_
              refine hK _ _ ⟨sT5.row (Nat.ne_of_lt l8a) (Nat.ne_of_lt l8b) _, ?_⟩
              have sT6 := sT5.row (Nat.ne_of_lt l8a) (Nat.ne_of_lt l8b) cl.toArray
              have sB6 := below_row sB5 ge8 cl.toArray
              have h86 := h85.rowl cl
              simp only [Act.put]
              refine held_done (by kernel_rfl) ?_
              go_wp2_with fail
              go_meet
              exact ⟨v0.heap.size, rfl, h86, sT6, sB6⟩
            · go_wp2_with fail
              refine ⟨sT1.alloc _, ?_⟩
              try simp only [Act.put, List.setIfInBounds_toArray, List.set_cons_zero, List.set_cons_succ]
              generalize hv : World.alloc v1 _ = v2
              have sT2 : Two 24 g1 g2 ce ce v2 := by rw [← hv]; exact sT1.alloc _
              have sB2 : Below w.heap.size w v2 := by rw [← hv]; exact sB1.alloc sB1.size _
              have hZ2 : Has v2 (v1.heap.size) 5 (zer 1) := by rw [← hv]; exact Has.made' _ _ _ _ rfl
              have h82 : Has v2 (v0.heap.size) 24 (brow 32 []) := by rw [← hv]; exact h81.alloc _
              clear hv sT1 sB1 h81
              refine held_one 0 (by rfl) (by kernel_rfl) (by rfl) (fun K hK => ?_)
              go_wp2_with fail
              refine ⟨sT2.alloc _, ?_⟩
              try simp only [Act.put, List.setIfInBounds_toArray, List.set_cons_zero, List.set_cons_succ]
              generalize hv : World.alloc v2 _ = v3
              have sT3 : Two 24 g1 g2 ce ce v3 := by rw [← hv]; exact sT2.alloc _
              have sB3 : Below w.heap.size w v3 := by rw [← hv]; exact sB2.alloc sB2.size _
              have hA3 : Has v3 (v2.heap.size) 5 (zer 55) := by rw [← hv]; exact Has.made' _ _ _ _ rfl
              have hZ3 : Has v3 (v1.heap.size) 5 (zer 1) := by rw [← hv]; exact hZ2.alloc _
              have h83 : Has v3 (v0.heap.size) 24 (brow 32 []) := by rw [← hv]; exact h82.alloc _
              clear hv sT2 sB2 hZ2 h82
              refine held_one 2 (by rfl) (by kernel_rfl) (by rfl) (fun K hK => ?_)
              go_wp2_with fail
              refine ⟨sT3.alloc _, ?_⟩
              try simp only [Act.put, List.setIfInBounds_toArray, List.set_cons_zero, List.set_cons_succ]
              generalize hv : World.alloc v3 _ = v4
              have sT4 : Two 24 g1 g2 ce ce v4 := by rw [← hv]; exact sT3.alloc _
              have sB4 : Below w.heap.size w v4 := by rw [← hv]; exact sB3.alloc sB3.size _
              have hA4 : Has v4 (v2.heap.size) 5 (zer 55) := by rw [← hv]; exact hA3.alloc _
              have hZ4 : Has v4 (v1.heap.size) 5 (zer 1) := by rw [← hv]; exact hZ3.alloc _
              have hC4 : Has v4 (v3.heap.size) 30 [.slice (some ⟨v2.heap.size, 0, none⟩) 55 55, .slice (some ⟨v1.heap.size, 0, none⟩) 1 1] := by rw [← hv]; exact Has.made' _ _ _ _ rfl
              have h84 : Has v4 (v0.heap.size) 24 (brow 32 []) := by rw [← hv]; exact h83.alloc _
              clear hv sT3 sB3 hA3 hZ3 h83
              refine held_one 3 (by rfl) (by kernel_rfl) (by rfl) (fun K hK => ?_)
              go_wp2_with fail
              refine (O2.out v4 _ _ _ hA4 hZ4 hC4 (HL.out _ sB4)).mono ?_
              rintro e v5 ⟨rfl, hb⟩
              have sT5 := sT4.keep hb
              have sB5 := sB4.trans (hb.mono sB4.size)
              have hA5 := hA4.keep hb hA4.lt
              have hZ5 := hZ4.keep hb hZ4.lt
              have hC5 := hC4.keep hb hC4.lt
              have h85 := h84.keep hb h84.lt
              clear hb sT4 sB4 hA4 hZ4 hC4 h84
              go_wp2_with fail
              refine ⟨sT5, ?_⟩
              try simp only [Act.put, List.setIfInBounds_toArray, List.set_cons_zero, List.set_cons_succ]
              refine held_one 5 (by rfl) (by kernel_rfl) (by rfl) (fun K hK => ?_)
              refine wp_store_row 24 (.tmp 8) (.tmp 58) (by rfl) v0.heap.size cl.toArray (by rfl) (by rfl) 24 _ h85 KL.out LL.out OL.out ?_
              refine hK _ _ ⟨sT5.row (Nat.ne_of_lt l8a) (Nat.ne_of_lt l8b) _, ?_⟩
              have sT6 := sT5.row (Nat.ne_of_lt l8a) (Nat.ne_of_lt l8b) cl.toArray
              have sB6 := below_row sB5 ge8 cl.toArray
              have h86 := h85.rowl cl
              simp only [Act.put]
              refine held_done (by kernel_rfl) ?_
              go_wp2_with fail
              go_meet
              exact ⟨v0.heap.size, rfl, h86, sT6, sB6⟩
        case rest =>
          obtain ⟨b8, rfl, h8, hT, hB⟩ := hcut
          have q1 : (tx.toList == [101, 51, 98, 48, 99, 52, 52, 50, 57, 56, 102, 99, 49, 99, 49, 52, 57, 97, 102, 98, 102, 52, 99, 56, 57, 57, 54, 102, 98, 57, 50, 52, 50, 55, 97, 101, 52, 49, 101, 52, 54, 52, 57, 98, 57, 51, 52, 99, 97, 52, 57, 53, 57, 57, 49, 98, 55, 56, 53, 50, 98, 56, 53, 53]) = true := by
            rw [HTX.out]; show ((strB (textOf (sha []))).toList == _) = true; rw [eText_list]; rfl
          have E1 : ∀ w' : World, (binOp .eql 24 (.agg ce.toArray) (.agg ce.toArray)).run Tryd.prog w' = .ok (.bool true) w' := fun w' => by
            have := arr_eql 24 Tryd.underlying24 _ _ (sha_length []) (sha_length []) w'
            rw [decide_eq_true (rfl : sha [] = sha []), ← Hce.out] at this
            exact this
          have E2 : ∀ w' : World, (binOp .eql 24 (.agg cl.toArray) (.agg cl.toArray)).run Tryd.prog w' = .ok (.bool true) w' := fun w' => by
            have := arr_eql 24 Tryd.underlying24 _ _ (sha_length z56) (sha_length z56) w'
            rw [decide_eq_true (rfl : sha z56 = sha z56), ← Hcl.out] at this
            exact this
          obtain ⟨ca, hca⟩ : ∃ ca, ca = (sha abc).map u8v := ⟨_, rfl⟩
          have E3 : ∀ w' : World, (binOp .eql 24 (.agg ca.toArray) (.agg ca.toArray)).run Tryd.prog w' = .ok (.bool true) w' := fun w' => by
            have := arr_eql 24 Tryd.underlying24 _ _ (sha_length abc) (sha_length abc) w'
            rw [decide_eq_true (rfl : sha abc = sha abc), ← hca] at this
            exact this
          have O1 : Hid (∀ (w : World) (a c : Nat), Reads w a z56 → Has w c 30 [.slice (some ⟨a, 0, none⟩) 56 56] → Laid w →
              Calls Tryd.prog 10 #[.slice (some ⟨c, 0, none⟩) 1 1] w fun e w' => e = .returned (.agg cl.toArray) ∧ Below w.heap.size w w') := Lib.hid fun w a c ha hc hL => by
            rw [Hcl.out]; exact of_one w z56 56 rfl (by omega) a c ha hc hL
          have O3 : Hid (∀ (w : World) (a b c : Nat), Reads w a [97] → Reads w b [98, 99] → Has w c 30 [.slice (some ⟨a, 0, none⟩) 1 1, .slice (some ⟨b, 0, none⟩) 2 2] → Laid w →
              Calls Tryd.prog 10 #[.slice (some ⟨c, 0, none⟩) 2 2] w fun e w' => e = .returned (.agg ca.toArray) ∧ Below w.heap.size w w') := Lib.hid fun w a b c ha hb hc hL => by
            rw [hca]; exact of_pair w [97] [98, 99] 1 2 rfl rfl (by omega) a b c ha hb hc hL
          have O4 : Hid (∀ (w : World) (a c : Nat), Reads w a abc → Has w c 30 [.slice (some ⟨a, 0, none⟩) 3 3] → Laid w →
              Calls Tryd.prog 10 #[.slice (some ⟨c, 0, none⟩) 1 1] w fun e w' => e = .returned (.agg ca.toArray) ∧ Below w.heap.size w w') := Lib.hid fun w a c ha hc hL => by
            rw [hca]; exact of_one w abc 3 rfl (by omega) a c ha hc hL
          have W0 := Lib.hid word0
          have W1 := Lib.hid word1
          have W4 := Lib.hid wordQ
          have Wm := Lib.hid wordm
          have C13 := Lib.hid cmp13
          have C2 := Lib.hid cmp2
          have Cw := Lib.hid cmpw
          have Xw := Lib.hid xorw
          have Zz := Lib.hid zero_zrw
          have Zw := Lib.hid zerow
          have WS := Lib.hid wrw_size
          have WL := Lib.hid wrw_len
          have WO := Lib.hid wrw_one
          have m56 := make56
          clear hca
          generalize zrw = zq at *
          have H8 := Lib.hid h8
          have HT := Lib.hid hT
          have HB := Lib.hid hB
          clear h8 hT hB
          go_wp2_with (first
            | (refine wpList_store_row rfl 24 _ _ rfl wc.heap.size wrw rfl rfl 24 _ (Has.made' wc 24 _ (brow 32 []) rfl) WS.out WL.out WO.out ?_
               generalize hx : World.setRow _ _ _ = x0
               have S : Kept w w.heap.size g1 g2 b8 wc.heap.size ce cl wrw x0 := by
                 rw [← hx]
                 exact ⟨(HT.out.alloc (.cells (brow 32 []).toArray 24)).row (Nat.ne_of_lt HT.out.1.lt) (Nat.ne_of_lt HT.out.2.lt) _, (H8.out.alloc (.cells (brow 32 []).toArray 24)).offRow (Nat.ne_of_lt H8.out.lt) _, setRow_heap (wc.alloc (.cells (brow 32 []).toArray 24)) wc.heap.size (brow 32 []).toArray wrw 24 (0, 0) (Has.made' wc 24 _ (brow 32 []) rfl), below_row (HB.out.alloc HB.out.size _) HB.out.size _, by rw [size_setRow]; have := HB.out.size; simp; omega⟩
               clear hx H8 HT HB
               generalize wc.heap.size = b9 at *
               generalize wrw = ww at *)
            | (refine wpList_load_on rfl 24 _ rfl g1 rfl 24 _ (0, 0) _ S.1.1 Tryd.underlying24 rfl KE.out ?_)
            | (refine wpList_load_on rfl 24 _ rfl g2 rfl 24 _ (0, 0) _ S.1.2 Tryd.underlying24 rfl KE.out ?_)
            | (refine wpList_load_on rfl 24 _ rfl b8 rfl 24 _ (0, 0) _ S.2.1 Tryd.underlying24 rfl KL.out ?_)
            | (refine wpList_load_on rfl 24 _ rfl b9 rfl 24 _ (0, 0) _ S.2.2.1 Tryd.underlying24 rfl WS.out ?_)
            | (go_at_call 12; with_reducible refine (T1.out _).mono ?_; rintro e y ⟨rfl, hb⟩; replace S := S.keep hb; clear hb)
            | (go_at_call 14; with_reducible refine (W0.out _).mono ?_; rintro e y ⟨rfl, hb⟩; replace S := S.keep hb; clear hb)
            | (go_at_call 14; with_reducible refine (W1.out _).mono ?_; rintro e y ⟨rfl, hb⟩; replace S := S.keep hb; clear hb)
            | (go_at_call 14; with_reducible refine (W4.out _).mono ?_; rintro e y ⟨rfl, hb⟩; replace S := S.keep hb; clear hb)
            | (go_at_call 14; with_reducible refine (Wm.out _).mono ?_; rintro e y ⟨rfl, hb⟩; replace S := S.keep hb; clear hb)
            | (go_at_call 15; with_reducible refine (C13.out _).mono ?_; rintro e y ⟨rfl, hb⟩; replace S := S.keep hb; clear hb)
            | (go_at_call 15; with_reducible refine (C2.out _).mono ?_; rintro e y ⟨rfl, hb⟩; replace S := S.keep hb; clear hb)
            | (go_at_call 15; with_reducible refine (Cw.out _).mono ?_; rintro e y ⟨rfl, hb⟩; replace S := S.keep hb; clear hb)
            | (go_at_call 16; with_reducible refine (Xw.out _).mono ?_; rintro e y ⟨rfl, hb⟩; replace S := S.keep hb; clear hb)
            | (go_at_call 13; with_reducible refine (Zz.out _).mono ?_; rintro e y ⟨rfl, hb⟩; replace S := S.keep hb; clear hb)
            | (go_at_call 13; with_reducible refine (Zw.out _).mono ?_; rintro e y ⟨rfl, hb⟩; replace S := S.keep hb; clear hb))
          have S0 := S.keep (Below.refl _ _)
          clear S
          try simp only [List.append_eq, List.cons_append, List.nil_append]
          refine wp_region_orsK (Kept w w.heap.size g1 g2 b8 b9 ce cl ww) _ [(0, true), (1, false), (2, true), (3, true), (4, true), (5, true), (6, true), (7, true), (8, true), (9, true), (10, true), (11, true), (12, true), (13, false), (14, false), (15, false), (16, true), (17, true), (18, true)] 62 (by kernel_rfl) (by kernel_rfl) (Eq.trans (congrArg (fun q : Array Oper => (decide (62 + ([(0, true), (1, false), (2, true), (3, true), (4, true), (5, true), (6, true), (7, true), (8, true), (9, true), (10, true), (11, true), (12, true), (13, false), (14, false), (15, false), (16, true), (17, true), (18, true)] : List (Nat × Bool)).length = q.size) && (orsNB .any q [(0, true), (1, false), (2, true), (3, true), (4, true), (5, true), (6, true), (7, true), (8, true), (9, true), (10, true), (11, true), (12, true), (13, false), (14, false), (15, false), (16, true), (17, true), (18, true)] (Array.replicate q.size false) && ([(0, true), (1, false), (2, true), (3, true), (4, true), (5, true), (6, true), (7, true), (8, true), (9, true), (10, true), (11, true), (12, true), (13, false), (14, false), (15, false), (16, true), (17, true), (18, true)] : List (Nat × Bool)).all fun x => decide (x.1 < q.size)))) (show _ = ops14 by kernel_rfl)) chk14_0) (kept_drew S0) ?_ (fun _ _ _ h => h)
          simp only [pickOrs, List.getElem?_cons_zero, List.getElem?_cons_succ]
          have s0 := Lib.hid (kept_drew S0)
          clear S0
          generalize x0.drew = v0 at *
          refine orsK_pure (by rfl) (load_yield 24 (.tmp 1) (by rfl) _ (by rfl) 24 ce (fun _ h => h.1.1) _ Tryd.underlying24 rfl KE.out) ?_
          try simp only [Act.put, List.setIfInBounds_toArray, List.set_cons_zero, List.set_cons_succ]
          refine orsK_step (by rfl) (fun K hK => ?_)
          go_wp2_with fail
          with_reducible refine (T1.out _).mono ?_
          rintro e v1 ⟨rfl, hb⟩
          have s1 := Lib.hid (s0.out.keep hb)
          clear hb
          go_wp2_with fail
          refine ⟨s1.out, ?_⟩
          clear s0
          try simp only [Act.put, List.setIfInBounds_toArray, List.set_cons_zero, List.set_cons_succ]
          refine orsK_pure (v := ?_) (by rfl) ?_ ?_
          rotate_left
          · intro w' _; go_simp; try with_reducible rfl
          try simp only [Act.put, List.setIfInBounds_toArray, List.set_cons_zero, List.set_cons_succ]
          refine orsK_pure (v := ?_) (by rfl) ?_ ?_
          rotate_left
          · intro w' _; go_simp; try with_reducible rfl
          try simp only [Act.put, List.setIfInBounds_toArray, List.set_cons_zero, List.set_cons_succ]
          refine orsK_pure (v := ?_) (by rfl) ?_ ?_
          rotate_left
          · intro w' _; go_simp; try with_reducible rfl
          try simp only [Act.put, List.setIfInBounds_toArray, List.set_cons_zero, List.set_cons_succ]
          refine orsK_pure (v := ?_) (by rfl) ?_ ?_
          rotate_left
          · intro w' _; go_simp; try with_reducible rfl
          try simp only [Act.put, List.setIfInBounds_toArray, List.set_cons_zero, List.set_cons_succ]
          refine orsK_pure (v := ?_) (by rfl) ?_ ?_
          rotate_left
          · intro w' _; go_simp; try with_reducible rfl
          try simp only [Act.put, List.setIfInBounds_toArray, List.set_cons_zero, List.set_cons_succ]
          refine orsK_pure (by rfl) (load_yield 24 (.tmp 2) (by rfl) _ (by rfl) 24 ce (fun _ h => h.1.2) _ Tryd.underlying24 rfl KE.out) ?_
          try simp only [Act.put, List.setIfInBounds_toArray, List.set_cons_zero, List.set_cons_succ]
          refine orsK_pure (by rfl) (load_yield 24 (.tmp 1) (by rfl) _ (by rfl) 24 ce (fun _ h => h.1.1) _ Tryd.underlying24 rfl KE.out) ?_
          try simp only [Act.put, List.setIfInBounds_toArray, List.set_cons_zero, List.set_cons_succ]
          refine orsK_pure (v := ?_) (by rfl) ?_ ?_
          rotate_left
          · intro w' _; go_simp; try with_reducible rfl
          try simp only [Act.put, List.setIfInBounds_toArray, List.set_cons_zero, List.set_cons_succ]
          refine orsK_pure (v := ?_) (by rfl) ?_ ?_
          rotate_left
          · intro w' _; go_simp; try with_reducible rfl
          try simp only [Act.put, List.setIfInBounds_toArray, List.set_cons_zero, List.set_cons_succ]
          refine orsK_pure (v := ?_) (by rfl) ?_ ?_
          rotate_left
          · intro w' _; go_simp; try with_reducible rfl
          try simp only [Act.put, List.setIfInBounds_toArray, List.set_cons_zero, List.set_cons_succ]
          refine orsK_pure (by rfl) (load_yield 24 (.tmp 8) (by rfl) _ (by rfl) 24 cl (fun _ h => h.2.1) _ Tryd.underlying24 rfl KL.out) ?_
          try simp only [Act.put, List.setIfInBounds_toArray, List.set_cons_zero, List.set_cons_succ]
          refine orsK_step (by rfl) (fun K hK => ?_)
          go_wp2_with fail
          refine ⟨s1.out.alloc _, ?_⟩
          try simp only [Act.put, List.setIfInBounds_toArray, List.set_cons_zero, List.set_cons_succ]
          refine orsK_step (by rfl) (fun K hK => ?_)
          go_wp2_with fail
          refine ⟨(s1.out.alloc _).alloc _, ?_⟩
          try simp only [Act.put, List.setIfInBounds_toArray, List.set_cons_zero, List.set_cons_succ]
          refine orsK_step (by rfl) (fun K hK => ?_)
          go_wp2_with fail
          refine (O1.out _ v1.heap.size (v1.heap.size + 1) ((Reads.made v1 z56 _ (0, 0) (by rw [zer_u8]; rfl)).alloc _) (Has.made1 _ _ _ _ _ rfl) (HL.out _ ((s1.out.alloc _).alloc _).2.2.2.1)).mono ?_
          rintro e v2 ⟨rfl, hb⟩
          have s2 := Lib.hid (((s1.out.alloc (.cells (zer 56).toArray 5)).alloc (.cells #[.slice (some ⟨v1.heap.size, 0, none⟩) 56 56] 30)).keep hb)
          clear hb s1
          go_wp2_with fail
          refine ⟨s2.out, ?_⟩
          try simp only [Act.put, List.setIfInBounds_toArray, List.set_cons_zero, List.set_cons_succ]
          refine orsK_pure (v := ?_) (by rfl) ?_ ?_
          rotate_left
          · intro w' _; go_simp; try with_reducible rfl
          try simp only [Act.put, List.setIfInBounds_toArray, List.set_cons_zero, List.set_cons_succ]
          refine orsK_pure (v := ?_) (by rfl) ?_ ?_
          rotate_left
          · intro w' _; go_simp; try with_reducible rfl
          try simp only [Act.put, List.setIfInBounds_toArray, List.set_cons_zero, List.set_cons_succ]
          refine orsK_pure (v := ?_) (by rfl) ?_ ?_
          rotate_left
          · intro w' _; go_simp; try with_reducible rfl
          try simp only [Act.put, List.setIfInBounds_toArray, List.set_cons_zero, List.set_cons_succ]
          refine orsK_nil ?_
          clear m56 q1
          show wpAnyH _ _ _ _ _ (53 + (8 + 1)) _ _ _
          refine wpAnyH_tab (E := (Ext w.heap.size)) [(19, 79, [], bysK w.heap.size [97]), (20, 80, [19], bysK w.heap.size [97]), (21, 81, [], bysK w.heap.size [98, 99]), (22, 82, [21], bysK w.heap.size [98, 99]), (23, 83, [20, 22], pairK w.heap.size), (24, 84, [23], valK _ (.agg ca.toArray)), (25, 85, [], bysK w.heap.size abc), (26, 86, [25], bysK w.heap.size abc), (27, 87, [26], rowK w.heap.size abc)] _ 53 [[[19], [21], [25]], [[19, 20], [19, 21], [19, 25], [21, 22], [21, 25], [25, 26]], [[19, 20, 21], [19, 20, 25], [19, 21, 22], [19, 21, 25], [19, 25, 26], [21, 22, 25], [21, 25, 26], [25, 26, 27]], [[19, 20, 21, 22], [19, 20, 21, 25], [19, 20, 25, 26], [19, 21, 22, 25], [19, 21, 25, 26], [19, 25, 26, 27], [21, 22, 25, 26], [21, 25, 26, 27]], [[19, 20, 21, 22, 23], [19, 20, 21, 22, 25], [19, 20, 21, 25, 26], [19, 20, 25, 26, 27], [19, 21, 22, 25, 26], [19, 21, 25, 26, 27], [21, 22, 25, 26, 27]], [[19, 20, 21, 22, 23, 24], [19, 20, 21, 22, 23, 25], [19, 20, 21, 22, 25, 26], [19, 20, 21, 25, 26, 27], [19, 21, 22, 25, 26, 27]], [[19, 20, 21, 22, 23, 24, 25], [19, 20, 21, 22, 23, 25, 26], [19, 20, 21, 22, 25, 26, 27]], [[19, 20, 21, 22, 23, 24, 25, 26], [19, 20, 21, 22, 23, 25, 26, 27]]] [19, 20, 21, 22, 23, 24, 25, 26, 27] [(79, 19), (80, 20), (81, 21), (82, 22), (83, 23), (84, 24), (85, 25), (86, 26), (87, 27)] [(19, []), (20, [19]), (21, []), (22, [21]), (23, [20, 22]), (24, [23]), (25, []), (26, [25]), (27, [26])] rfl rfl (by kernel_rfl) (by kernel_rfl) s2.out ?_ ⟨?_, ?_, ?_, ?_, ?_, ?_, ?_, ?_, ?_, trivial⟩ ?_
          · exact (Eq.trans (congrArg (fun q : Array Oper => levelsB .any q (CT deps14) ([(listedAfter [(0, true), (1, false), (2, true), (3, true), (4, true), (5, true), (6, true), (7, true), (8, true), (9, true), (10, true), (11, true), (12, true), (13, false), (14, false), (15, false), (16, true), (17, true), (18, true)] (Array.replicate q.size false))] :: (([[[19], [21], [25]], [[19, 20], [19, 21], [19, 25], [21, 22], [21, 25], [25, 26]], [[19, 20, 21], [19, 20, 25], [19, 21, 22], [19, 21, 25], [19, 25, 26], [21, 22, 25], [21, 25, 26], [25, 26, 27]], [[19, 20, 21, 22], [19, 20, 21, 25], [19, 20, 25, 26], [19, 21, 22, 25], [19, 21, 25, 26], [19, 25, 26, 27], [21, 22, 25, 26], [21, 25, 26, 27]], [[19, 20, 21, 22, 23], [19, 20, 21, 22, 25], [19, 20, 21, 25, 26], [19, 20, 25, 26, 27], [19, 21, 22, 25, 26], [19, 21, 25, 26, 27], [21, 22, 25, 26, 27]], [[19, 20, 21, 22, 23, 24], [19, 20, 21, 22, 23, 25], [19, 20, 21, 22, 25, 26], [19, 20, 21, 25, 26, 27], [19, 21, 22, 25, 26, 27]], [[19, 20, 21, 22, 23, 24, 25], [19, 20, 21, 22, 23, 25, 26], [19, 20, 21, 22, 25, 26, 27]], [[19, 20, 21, 22, 23, 24, 25, 26], [19, 20, 21, 22, 23, 25, 26, 27]]] : List (List (List Nat))).map fun L => L.map (listN (listedAfter [(0, true), (1, false), (2, true), (3, true), (4, true), (5, true), (6, true), (7, true), (8, true), (9, true), (10, true), (11, true), (12, true), (13, false), (14, false), (15, false), (16, true), (17, true), (18, true)] (Array.replicate q.size false)))) ++ [[listN (listedAfter [(0, true), (1, false), (2, true), (3, true), (4, true), (5, true), (6, true), (7, true), (8, true), (9, true), (10, true), (11, true), (12, true), (13, false), (14, false), (15, false), (16, true), (17, true), (18, true)] (Array.replicate q.size false)) [19, 20, 21, 22, 23, 24, 25, 26, 27]]])) (show _ = ops14 by kernel_rfl)) chk14_1)
          · intro f v hS' hd
            clear s2
            refine ⟨_, (by rfl), (by rfl), (by kernel_rfl), ?_⟩
            intro K hK
            clear hd
            simp only [putAll, Act.put, List.setIfInBounds_toArray, List.set_cons_zero, List.set_cons_succ] at hK ⊢
            go_wp2_with fail
            exact hK _ _ (hS'.out.alloc _) (Ext.alloc _ _) ⟨_, rfl, Bys.made v [97] _ rfl hS'.out.2.2.2.2⟩
          · intro f v hS' hd
            clear s2
            obtain ⟨b, h19, hb⟩ : ∃ b, f 19 = .slice (some ⟨b, 0, none⟩) 1 1 ∧ Bys w.heap.size v b [97] := hd 19 (by simp)
            clear hd
            exact ⟨_, (by rfl), (by rfl), (by kernel_rfl), conv_op (by rfl) (by rfl) (Eq.trans (by kernel_rfl) h19) hb rfl (fun w' hx => kept_ext hS'.out hx)⟩
          · intro f v hS' hd
            clear s2
            refine ⟨_, (by rfl), (by rfl), (by kernel_rfl), ?_⟩
            intro K hK
            clear hd
            simp only [putAll, Act.put, List.setIfInBounds_toArray, List.set_cons_zero, List.set_cons_succ] at hK ⊢
            go_wp2_with fail
            exact hK _ _ (hS'.out.alloc _) (Ext.alloc _ _) ⟨_, rfl, Bys.made v [98, 99] _ rfl hS'.out.2.2.2.2⟩
          · intro f v hS' hd
            clear s2
            obtain ⟨b, h21, hb⟩ : ∃ b, f 21 = .slice (some ⟨b, 0, none⟩) 2 2 ∧ Bys w.heap.size v b [98, 99] := hd 21 (by simp)
            clear hd
            exact ⟨_, (by rfl), (by rfl), (by kernel_rfl), conv_op (by rfl) (by rfl) (Eq.trans (by kernel_rfl) h21) hb rfl (fun w' hx => kept_ext hS'.out hx)⟩
          · intro f v hS' hd
            clear s2
            refine ⟨_, (by rfl), (by rfl), (by kernel_rfl), ?_⟩
            intro K hK
            obtain ⟨b, h20, hb⟩ : ∃ b, f 20 = .slice (some ⟨b, 0, none⟩) 1 1 ∧ Bys w.heap.size v b [97] := hd 20 (by simp)
            obtain ⟨c, h22, hc⟩ : ∃ b, f 22 = .slice (some ⟨b, 0, none⟩) 2 2 ∧ Bys w.heap.size v b [98, 99] := hd 22 (by simp)
            clear hd
            simp only [h20, h22, putAll, Act.put, List.setIfInBounds_toArray, List.set_cons_zero, List.set_cons_succ] at hK ⊢
            have HB := Lib.hid hb
            have HC := Lib.hid hc
            clear hb hc
            go_wp2_with fail
            exact hK _ _ (hS'.out.alloc _) (Ext.alloc _ _) ⟨b, c, _, rfl, Has.made' _ _ _ _ rfl, HB.out.ext (Ext.alloc _ _), HC.out.ext (Ext.alloc _ _)⟩
          · intro f v hS' hd
            clear s2
            refine ⟨_, (by rfl), (by rfl), (by kernel_rfl), ?_⟩
            intro K hK
            obtain ⟨b, c, d, h23, hd1, hb, hc⟩ : ∃ b c d, f 23 = .slice (some ⟨d, 0, none⟩) 2 2 ∧ Has v d 30 [.slice (some ⟨b, 0, none⟩) 1 1, .slice (some ⟨c, 0, none⟩) 2 2] ∧ Bys w.heap.size v b [97] ∧ Bys w.heap.size v c [98, 99] := hd 23 (by simp)
            clear hd
            simp only [h23, putAll, Act.put, List.setIfInBounds_toArray, List.set_cons_zero, List.set_cons_succ] at hK ⊢
            have HB := Lib.hid hb
            have HC := Lib.hid hc
            have HD := Lib.hid hd1
            clear hb hc hd1
            go_wp2_with fail
            (with_reducible refine (O3.out _ _ _ _ HB.out.reads HC.out.reads HD.out (HL.out _ (kept_below hS'.out))).mono ?_)
            rintro e v2 ⟨rfl, hv⟩
            have HV := Lib.hid hv
            clear hv
            go_wp2_with fail
            exact hK _ _ (hS'.out.keep HV.out) (Ext.below HV.out) rfl
          · intro f v hS' hd
            clear s2
            refine ⟨_, (by rfl), (by rfl), (by kernel_rfl), ?_⟩
            intro K hK
            clear hd
            simp only [putAll, Act.put, List.setIfInBounds_toArray, List.set_cons_zero, List.set_cons_succ] at hK ⊢
            go_wp2_with fail
            exact hK _ _ (hS'.out.alloc _) (Ext.alloc _ _) ⟨_, rfl, Bys.made v abc _ rfl hS'.out.2.2.2.2⟩
          · intro f v hS' hd
            clear s2
            obtain ⟨b, h25, hb⟩ : ∃ b, f 25 = .slice (some ⟨b, 0, none⟩) 3 3 ∧ Bys w.heap.size v b abc := hd 25 (by simp)
            clear hd
            exact ⟨_, (by rfl), (by rfl), (by kernel_rfl), conv_op (by rfl) (by rfl) (Eq.trans (by kernel_rfl) h25) hb rfl (fun w' hx => kept_ext hS'.out hx)⟩
          · intro f v hS' hd
            clear s2
            refine ⟨_, (by rfl), (by rfl), (by kernel_rfl), ?_⟩
            intro K hK
            obtain ⟨b, h26, hb⟩ : ∃ b, f 26 = .slice (some ⟨b, 0, none⟩) 3 3 ∧ Bys w.heap.size v b abc := hd 26 (by simp)
            clear hd
            simp only [h26, putAll, Act.put, List.setIfInBounds_toArray, List.set_cons_zero, List.set_cons_succ] at hK ⊢
            have HB := Lib.hid hb
            clear hb
            go_wp2_with fail
            exact hK _ _ (hS'.out.alloc _) (Ext.alloc _ _) ⟨b, _, rfl, Has.made' _ _ _ _ rfl, HB.out.ext (Ext.alloc _ _)⟩
          · intro f v3 s3 hf
            clear s2
            obtain h24 : f 24 = .agg ca.toArray := hf 24 (by kernel_rfl)
            obtain ⟨b, d, h27, hd, hb⟩ : ∃ b d, f 27 = .slice (some ⟨d, 0, none⟩) 1 1 ∧ Has v3 d 30 [.slice (some ⟨b, 0, none⟩) 3 3] ∧ Bys w.heap.size v3 b abc := hf 27 (by kernel_rfl)
            clear hf
            simp only [h24, h27, putAll, Act.put, List.setIfInBounds_toArray, List.set_cons_zero, List.set_cons_succ]
            clear h24 h27
            have HB := Lib.hid hb
            have HD := Lib.hid hd
            clear hb hd
            show wpAnyH _ _ _ _ _ (0 + 53) _ _ _
            refine wpAnyH_orsK _ [(28, false), (29, true), (30, true), (31, true), (32, true), (33, false), (34, true), (35, true), (36, true), (37, true), (38, false), (39, true), (40, true), (41, true), (42, true), (43, false), (44, true), (45, true), (46, true), (47, true), (48, false), (49, true), (50, true), (51, true), (52, true), (53, true), (54, false), (55, true), (56, true), (57, true), (58, true), (59, true), (60, false), (61, true), (62, true), (63, true), (64, true), (65, true), (66, false), (67, true), (68, true), (69, true), (70, true), (71, true), (72, false), (73, false), (74, true), (75, true), (76, true), (77, false), (78, true), (79, true), (80, true)] 0 (by kernel_rfl) (Eq.trans (congrArg (fun q : Array Oper => (orsNB .any q [(28, false), (29, true), (30, true), (31, true), (32, true), (33, false), (34, true), (35, true), (36, true), (37, true), (38, false), (39, true), (40, true), (41, true), (42, true), (43, false), (44, true), (45, true), (46, true), (47, true), (48, false), (49, true), (50, true), (51, true), (52, true), (53, true), (54, false), (55, true), (56, true), (57, true), (58, true), (59, true), (60, false), (61, true), (62, true), (63, true), (64, true), (65, true), (66, false), (67, true), (68, true), (69, true), (70, true), (71, true), (72, false), (73, false), (74, true), (75, true), (76, true), (77, false), (78, true), (79, true), (80, true)] (listN (listedAfter [(0, true), (1, false), (2, true), (3, true), (4, true), (5, true), (6, true), (7, true), (8, true), (9, true), (10, true), (11, true), (12, true), (13, false), (14, false), (15, false), (16, true), (17, true), (18, true)] (Array.replicate q.size false)) [19, 20, 21, 22, 23, 24, 25, 26, 27]) && ([(28, false), (29, true), (30, true), (31, true), (32, true), (33, false), (34, true), (35, true), (36, true), (37, true), (38, false), (39, true), (40, true), (41, true), (42, true), (43, false), (44, true), (45, true), (46, true), (47, true), (48, false), (49, true), (50, true), (51, true), (52, true), (53, true), (54, false), (55, true), (56, true), (57, true), (58, true), (59, true), (60, false), (61, true), (62, true), (63, true), (64, true), (65, true), (66, false), (67, true), (68, true), (69, true), (70, true), (71, true), (72, false), (73, false), (74, true), (75, true), (76, true), (77, false), (78, true), (79, true), (80, true)] : List (Nat × Bool)).all fun x => decide (x.1 < q.size))) (show _ = ops14 by kernel_rfl)) chk14_2) s3.out ?_ (fun _ _ _ h => h)
            simp only [pickOrs, List.getElem?_cons_zero, List.getElem?_cons_succ]
            refine orsK_step (by rfl) (fun K hK => ?_)
            go_wp2_with fail
            with_reducible refine (O4.out _ _ _ HB.out.reads HD.out (HL.out _ (kept_below s3.out))).mono ?_
            rintro e v4 ⟨rfl, hb⟩
            have s4 := Lib.hid (s3.out.keep hb)
            clear hb
            go_wp2_with fail
            refine ⟨s4.out, ?_⟩
            clear s3
            try simp only [Act.put, List.setIfInBounds_toArray, List.set_cons_zero, List.set_cons_succ]
            refine orsK_pure (v := ?_) (by rfl) ?_ ?_
            rotate_left
            · intro w' _; go_simp; try with_reducible rfl
            try simp only [Act.put, List.setIfInBounds_toArray, List.set_cons_zero, List.set_cons_succ]
            refine orsK_pure (v := ?_) (by rfl) ?_ ?_
            rotate_left
            · intro w' _; go_simp; try with_reducible rfl
            try simp only [Act.put, List.setIfInBounds_toArray, List.set_cons_zero, List.set_cons_succ]
            refine orsK_pure (v := ?_) (by rfl) ?_ ?_
            rotate_left
            · intro w' _; go_simp; try with_reducible rfl
            try simp only [Act.put, List.setIfInBounds_toArray, List.set_cons_zero, List.set_cons_succ]
            refine orsK_pure (by rfl) (load_yieldA 24 (.tmp 9) (by rfl) _ (by rfl) 24 ww (fun _ h => h.2.2.1) _ Tryd.underlying24 rfl WS.out) ?_
            try simp only [Act.put, List.setIfInBounds_toArray, List.set_cons_zero, List.set_cons_succ]
            refine orsK_step (by rfl) (fun K hK => ?_)
            go_wp2_with fail
            with_reducible refine (W0.out _).mono ?_
            rintro e v5 ⟨rfl, hb⟩
            have s5 := Lib.hid (s4.out.keep hb)
            clear hb
            go_wp2_with fail
            refine ⟨s5.out, ?_⟩
            clear s4
            try simp only [Act.put, List.setIfInBounds_toArray, List.set_cons_zero, List.set_cons_succ]
            refine orsK_pure (v := ?_) (by rfl) ?_ ?_
            rotate_left
            · intro w' _; go_simp; try with_reducible rfl
            try simp only [Act.put, List.setIfInBounds_toArray, List.set_cons_zero, List.set_cons_succ]
            refine orsK_pure (v := ?_) (by rfl) ?_ ?_
            rotate_left
            · intro w' _; go_simp; try with_reducible rfl
            try simp only [Act.put, List.setIfInBounds_toArray, List.set_cons_zero, List.set_cons_succ]
            refine orsK_pure (v := ?_) (by rfl) ?_ ?_
            rotate_left
            · intro w' _; go_simp; try with_reducible rfl
            try simp only [Act.put, List.setIfInBounds_toArray, List.set_cons_zero, List.set_cons_succ]
            refine orsK_pure (by rfl) (load_yieldA 24 (.tmp 9) (by rfl) _ (by rfl) 24 ww (fun _ h => h.2.2.1) _ Tryd.underlying24 rfl WS.out) ?_
            try simp only [Act.put, List.setIfInBounds_toArray, List.set_cons_zero, List.set_cons_succ]
            refine orsK_step (by rfl) (fun K hK => ?_)
            go_wp2_with fail
            with_reducible refine (W1.out _).mono ?_
            rintro e v6 ⟨rfl, hb⟩
            have s6 := Lib.hid (s5.out.keep hb)
            clear hb
            go_wp2_with fail
            refine ⟨s6.out, ?_⟩
            clear s5
            try simp only [Act.put, List.setIfInBounds_toArray, List.set_cons_zero, List.set_cons_succ]
            refine orsK_pure (v := ?_) (by rfl) ?_ ?_
            rotate_left
            · intro w' _; go_simp; try with_reducible rfl
            try simp only [Act.put, List.setIfInBounds_toArray, List.set_cons_zero, List.set_cons_succ]
            refine orsK_pure (v := ?_) (by rfl) ?_ ?_
            rotate_left
            · intro w' _; go_simp; try with_reducible rfl
            try simp only [Act.put, List.setIfInBounds_toArray, List.set_cons_zero, List.set_cons_succ]
            refine orsK_pure (v := ?_) (by rfl) ?_ ?_
            rotate_left
            · intro w' _; go_simp; try with_reducible rfl
            try simp only [Act.put, List.setIfInBounds_toArray, List.set_cons_zero, List.set_cons_succ]
            refine orsK_pure (by rfl) (load_yieldA 24 (.tmp 9) (by rfl) _ (by rfl) 24 ww (fun _ h => h.2.2.1) _ Tryd.underlying24 rfl WS.out) ?_
            try simp only [Act.put, List.setIfInBounds_toArray, List.set_cons_zero, List.set_cons_succ]
            refine orsK_step (by rfl) (fun K hK => ?_)
            go_wp2_with fail
            with_reducible refine (W4.out _).mono ?_
            rintro e v7 ⟨rfl, hb⟩
            have s7 := Lib.hid (s6.out.keep hb)
            clear hb
            go_wp2_with fail
            refine ⟨s7.out, ?_⟩
            clear s6
            try simp only [Act.put, List.setIfInBounds_toArray, List.set_cons_zero, List.set_cons_succ]
            refine orsK_pure (v := ?_) (by rfl) ?_ ?_
            rotate_left
            · intro w' _; go_simp; try with_reducible rfl
            try simp only [Act.put, List.setIfInBounds_toArray, List.set_cons_zero, List.set_cons_succ]
            refine orsK_pure (v := ?_) (by rfl) ?_ ?_
            rotate_left
            · intro w' _; go_simp; try with_reducible rfl
            try simp only [Act.put, List.setIfInBounds_toArray, List.set_cons_zero, List.set_cons_succ]
            refine orsK_pure (v := ?_) (by rfl) ?_ ?_
            rotate_left
            · intro w' _; go_simp; try with_reducible rfl
            try simp only [Act.put, List.setIfInBounds_toArray, List.set_cons_zero, List.set_cons_succ]
            refine orsK_pure (by rfl) (load_yieldA 24 (.tmp 9) (by rfl) _ (by rfl) 24 ww (fun _ h => h.2.2.1) _ Tryd.underlying24 rfl WS.out) ?_
            try simp only [Act.put, List.setIfInBounds_toArray, List.set_cons_zero, List.set_cons_succ]
            refine orsK_step (by rfl) (fun K hK => ?_)
            go_wp2_with fail
            with_reducible refine (Wm.out _).mono ?_
            rintro e v8 ⟨rfl, hb⟩
            have s8 := Lib.hid (s7.out.keep hb)
            clear hb
            go_wp2_with fail
            refine ⟨s8.out, ?_⟩
            clear s7
            try simp only [Act.put, List.setIfInBounds_toArray, List.set_cons_zero, List.set_cons_succ]
            refine orsK_pure (v := ?_) (by rfl) ?_ ?_
            rotate_left
            · intro w' _; go_simp; try with_reducible rfl
            try simp only [Act.put, List.setIfInBounds_toArray, List.set_cons_zero, List.set_cons_succ]
            refine orsK_pure (v := ?_) (by rfl) ?_ ?_
            rotate_left
            · intro w' _; go_simp; try with_reducible rfl
            try simp only [Act.put, List.setIfInBounds_toArray, List.set_cons_zero, List.set_cons_succ]
            refine orsK_pure (v := ?_) (by rfl) ?_ ?_
            rotate_left
            · intro w' _; go_simp; try with_reducible rfl
            try simp only [Act.put, List.setIfInBounds_toArray, List.set_cons_zero, List.set_cons_succ]
            refine orsK_pure (by rfl) (load_yieldA 24 (.tmp 9) (by rfl) _ (by rfl) 24 ww (fun _ h => h.2.2.1) _ Tryd.underlying24 rfl WS.out) ?_
            try simp only [Act.put, List.setIfInBounds_toArray, List.set_cons_zero, List.set_cons_succ]
            refine orsK_pure (v := ?_) (by rfl) ?_ ?_
            rotate_left
            · intro w' _; go_simp; try with_reducible rfl
            try simp only [Act.put, List.setIfInBounds_toArray, List.set_cons_zero, List.set_cons_succ]
            refine orsK_step (by rfl) (fun K hK => ?_)
            go_wp2_with fail
            with_reducible refine (C13.out _).mono ?_
            rintro e v9 ⟨rfl, hb⟩
            have s9 := Lib.hid (s8.out.keep hb)
            clear hb
            go_wp2_with fail
            refine ⟨s9.out, ?_⟩
            clear s8
            try simp only [Act.put, List.setIfInBounds_toArray, List.set_cons_zero, List.set_cons_succ]
            refine orsK_pure (v := ?_) (by rfl) ?_ ?_
            rotate_left
            · intro w' _; go_simp; try with_reducible rfl
            try simp only [Act.put, List.setIfInBounds_toArray, List.set_cons_zero, List.set_cons_succ]
            refine orsK_pure (v := ?_) (by rfl) ?_ ?_
            rotate_left
            · intro w' _; go_simp; try with_reducible rfl
            try simp only [Act.put, List.setIfInBounds_toArray, List.set_cons_zero, List.set_cons_succ]
            refine orsK_pure (v := ?_) (by rfl) ?_ ?_
            rotate_left
            · intro w' _; go_simp; try with_reducible rfl
            try simp only [Act.put, List.setIfInBounds_toArray, List.set_cons_zero, List.set_cons_succ]
            refine orsK_pure (v := ?_) (by rfl) ?_ ?_
            rotate_left
            · intro w' _; go_simp; try with_reducible rfl
            try simp only [Act.put, List.setIfInBounds_toArray, List.set_cons_zero, List.set_cons_succ]
            refine orsK_pure (by rfl) (load_yieldA 24 (.tmp 9) (by rfl) _ (by rfl) 24 ww (fun _ h => h.2.2.1) _ Tryd.underlying24 rfl WS.out) ?_
            try simp only [Act.put, List.setIfInBounds_toArray, List.set_cons_zero, List.set_cons_succ]
            refine orsK_step (by rfl) (fun K hK => ?_)
            go_wp2_with fail
            with_reducible refine (C2.out _).mono ?_
            rintro e v10 ⟨rfl, hb⟩
            have s10 := Lib.hid (s9.out.keep hb)
            clear hb
            go_wp2_with fail
            refine ⟨s10.out, ?_⟩
            clear s9
            try simp only [Act.put, List.setIfInBounds_toArray, List.set_cons_zero, List.set_cons_succ]
            refine orsK_pure (v := ?_) (by rfl) ?_ ?_
            rotate_left
            · intro w' _; go_simp; try with_reducible rfl
            try simp only [Act.put, List.setIfInBounds_toArray, List.set_cons_zero, List.set_cons_succ]
            refine orsK_pure (v := ?_) (by rfl) ?_ ?_
            rotate_left
            · intro w' _; go_simp; try with_reducible rfl
            try simp only [Act.put, List.setIfInBounds_toArray, List.set_cons_zero, List.set_cons_succ]
            refine orsK_pure (v := ?_) (by rfl) ?_ ?_
            rotate_left
            · intro w' _; go_simp; try with_reducible rfl
            try simp only [Act.put, List.setIfInBounds_toArray, List.set_cons_zero, List.set_cons_succ]
            refine orsK_pure (by rfl) (load_yieldA 24 (.tmp 9) (by rfl) _ (by rfl) 24 ww (fun _ h => h.2.2.1) _ Tryd.underlying24 rfl WS.out) ?_
            try simp only [Act.put, List.setIfInBounds_toArray, List.set_cons_zero, List.set_cons_succ]
            refine orsK_pure (by rfl) (load_yieldA 24 (.tmp 9) (by rfl) _ (by rfl) 24 ww (fun _ h => h.2.2.1) _ Tryd.underlying24 rfl WS.out) ?_
            try simp only [Act.put, List.setIfInBounds_toArray, List.set_cons_zero, List.set_cons_succ]
            refine orsK_step (by rfl) (fun K hK => ?_)
            go_wp2_with fail
            with_reducible refine (Cw.out _).mono ?_
            rintro e v11 ⟨rfl, hb⟩
            have s11 := Lib.hid (s10.out.keep hb)
            clear hb
            go_wp2_with fail
            refine ⟨s11.out, ?_⟩
            clear s10
            try simp only [Act.put, List.setIfInBounds_toArray, List.set_cons_zero, List.set_cons_succ]
            refine orsK_pure (v := ?_) (by rfl) ?_ ?_
            rotate_left
            · intro w' _; go_simp; try with_reducible rfl
            try simp only [Act.put, List.setIfInBounds_toArray, List.set_cons_zero, List.set_cons_succ]
            refine orsK_pure (v := ?_) (by rfl) ?_ ?_
            rotate_left
            · intro w' _; go_simp; try with_reducible rfl
            try simp only [Act.put, List.setIfInBounds_toArray, List.set_cons_zero, List.set_cons_succ]
            refine orsK_pure (v := ?_) (by rfl) ?_ ?_
            rotate_left
            · intro w' _; go_simp; try with_reducible rfl
            try simp only [Act.put, List.setIfInBounds_toArray, List.set_cons_zero, List.set_cons_succ]
            refine orsK_pure (by rfl) (load_yieldA 24 (.tmp 9) (by rfl) _ (by rfl) 24 ww (fun _ h => h.2.2.1) _ Tryd.underlying24 rfl WS.out) ?_
            try simp only [Act.put, List.setIfInBounds_toArray, List.set_cons_zero, List.set_cons_succ]
            refine orsK_pure (by rfl) (load_yieldA 24 (.tmp 9) (by rfl) _ (by rfl) 24 ww (fun _ h => h.2.2.1) _ Tryd.underlying24 rfl WS.out) ?_
            try simp only [Act.put, List.setIfInBounds_toArray, List.set_cons_zero, List.set_cons_succ]
            refine orsK_step (by rfl) (fun K hK => ?_)
            go_wp2_with fail
            with_reducible refine (Xw.out _).mono ?_
            rintro e v12 ⟨rfl, hb⟩
            have s12 := Lib.hid (s11.out.keep hb)
            clear hb
            go_wp2_with fail
            refine ⟨s12.out, ?_⟩
            clear s11
            try simp only [Act.put, List.setIfInBounds_toArray, List.set_cons_zero, List.set_cons_succ]
            refine orsK_step (by rfl) (fun K hK => ?_)
            go_wp2_with fail
            with_reducible refine (Zz.out _).mono ?_
            rintro e v13 ⟨rfl, hb⟩
            have s13 := Lib.hid (s12.out.keep hb)
            clear hb
            go_wp2_with fail
            refine ⟨s13.out, ?_⟩
            clear s12
            try simp only [Act.put, List.setIfInBounds_toArray, List.set_cons_zero, List.set_cons_succ]
            refine orsK_pure (v := ?_) (by rfl) ?_ ?_
            rotate_left
            · intro w' _; go_simp; try with_reducible rfl
            try simp only [Act.put, List.setIfInBounds_toArray, List.set_cons_zero, List.set_cons_succ]
            refine orsK_pure (v := ?_) (by rfl) ?_ ?_
            rotate_left
            · intro w' _; go_simp; try with_reducible rfl
            try simp only [Act.put, List.setIfInBounds_toArray, List.set_cons_zero, List.set_cons_succ]
            refine orsK_pure (by rfl) (load_yieldA 24 (.tmp 9) (by rfl) _ (by rfl) 24 ww (fun _ h => h.2.2.1) _ Tryd.underlying24 rfl WS.out) ?_
            try simp only [Act.put, List.setIfInBounds_toArray, List.set_cons_zero, List.set_cons_succ]
            refine orsK_step (by rfl) (fun K hK => ?_)
            go_wp2_with fail
            with_reducible refine (Zw.out _).mono ?_
            rintro e v14 ⟨rfl, hb⟩
            have s14 := Lib.hid (s13.out.keep hb)
            clear hb
            go_wp2_with fail
            refine ⟨s14.out, ?_⟩
            clear s13
            try simp only [Act.put, List.setIfInBounds_toArray, List.set_cons_zero, List.set_cons_succ]
            refine orsK_pure (v := ?_) (by rfl) ?_ ?_
            rotate_left
            · intro w' _; go_simp; try with_reducible rfl
            try simp only [Act.put, List.setIfInBounds_toArray, List.set_cons_zero, List.set_cons_succ]
            refine orsK_pure (v := ?_) (by rfl) ?_ ?_
            rotate_left
            · intro w' _; go_simp; try with_reducible rfl
            try simp only [Act.put, List.setIfInBounds_toArray, List.set_cons_zero, List.set_cons_succ]
            refine orsK_pure (v := ?_) (by rfl) ?_ ?_
            rotate_left
            · intro w' _; go_simp; try with_reducible rfl
            try simp only [Act.put, List.setIfInBounds_toArray, List.set_cons_zero]
            refine orsK_nil ?_
            refine held_done (by kernel_rfl) ?_
            go_wp2_with fail
            go_ret
            exact ⟨rfl, kept_below s14.out⟩
end Go.Proofs.YtpfckamobjcdhaaDoor
