/- A drawn region in which one operation that is no read (memory made) may come up anywhere along a chain of others (calls, pure ones ahead), and one named order behind. No condition. -/
import Derived.Test.YtefamkckoikeoaaDoorBase3
import Derived.Test.YtefamkckoikeoaaDoorBase2
import Derived.Test.YtefamkckoikeoaaDoorBase1
import Derived.Laws.OwnMore
namespace Go.Proofs.YtefamkckoikeoaaDoor
open Go.RowKit
section
variable {P : Program} {md : Region.Mode} {ops : Array Oper} {S : World → Prop} {Q : Exit → Act → World → Prop}
/-- The floating one: wherever along the chain; behind both the tail. -/
def wpFl (P : Program) (ops : Array Oper) (S : World → Prop) (Q : Exit → Act → World → Prop) (ok : Oper) (tail : List (Oper × Bool)) : List (Oper × Bool) → Act → World → Prop
  | [], a, w => ok.wp P a w (fun a' w' => S w' ∧ wpOrsL P ops S Q tail a' w') Q
  | (o, true) :: r, a, w => ∃ v, YieldsIf P ops S o v a ∧ wpFl P ops S Q ok tail r (a.put o.dst v) w
  | (o, false) :: r, a, w => o.guard = none ∧ o.wp P a w (fun a' w' => S w' ∧ wpFl P ops S Q ok tail r a' w') Q ∧
      ok.wp P a w (fun a' w' => S w' ∧ wpOrsL P ops S Q ((o, false) :: r ++ tail) a' w') Q
def flB (md : Region.Mode) (ops : Array Oper) (k : Nat) (tail : List (Nat × Bool)) : List (Nat × Bool) → Array Bool → Bool
  | [], listed => decide (Region.ready md ops listed = [k]) && orsB md ops tail (listed.setIfInBounds k true)
  | (i, true) :: r, listed => Region.free md ops listed i && ((Region.ready md ops listed).contains i && flB md ops k tail r (listed.setIfInBounds i true))
  | (i, false) :: r, listed => (decide (Region.ready md ops listed = [i, k]) || decide (Region.ready md ops listed = [k, i])) && (flB md ops k tail r (listed.setIfInBounds i true) && orsB md ops ((i, false) :: r ++ tail) (listed.setIfInBounds k true))
theorem pickOrs_app (l : List Oper) : ∀ (A B : List (Nat × Bool)), pickOrs l (A ++ B) = pickOrs l A ++ pickOrs l B
  | [], _ => rfl
  | (i, b) :: A, B => by
    show pickOrs l ((i, b) :: (A ++ B)) = _
    rw [pickOrs, pickOrs, pickOrs_app l A B]
    cases l[i]? <;> rfl
theorem wpAnyH_of_fl (hs : Region.noSelect ops = true) (hQ : ∀ c a d v w, Q (.panic c) (a.put d v) w → Q (.panic c) a w) (k : Nat) (ok : Oper) (hk : ops[k]? = some ok) (gk : ok.guard = none)
    (tail : List (Nat × Bool)) (ht : (tail.all fun x => decide (x.1 < ops.size)) = true) :
    ∀ (l : List (Nat × Bool)) (fuel : Nat) (listed : Array Bool) (a : Act) (w : World), l.length + 1 + tail.length ≤ fuel → flB md ops k tail l listed = true → (l.all fun x => decide (x.1 < ops.size)) = true → S w →
      wpFl P ops S Q ok (pickOrs ops.toList tail) (pickOrs ops.toList l) a w → wpAnyH P md ops Q S fuel listed a w
  | [], 0, _, _, _, hl, _, _, _, _ => absurd hl (by simp)
  | [], fuel + 1, listed, a, w, hl, hB, _, hS, h => by
    simp only [flB, Bool.and_eq_true, decide_eq_true_eq] at hB
    refine wpAnyH_all hB.1 (by simp) fun x hx => ?_
    obtain rfl : x = k := by simpa using hx
    exact wpOp_mono (fun a' w' h' => ⟨h'.1, wpAnyH_of_ors hs hQ tail fuel _ _ _ (by simp at hl; omega) hB.2 h'.1 (wpOrs_of_L _ _ _ _ ht h'.2)⟩) (wpOp_plain2 hk gk h)
  | (i, b) :: r, 0, _, _, _, hl, _, _, _, _ => absurd hl (by simp)
  | (i, true) :: r, fuel + 1, listed, a, w, hl, hB, ha, hS, h => by
    simp only [List.all_cons, Bool.and_eq_true, decide_eq_true_eq] at ha
    have ho : ops.toList[i]? = some ops[i] := by simp [ha.1]
    have ho' : ops[i]? = some ops[i] := by simp [ha.1]
    rw [pickOrs, ho] at h
    obtain ⟨v, hy, hr⟩ := h
    simp only [flB, Bool.and_eq_true] at hB
    exact wpAnyH_take ho' hs hB.1 hB.2.1 (fun c a w => hQ c a _ v w) hy hS (wpAnyH_of_fl hs hQ k ok hk gk tail ht r fuel _ _ _ (by simp at hl; omega) hB.2.2 ha.2 hS hr)
  | (i, false) :: r, fuel + 1, listed, a, w, hl, hB, ha, hS, h => by
    have ha0 := ha
    simp only [List.all_cons, Bool.and_eq_true, decide_eq_true_eq] at ha
    have ho : ops.toList[i]? = some ops[i] := by simp [ha.1]
    have ho' : ops[i]? = some ops[i] := by simp [ha.1]
    have hpk : pickOrs ops.toList ((i, false) :: r ++ tail) = (ops[i], false) :: pickOrs ops.toList r ++ pickOrs ops.toList tail := by
      rw [pickOrs_app, pickOrs, ho]
    rw [pickOrs, ho] at h
    obtain ⟨hg, h1, h2⟩ := h
    simp only [flB, Bool.and_eq_true, Bool.or_eq_true, decide_eq_true_eq] at hB
    have step : ∀ x, (x = i ∨ x = k) → wpOp P ops Q x (fun a' w' => S w' ∧ wpAnyH P md ops Q S fuel (listed.setIfInBounds x true) a' w') a w := fun x hx => by
      rcases hx with rfl | rfl
      · exact wpOp_mono (fun a' w' h' => ⟨h'.1, wpAnyH_of_fl hs hQ k ok hk gk tail ht r fuel _ _ _ (by simp at hl; omega) hB.2.1 ha.2 h'.1 h'.2⟩) (wpOp_plain2 ho' hg h1)
      · refine wpOp_mono (fun a' w' h' => ⟨h'.1, wpAnyH_of_ors hs hQ ((i, false) :: r ++ tail) fuel _ _ _ (by simp at hl ⊢; omega) hB.2.2 h'.1 (wpOrs_of_L _ _ _ _ (by rw [List.all_append, ha0, ht]; rfl) (by rw [hpk]; exact h'.2))⟩) (wpOp_plain2 hk gk h2)
    rcases hB.1 with hr | hr
    · exact wpAnyH_all hr (by simp) fun x hx => step x (by simpa using hx)
    · exact wpAnyH_all hr (by simp) fun x hx => step x (by simpa [or_comm] using hx)
theorem fl_pure {ok o : Oper} {tail r : List (Oper × Bool)} {a : Act} {w : World} {v : Value} (hw : Region.wanted o (yielded ops a.tmps) = true)
    (hy : ∀ w', S w' → (execOp a.eval o).run P w' = .ok (.value v) w') (h : wpFl P ops S Q ok tail r (a.put o.dst v) w) : wpFl P ops S Q ok tail ((o, true) :: r) a w := ⟨v, .inl ⟨hw, hy⟩, h⟩
theorem fl_step {ok o : Oper} {tail r : List (Oper × Bool)} {a : Act} {w : World} (hg : o.guard = none)
    (h1 : ∀ K : Act → World → Prop, (∀ a' w', S w' ∧ wpFl P ops S Q ok tail r a' w' → K a' w') → o.wp P a w K Q)
    (h2 : ∀ K : Act → World → Prop, (∀ a' w', S w' ∧ wpOrsL P ops S Q ((o, false) :: r ++ tail) a' w' → K a' w') → ok.wp P a w K Q) : wpFl P ops S Q ok tail ((o, false) :: r) a w :=
  ⟨hg, h1 _ fun _ _ h => h, h2 _ fun _ _ h => h⟩
theorem fl_nil {ok : Oper} {tail : List (Oper × Bool)} {a : Act} {w : World}
    (h : ∀ K : Act → World → Prop, (∀ a' w', S w' ∧ wpOrsL P ops S Q tail a' w' → K a' w') → ok.wp P a w K Q) : wpFl P ops S Q ok tail [] a w := h _ fun _ _ h => h
end
/-- The check of a chain, for a theorem of its own. -/
def flOk (l : List (Nat × Bool)) (k : Nat) (tail : List (Nat × Bool)) (q : Array Oper) : Bool :=
  (decide (l.length + 1 + tail.length ≤ q.size) && flB .any q k tail l (Array.replicate q.size false)) && ((tail.all fun x => decide (x.1 < q.size)) && l.all fun x => decide (x.1 < q.size))
theorem wp_region_fl {P : Program} {Q : Exit → Act → World → Prop} {id : Nat} {a : Act} {w : World} {lo : List Oper} (l : List (Nat × Bool)) (k : Nat) (tail : List (Nat × Bool)) (ok : Oper) (hk : lo[k]? = some ok) (gk : ok.guard = none)
    (hm : P.follows .mixedOrders = true) (hs : Region.noSelect lo.toArray = true) (q : Array Oper) (hB : flOk l k tail q = true) (hq : lo.toArray = q) (S : World → Prop) (hS : S w.drew)
    (h : wpFl P lo.toArray S (NoPanic Q) ok (pickOrs lo tail) (pickOrs lo l) a w.drew) : (Code.region id lo.toArray true).wp P Q a w := by
  subst hq
  unfold flOk at hB
  simp only [Bool.and_eq_true, decide_eq_true_eq] at hB
  obtain ⟨⟨b0, b1⟩, b2, b3⟩ := hB
  refine wp_region_noPanic (wp_region_held_drew (S := S) hm hS fun _ => ?_)
  have hk' : lo.toArray[k]? = some ok := by simpa using hk
  exact wpAnyH_of_fl hs (fun _ _ _ _ _ h => h) k ok hk' gk tail b2 l _ _ _ _ b0 b1 b3 hS h
end Go.Proofs.YtefamkckoikeoaaDoor
/- Contract: package tree's Move. Conditions: at most 900 entries, all bytes together at most 2^61, paths shorter than 2^61 bytes. -/
namespace Go.Proofs.YtefamkckoikeoaaDoor
open Go.RowKit
def outI (C : List Ent) (i : Nat) : List Ent := C.take i ++ C.drop (i + 1)
def byT (C : List Ent) (k : Nat) : List (BitVec 8) := ((C[k]?).map Ent.by).getD []
def valT (C : List Ent) (k : Nat) : Value := ((C[k]?).map Ent.val).getD undef
/-- Move, as the program reckons it: v is the value of the new entry's bytes. -/
def moveP (C : List Ent) (f t : ByteArray) (v : Value) : List Ent × Int :=
  if askT C [f, t] ≠ 0 then (C, askT C [f, t]) else if hasT C f.data.toList = false then (C, 5) else if dirT C (posT C f.data.toList) = true then (C, 7) else
  if f.data.toList = t.data.toList then (C, 0) else
  if (putP (outI C (posT C f.data.toList)) t (byT C (posT C f.data.toList)) v).2 ≠ 0 then (C, (putP (outI C (posT C f.data.toList)) t (byT C (posT C f.data.toList)) v).2)
  else ((putP (outI C (posT C f.data.toList)) t (byT C (posT C f.data.toList)) v).1, 0)
theorem split_at {C : List Ent} {i : Nat} (hi : i < C.length) : C = C.take i ++ C[i] :: C.drop (i + 1) := by
  conv => lhs; rw [← List.take_append_drop i C, List.drop_eq_getElem_cons hi]
theorem outI_mem {C : List Ent} {i : Nat} {e : Ent} (h : e ∈ outI C i) : e ∈ C := by
  rcases List.mem_append.1 h with h | h
  · exact List.mem_of_mem_take h
  · exact List.mem_of_mem_drop h
theorem outI_sub {C : List Ent} {i : Nat} (hi : i < C.length) : (outI C i).Sublist C := by
  conv => rhs; rw [split_at hi]
  exact (List.Sublist.refl _).append (List.sublist_cons_self _ _)
theorem outI_len {C : List Ent} {i : Nat} (hi : i < C.length) : (outI C i).length + 1 = C.length := by
  unfold outI
  rw [List.length_append, List.length_take, List.length_drop]; omega
theorem outI_bytes {C : List Ent} {i : Nat} (hi : i < C.length) : bytesT (outI C i) + C[i].by.length = bytesT C := by
  conv => rhs; rw [split_at hi]
  unfold outI
  rw [bytesT_app', bytesT_app', bytesT_cons]; omega
theorem dirT_at {C : List Ent} {i : Nat} (hi : i < C.length) : dirT C i = C[i].dir := by
  unfold dirT; rw [List.getElem?_eq_getElem hi]; rfl
theorem byT_at {C : List Ent} {i : Nat} (hi : i < C.length) : byT C i = C[i].by := by
  unfold byT; rw [List.getElem?_eq_getElem hi]; rfl
theorem valT_at {C : List Ent} {i : Nat} (hi : i < C.length) : valT C i = C[i].val := by
  unfold valT; rw [List.getElem?_eq_getElem hi]; rfl
theorem ResT.own {w : World} {b b0 : Nat} {old v : Value} {D X : List Ent} (h : ResT w b old D v X) (h0 : OwnT w b0 old D) (hb : b0 ≤ b) : OwnT w b0 v X := by
  rcases h.1 with ⟨rfl, rfl⟩ | h
  · exact h0
  · exact h.less hb
theorem ResT.ents {w : World} {b b0 : Nat} {old v : Value} {C D X : List Ent} (h : ResT w b old D v X) (hD : ∀ y ∈ D, y ∈ C) (hb : b0 ≤ b) : ∀ y ∈ X, y ∈ C ∨ OwnB w b0 y :=
  fun y hy => (h.2 y hy).imp (hD y) fun h => h.less hb
noncomputable def chkMv : Array Oper := regOf Tryd.f14.body 11
set_option maxRecDepth 100000 in
theorem chkMv_ok : flOk [(0, true), (1, true), (3, true), (4, true), (5, true), (6, true), (7, true), (8, true), (9, true), (2, false), (10, false), (11, true), (12, true), (13, true)] 14 [(15, false), (16, true)] chkMv = true := by kernel_rfl
set_option maxHeartbeats 16000000 in
set_option maxRecDepth 100000 in
theorem tmove_any (C : List Ent) (q : Option Addr) (c : Nat) (f t : ByteArray) (hm : C.length ≤ 900) (hcap : C.length ≤ c) (hq : q = none → c = 0) (hb : bytesT C ≤ 2305843009213693952) (hn : ∀ e ∈ C, e.1.size < 9223372036854775808) (hf : f.size < 2305843009213693952) (ht : t.size < 2305843009213693952)
    (w : World) (hs : Sees w w.heap.size q (rowC C)) (hE : Ents w C) :
    Calls Tryd.prog 14 #[.agg #[.slice q C.length c], .string f, .string t] w fun e w' => (∃ v v5, e = .returned (.tuple #[.agg #[v], .int .i64 (moveP C f t v5).2]) ∧ TrV w' v (moveP C f t v5).1 ∧ Ents w' (moveP C f t v5).1) ∧ Below w.heap.size w w' := by
  have HAK : Hid (∀ w1 (_ : Below w.heap.size w w1) q2 (_ : Sees w1 w1.heap.size q2 ([f, t].map Value.string)), Calls Tryd.prog 41 #[.agg #[.slice q C.length c], .slice q2 2 2] w1 fun e w' => e = .returned (.int .i64 (askT C [f, t])) ∧ Below w1.heap.size w1 w') :=
    Lib.hid (fun w1 h q2 h2 => tasked_any C q c [f, t] q2 2 (by omega) hcap (by omega) hn (by simp) (fun p hp => by
      rcases List.mem_cons.1 hp with rfl | hp
      · omega
      · rw [List.mem_singleton.1 hp]; omega) w1 ((hs.keep h).more h.size) (hE.keep h) h2)
  have HWH := Lib.hid (fun (hA : AscE C) w1 (h : Below w.heap.size w w1) => twhere_any C q c f (by omega) hn (by omega) (hA.up _) w1 ((hs.keep h).more h.size))
  have HWO : Hid (hasT C f.data.toList = true → ∀ w1, Below w.heap.size w w1 → Calls Tryd.prog 50 #[.agg #[.slice q C.length c], .int .i64 (posT C f.data.toList : Int)] w1 fun e w' => (∃ v, e = .returned (.agg #[v]) ∧ OwnT w' w1.heap.size v (outI C (posT C f.data.toList))) ∧ Below w1.heap.size w1 w') :=
    Lib.hid (fun hh w1 h => twithout_any C q c _ (hasT_lt hh) hm hq w1 ((hs.keep h).more h.size) (hE.keep h))
  have HPU : Hid (askT C [f, t] = 0 → hasT C f.data.toList = true → ∀ w1 vD b, Below w.heap.size w w1 → OwnT w1 b vD (outI C (posT C f.data.toList)) → Calls Tryd.prog 47 #[.agg #[vD], .string t, valT C (posT C f.data.toList)] w1 fun e w' =>
      (∃ v2 v5, e = .returned (.tuple #[.agg #[v2], .int .i64 (putP (outI C (posT C f.data.toList)) t (byT C (posT C f.data.toList)) v5).2]) ∧ ResT w' w1.heap.size vD (outI C (posT C f.data.toList)) v2 (putP (outI C (posT C f.data.toList)) t (byT C (posT C f.data.toList)) v5).1) ∧ Below w1.heap.size w1 w') :=
    Lib.hid (fun h0 hh w1 vD b hB hO => by
      have hl := hasT_lt hh
      have hg := (askT_good h0).1
      obtain ⟨qd, cd, rfl, h1, h2, h3⟩ := hO.tr
      obtain ⟨qb, cb, e, h4, h5, h6⟩ := (hE.keep hB) _ (List.getElem_mem hl)
      rw [valT_at hl, e, byT_at hl]
      have h7 := outI_len hl
      have h8 := outI_bytes hl
      exact tput0_any (outI C (posT C f.data.toList)) qd cd t C[posT C f.data.toList].by qb cb (by omega) h1 h2 (by omega) (fun e he => hn e (outI_mem he)) ((goodP_asc hg).sublist (outI_sub hl)) ht h5 (by omega) w1 h3 (fun e he => hE.keep hB e (outI_mem he)) h6)
  have HTR : Hid (∀ w', Below w.heap.size w w' → TrV w' (.slice q C.length c) C ∧ Ents w' C) := Lib.hid (fun w' h => ⟨⟨q, c, rfl, hcap, hq, (hs.keep h).more h.size⟩, hE.keep h⟩)
  have HB : Hid (Below w.heap.size w ((w.alloc (.cells #[.slice q C.length c] 25)).alloc (.cells #[.slice none 0 0] 25))) := Lib.hid (((Below.refl _ _).alloc (Nat.le_refl _) _).alloc (by simp) _)
  have HX : Hid (Has ((w.alloc (.cells #[.slice q C.length c] 25)).alloc (.cells #[.slice none 0 0] 25)) w.heap.size 25 [.slice q C.length c]) := Lib.hid ((Has.made w _ _).alloc _)
  have HY : Hid (Has ((w.alloc (.cells #[.slice q C.length c] 25)).alloc (.cells #[.slice none 0 0] 25)) (w.heap.size + 1) 25 [.slice none 0 0]) := Lib.hid (Has.made1 w _ _ _ _ rfl)
  have HS1 : Hid (Sees (((w.alloc (.cells #[.slice q C.length c] 25)).alloc (.cells #[.slice none 0 0] 25)).alloc (.cells #[.string f, .string t] 9)) (((w.alloc (.cells #[.slice q C.length c] 25)).alloc (.cells #[.slice none 0 0] 25)).alloc (.cells #[.string f, .string t] 9)).heap.size (some ⟨w.heap.size + 1 + 1, 0, none⟩) ([f, t].map Value.string)) := Lib.hid (has_sees (by have h := Has.made1 (w.alloc (.cells #[.slice q C.length c] 25)) (.cells #[.slice none 0 0] 25) 9 #[.string f, .string t] _ rfl; simpa using h))
  have HGD : Hid (askT C [f, t] = 0 → AscE C) := Lib.hid (fun h => goodP_asc (askT_good h).1)
  have HHL : Hid (hasT C f.data.toList = true → posT C f.data.toList < C.length) := Lib.hid (fun h => hasT_lt h)
  have HAT : Hid (∀ h : posT C f.data.toList < C.length, dirT C (posT C f.data.toList) = C[posT C f.data.toList].2.1 ∧ valT C (posT C f.data.toList) = C[posT C f.data.toList].2.2.1) := Lib.hid (fun h => ⟨dirT_at h, valT_at h⟩)
  have HOM : Hid (∀ y ∈ outI C (posT C f.data.toList), y ∈ C) := Lib.hid (fun y hy => outI_mem hy)
  have HSR := Lib.hid hs
  have HV : Hid (∀ v, moveP C f t v = if askT C [f, t] ≠ 0 then (C, askT C [f, t]) else if hasT C f.data.toList = false then (C, 5) else if dirT C (posT C f.data.toList) = true then (C, 7) else
    if f.data.toList = t.data.toList then (C, 0) else
    if (putP (outI C (posT C f.data.toList)) t (byT C (posT C f.data.toList)) v).2 ≠ 0 then (C, (putP (outI C (posT C f.data.toList)) t (byT C (posT C f.data.toList)) v).2)
    else ((putP (outI C (posT C f.data.toList)) t (byT C (posT C f.data.toList)) v).1, 0)) := Lib.hid (fun _ => rfl)
  generalize moveP C f t = MV at *
  generalize putP (outI C (posT C f.data.toList)) t (byT C (posT C f.data.toList)) = PP at *
  generalize outI C (posT C f.data.toList) = D at *
  generalize valT C (posT C f.data.toList) = BV at *
  generalize dirT C (posT C f.data.toList) = DI at *
  generalize askT C [f, t] = AK at *
  generalize hasT C f.data.toList = HS at *
  generalize posT C f.data.toList = PS at *
  clear hs hE hn hq
  go_enter Tryd.func14, Tryd.ntmps14
  go_wp2_with fail
  refine (HAK.out _ (HB.out.alloc HB.out.size _) _ HS1.out).mono ?_
  rintro e w1 ⟨rfl, hb1⟩
  replace HX := Lib.hid ((HX.out.alloc _).keep hb1 (HX.out.alloc _).lt)
  replace HY := Lib.hid ((HY.out.alloc _).keep hb1 (HY.out.alloc _).lt)
  replace HB := Lib.hid ((HB.out.alloc HB.out.size _).trans (hb1.mono (HB.out.alloc HB.out.size _).size))
  have hle : w.heap.size ≤ w.heap.size + 1 := by omega
  clear hb1 HS1 HAK
  by_cases hA : AK = 0
  · subst hA
    have HAS := Lib.hid (HGD.out rfl)
    replace HWH := Lib.hid (HWH.out HAS.out)
    have cx := HX.out.cellv (i := 0) (v := .slice q C.length c) rfl
    clear HGD
    go_wp2_with fail
    refine (HWH.out _ HB.out).mono ?_
    rintro e w2 ⟨rfl, hb1⟩
    replace HB := Lib.hid (HB.out.trans (hb1.mono HB.out.size))
    replace HX := Lib.hid (HX.out.keep hb1 HX.out.lt)
    replace HY := Lib.hid (HY.out.keep hb1 HY.out.lt)
    clear hb1 cx
    cases HS with
    | false =>
      have cx := HX.out.cellv (i := 0) (v := .slice q C.length c) rfl
      have cy := HY.out.cellv (i := 0) (v := .slice none 0 0) rfl
      have fy := HY.out.free 0
      have hv : MV undef = (C, 5) := by rw [HV.out]; simp
      go_wp2_with fail
      have cz : (w2.setCell ⟨w.heap.size + 1, 0, none⟩ (.slice q C.length c)).cell? ⟨w.heap.size + 1, 0, none⟩ = some (.slice q C.length c) := World.cell?_setCell_same' _ _ _ (by rw [cy]; rfl)
      refine bodyPost_ret (by simp [results, Tryd.results14, go_sem, cz]; try rfl) rfl ?_
      have hbz := HB.out.setCell (p := ⟨w.heap.size + 1, 0, none⟩) hle (.slice q C.length c)
      exact ⟨⟨.slice q C.length c, undef, by rw [hv], by rw [hv]; exact HTR.out _ hbz⟩, hbz⟩
    | true =>
      have hps := HHL.out rfl
      obtain ⟨a, rfl, ha, hc⟩ := HSR.out.ent hps
      obtain ⟨hdi, hva⟩ := HAT.out hps
      have kk : (PS : Int) < (C.length : Int) := by omega
      rw [← hdi] at hc
      have cx := HX.out.cellv (i := 0) (v := .slice (some a) C.length c) rfl
      have c2 := (hc w2 HB.out).2.1
      clear hdi HAT
      cases DI with
      | true =>
        clear cx
        have cx := HX.out.cellv (i := 0) (v := .slice (some a) C.length c) rfl
        have cy := HY.out.cellv (i := 0) (v := .slice none 0 0) rfl
        have fy := HY.out.free 0
        have hv : MV undef = (C, 7) := by rw [HV.out]; simp
        go_wp2_with fail
        have cz : (w2.setCell ⟨w.heap.size + 1, 0, none⟩ (.slice (some a) C.length c)).cell? ⟨w.heap.size + 1, 0, none⟩ = some (.slice (some a) C.length c) := World.cell?_setCell_same' _ _ _ (by rw [cy]; rfl)
        refine bodyPost_ret (by simp [results, Tryd.results14, go_sem, cz]; try rfl) rfl ?_
        have hbz := HB.out.setCell (p := ⟨w.heap.size + 1, 0, none⟩) hle (.slice (some a) C.length c)
        exact ⟨⟨.slice (some a) C.length c, undef, by rw [hv], by rw [hv]; exact HTR.out _ hbz⟩, hbz⟩
      | false =>
        by_cases heq : f.data.toList = t.data.toList
        · have kf : (f.toList == t.toList) = true := by rw [Lib.toList_data, Lib.toList_data, heq]; simp
          clear cx
          have cx := HX.out.cellv (i := 0) (v := .slice (some a) C.length c) rfl
          have cy := HY.out.cellv (i := 0) (v := .slice none 0 0) rfl
          have fy := HY.out.free 0
          have hv : MV undef = (C, 0) := by rw [HV.out]; simp [heq]
          go_wp2_with fail
          have cz : (w2.setCell ⟨w.heap.size + 1, 0, none⟩ (.slice (some a) C.length c)).cell? ⟨w.heap.size + 1, 0, none⟩ = some (.slice (some a) C.length c) := World.cell?_setCell_same' _ _ _ (by rw [cy]; rfl)
          refine bodyPost_ret (by simp [results, Tryd.results14, go_sem, cz]; try rfl) rfl ?_
          have hbz := HB.out.setCell (p := ⟨w.heap.size + 1, 0, none⟩) hle (.slice (some a) C.length c)
          exact ⟨⟨.slice (some a) C.length c, undef, by rw [hv], by rw [hv]; exact HTR.out _ hbz⟩, hbz⟩
        have kf : (f.toList == t.toList) = false := by rw [Lib.toList_data, Lib.toList_data]; simpa using heq
        replace HWO := Lib.hid (HWO.out rfl)
        replace HPU := Lib.hid (HPU.out (by simp) (by simp))
        rw [hva] at HPU
        go_wp2_with fail
        refine wp_region_fl [(0, true), (1, true), (3, true), (4, true), (5, true), (6, true), (7, true), (8, true), (9, true), (2, false), (10, false), (11, true), (12, true), (13, true)] 14 [(15, false), (16, true)] _ rfl rfl (by kernel_rfl) (by kernel_rfl) _ chkMv_ok rfl (fun w' => Below w.heap.size w w' ∧ Has w' w.heap.size 25 [.slice (some a) C.length c]) ⟨HB.out.drew, HX.out.drew⟩ ?_
        replace HB := Lib.hid HB.out.drew
        replace HX := Lib.hid HX.out.drew
        replace HY := Lib.hid HY.out.drew
        generalize w2.drew = wd at *
        have HYD := Lib.hid HY.out.lt
        simp only [pickOrs, List.getElem?_cons_zero, List.getElem?_cons_succ]
        refine fl_pure (v := ?_) (by kernel_rfl) ?_ ?_
        rotate_left
        · intro w' hv; have cx := hv.2.cellv (i := 0) (v := .slice (some a) C.length c) rfl; clear hv; go_simp; try with_reducible rfl
        try simp only [Act.put, List.setIfInBounds_toArray, List.set_cons_zero, List.set_cons_succ]
        refine fl_pure (v := ?_) (by kernel_rfl) ?_ ?_
        rotate_left
        · intro w' hv; clear hv; go_simp; try with_reducible rfl
        try simp only [Act.put, List.setIfInBounds_toArray, List.set_cons_zero, List.set_cons_succ]
        refine fl_pure (v := ?_) (by kernel_rfl) ?_ ?_
        rotate_left
        · intro w' hv; clear hv; go_simp; try with_reducible rfl
        try simp only [Act.put, List.setIfInBounds_toArray, List.set_cons_zero, List.set_cons_succ]
        refine fl_pure (v := ?_) (by kernel_rfl) ?_ ?_
        rotate_left
        · intro w' hv; clear hv; go_simp; try with_reducible rfl
        try simp only [Act.put, List.setIfInBounds_toArray, List.set_cons_zero, List.set_cons_succ]
        refine fl_pure (v := ?_) (by kernel_rfl) ?_ ?_
        rotate_left
        · intro w' hv; have cx := hv.2.cellv (i := 0) (v := .slice (some a) C.length c) rfl; clear hv; go_simp; try with_reducible rfl
        try simp only [Act.put, List.setIfInBounds_toArray, List.set_cons_zero, List.set_cons_succ]
        refine fl_pure (v := ?_) (by kernel_rfl) ?_ ?_
        rotate_left
        · intro w' hv; clear hv; go_simp; try with_reducible rfl
        try simp only [Act.put, List.setIfInBounds_toArray, List.set_cons_zero, List.set_cons_succ]
        refine fl_pure (v := ?_) (by kernel_rfl) ?_ ?_
        rotate_left
        · intro w' hv; clear hv; go_simp; try with_reducible rfl
        try simp only [Act.put, List.setIfInBounds_toArray, List.set_cons_zero, List.set_cons_succ]
        refine fl_pure (v := ?_) (by kernel_rfl) ?_ ?_
        rotate_left
        · intro w' hv; clear hv; go_simp; try with_reducible rfl
        try simp only [Act.put, List.setIfInBounds_toArray, List.set_cons_zero, List.set_cons_succ]
        refine fl_pure (v := ?_) (by kernel_rfl) ?_ ?_
        rotate_left
        · intro w' hv; have c2 := (hc w' hv.1).2.1; have c3 := (hc w' hv.1).2.2; clear hv; go_simp; try with_reducible rfl
        try simp only [Act.put, List.setIfInBounds_toArray, List.set_cons_zero, List.set_cons_succ]
        refine fl_step rfl (fun K hK => ?_) (fun K hK => ?_)
        · skip
          go_wp2_with fail
          refine (HWO.out _ HB.out).mono ?_
          rintro e w4 ⟨⟨vD, rfl, hO4⟩, hb1⟩
          replace HB := Lib.hid (HB.out.trans (hb1.mono HB.out.size))
          replace HX := Lib.hid (HX.out.keep hb1 HX.out.lt)
          replace HY := Lib.hid (HY.out.keep hb1 HY.out.lt)
          obtain ⟨xD, mD, kD, rfl⟩ := own_slice' hO4
          have HOD : Hid (OwnT w4 wd.heap.size (.slice xD mD kD) D) := Lib.hid (hO4.less (Nat.le_refl _))
          have HOE : Hid (OwnT w4 wd.heap.size (.slice xD mD kD) D) := Lib.hid hO4
          have HZ4 : Hid (wd.heap.size ≤ w4.heap.size) := Lib.hid (Nat.le_trans (Nat.le_refl _) hb1.size)
          have HZ5 : Hid (wd.heap.size ≤ w4.heap.size) := Lib.hid hb1.size
          refine hK _ _ ⟨⟨HB.out, HX.out⟩, ?_⟩
          clear hb1 hO4 hK
          try simp only [Act.put, List.setIfInBounds_toArray, List.set_cons_zero, List.set_cons_succ]
          refine fl_step rfl (fun K hK => ?_) (fun K hK => ?_)
          · skip
            go_wp2_with fail
            refine (HPU.out _ _ _ HB.out HOD.out).mono ?_
            rintro e w5 ⟨⟨v2, v5, rfl, hR5⟩, hb1⟩
            obtain ⟨x2, m2, k2, rfl⟩ := hR5.slice
            replace HB := Lib.hid (HB.out.trans (hb1.mono HB.out.size))
            replace HX := Lib.hid (HX.out.keep hb1 HX.out.lt)
            replace HY := Lib.hid (HY.out.keep hb1 HY.out.lt)
            have HOD2 : Hid (OwnT w5 wd.heap.size (.slice xD mD kD) D) := Lib.hid (HOD.out.keep hb1)
            have HRS : Hid (ResT w5 w4.heap.size (.slice xD mD kD) D (.slice x2 m2 k2) (PP v5).1) := Lib.hid hR5
            have HBP : Hid (Below w4.heap.size w4 w5) := Lib.hid hb1
            refine hK _ _ ⟨⟨HB.out, HX.out⟩, ?_⟩
            clear hb1 hR5 hK
            try simp only [Act.put, List.setIfInBounds_toArray, List.set_cons_zero, List.set_cons_succ]
            refine fl_pure (v := ?_) (by kernel_rfl) ?_ ?_
            rotate_left
            · intro w' hv; clear hv; go_simp; try with_reducible rfl
            try simp only [Act.put, List.setIfInBounds_toArray, List.set_cons_zero, List.set_cons_succ]
            refine fl_pure (v := ?_) (by kernel_rfl) ?_ ?_
            rotate_left
            · intro w' hv; clear hv; go_simp; try with_reducible rfl
            try simp only [Act.put, List.setIfInBounds_toArray, List.set_cons_zero, List.set_cons_succ]
            refine fl_pure (v := ?_) (by kernel_rfl) ?_ ?_
            rotate_left
            · intro w' hv; clear hv; go_simp; try with_reducible rfl
            try simp only [Act.put, List.setIfInBounds_toArray, List.set_cons_zero, List.set_cons_succ]
            refine fl_nil (fun K hK => ?_)
            go_wp2_with fail
            have HBA : Hid (Below w5.heap.size w5 (w5.alloc (.cells #[.slice none 0 0] 25))) := Lib.hid ((Below.refl _ _).alloc (Nat.le_refl _) _)
            have HG : Hid (Has (w5.alloc (.cells #[.slice none 0 0] 25)) w5.heap.size 25 [.slice none 0 0]) := Lib.hid (Has.made w5 _ _)
            have HGS : Hid (w5.heap.size < (w5.alloc (.cells #[.slice none 0 0] 25)).heap.size) := Lib.hid HG.out.lt
            have HGY : Hid (w.heap.size + 1 < w5.heap.size) := Lib.hid HY.out.lt
            replace HB := Lib.hid (HB.out.alloc HB.out.size (.cells #[.slice none 0 0] 25))
            replace HX := Lib.hid (HX.out.alloc (.cells #[.slice none 0 0] 25))
            replace HY := Lib.hid (HY.out.alloc (.cells #[.slice none 0 0] 25))
            refine ⟨⟨HB.out, HX.out⟩, ?_⟩
            generalize hWA : w5.alloc (.cells #[.slice none 0 0] 25) = w6 at *
            try simp only [Act.put, List.setIfInBounds_toArray, List.set_cons_zero, List.set_cons_succ]
            have HF : Hid (OwnT (w6.setCell ⟨w5.heap.size, 0, none⟩ (.slice x2 m2 k2)) wd.heap.size (.slice x2 m2 k2) (PP v5).1 ∧ ∀ y ∈ (PP v5).1, y ∈ C ∨ OwnB (w6.setCell ⟨w5.heap.size, 0, none⟩ (.slice x2 m2 k2)) wd.heap.size y) := Lib.hid (by
              have hB6 : Below w5.heap.size w5 (w6.setCell ⟨w5.heap.size, 0, none⟩ (.slice x2 m2 k2)) := HBA.out.setCell (p := ⟨w5.heap.size, 0, none⟩) (Nat.le_refl _) _
              refine ⟨(HRS.out.own HOD2.out HZ4.out).keep hB6, fun y hy => ?_⟩
              exact (HRS.out.ents HOM.out HZ4.out y hy).imp id fun h => h.keep hB6)
            have cg := HG.out.cellv (i := 0) (v := .slice none 0 0) rfl
            have fg := HG.out.free 0
            have HBN : Hid (Below w.heap.size w (w6.setCell ⟨w5.heap.size, 0, none⟩ (.slice x2 m2 k2))) := Lib.hid (HB.out.setCell (p := ⟨w5.heap.size, 0, none⟩) (by have := HGY.out; show w.heap.size ≤ w5.heap.size; omega) _)
            have HXN : Hid (Has (w6.setCell ⟨w5.heap.size, 0, none⟩ (.slice x2 m2 k2)) w.heap.size 25 [.slice (some a) C.length c]) := Lib.hid (HX.out.off (by have := HGY.out; show w.heap.size ≠ w5.heap.size; omega) _)
            have HYN : Hid (Has (w6.setCell ⟨w5.heap.size, 0, none⟩ (.slice x2 m2 k2)) (w.heap.size + 1) 25 [.slice none 0 0]) := Lib.hid (HY.out.off (by have := HGY.out; show w.heap.size + 1 ≠ w5.heap.size; omega) _)
            have HGN : Hid (Has (w6.setCell ⟨w5.heap.size, 0, none⟩ (.slice x2 m2 k2)) w5.heap.size 25 [.slice x2 m2 k2]) := Lib.hid (HG.out.put 0 _)
            refine ors_step (by kernel_rfl) (fun K hK => ?_)
            go_wp2_with fail
            refine ⟨⟨HBN.out, HXN.out⟩, ?_⟩
            generalize w6.setCell ⟨w5.heap.size, 0, none⟩ (.slice x2 m2 k2) = wz at *
            clear cg fg HB HX HY HG
            try simp only [Act.put, List.setIfInBounds_toArray, List.set_cons_zero, List.set_cons_succ]
            refine ors_pure (v := ?_) (by kernel_rfl) ?_ ?_
            rotate_left
            · intro w' hv; clear hv; go_simp; try with_reducible rfl
            try simp only [Act.put, List.setIfInBounds_toArray, List.set_cons_zero, List.set_cons_succ]
            refine ors_nil ?_
            have HVV := Lib.hid (HV.out v5)
            generalize PP v5 = R at *
            obtain ⟨X, E⟩ := R
            simp only [] at HF HVV ⊢
            have HB := HBN
            have HX := HXN
            have HY := HYN
            have cy := HYN.out.cellv (i := 0) (v := .slice none 0 0) rfl
            have fy := HYN.out.free 0
            by_cases hx : E = 0
            · subst hx
              have cg := HGN.out.cellv (i := 0) (v := .slice x2 m2 k2) rfl
              have hv : MV v5 = (X, 0) := by rw [HVV.out]; simp [heq]
              go_wp2_with fail
              have cz : (wz.setCell ⟨w.heap.size + 1, 0, none⟩ (.slice x2 m2 k2)).cell? ⟨w.heap.size + 1, 0, none⟩ = some (.slice x2 m2 k2) := World.cell?_setCell_same' _ _ _ (by rw [cy]; rfl)
              refine bodyPost_ret (by simp [results, Tryd.results14, go_sem, cz]; try rfl) rfl ?_
              have hbz := HB.out.setCell (p := ⟨w.heap.size + 1, 0, none⟩) hle (.slice x2 m2 k2)
              refine ⟨⟨.slice x2 m2 k2, v5, by rw [hv], ?_, ?_⟩, hbz⟩
              · rw [hv]
                exact (HF.out.1.set (p := ⟨w.heap.size + 1, 0, none⟩) HYD.out _).tr
              · rw [hv]
                intro y hy
                rcases HF.out.2 y hy with h | h
                · exact (HTR.out _ hbz).2 y h
                · exact (h.set (o := 0) HYD.out (.slice x2 m2 k2)).bs
            · have kA : (E = 0) = False := eq_false hx
              have kAb : (E == 0) = false := by simpa using hx
              have kAn : (E != 0) = true := by simpa using hx
              have cx := HXN.out.cellv (i := 0) (v := .slice (some a) C.length c) rfl
              have hv : MV v5 = (C, E) := by rw [HVV.out]; simp [heq, hx]
              go_wp2_with fail
              have cz : (wz.setCell ⟨w.heap.size + 1, 0, none⟩ (.slice (some a) C.length c)).cell? ⟨w.heap.size + 1, 0, none⟩ = some (.slice (some a) C.length c) := World.cell?_setCell_same' _ _ _ (by rw [cy]; rfl)
              refine bodyPost_ret (by simp [results, Tryd.results14, go_sem, cz]; try rfl) rfl ?_
              have hbz := HB.out.setCell (p := ⟨w.heap.size + 1, 0, none⟩) hle (.slice (some a) C.length c)
              exact ⟨⟨.slice (some a) C.length c, v5, by rw [hv], by rw [hv]; exact HTR.out _ hbz⟩, hbz⟩
          · skip
            go_wp2_with fail
            have HBA : Hid (Below w4.heap.size w4 (w4.alloc (.cells #[.slice none 0 0] 25))) := Lib.hid ((Below.refl _ _).alloc (Nat.le_refl _) _)
            have HG : Hid (Has (w4.alloc (.cells #[.slice none 0 0] 25)) w4.heap.size 25 [.slice none 0 0]) := Lib.hid (Has.made w4 _ _)
            have HGS : Hid (w4.heap.size < (w4.alloc (.cells #[.slice none 0 0] 25)).heap.size) := Lib.hid HG.out.lt
            have HGY : Hid (w.heap.size + 1 < w4.heap.size) := Lib.hid HY.out.lt
            replace HB := Lib.hid (HB.out.alloc HB.out.size (.cells #[.slice none 0 0] 25))
            replace HX := Lib.hid (HX.out.alloc (.cells #[.slice none 0 0] 25))
            replace HY := Lib.hid (HY.out.alloc (.cells #[.slice none 0 0] 25))
            refine ⟨⟨HB.out, HX.out⟩, ?_⟩
            generalize hWA : w4.alloc (.cells #[.slice none 0 0] 25) = w5 at *
            try simp only [Act.put, List.setIfInBounds_toArray, List.set_cons_zero, List.set_cons_succ]
            refine ors_step (by kernel_rfl) (fun K hK => ?_)
            have HO4 := HOD
            have HZ6 : Hid (wd.heap.size ≤ w5.heap.size) := Lib.hid (Nat.le_trans HZ4.out (Nat.le_of_lt HGS.out))
            replace HOD : Hid (OwnT w5 wd.heap.size (.slice xD mD kD) D) := Lib.hid (HOD.out.keep HBA.out)
            go_wp2_with fail
            refine (HPU.out _ _ _ HB.out HOD.out).mono ?_
            rintro e w6 ⟨⟨v2, v5, rfl, hR5⟩, hb1⟩
            obtain ⟨x2, m2, k2, rfl⟩ := hR5.slice
            replace HB := Lib.hid (HB.out.trans (hb1.mono HB.out.size))
            replace HX := Lib.hid (HX.out.keep hb1 HX.out.lt)
            replace HY := Lib.hid (HY.out.keep hb1 HY.out.lt)
            have HOD2 : Hid (OwnT w6 wd.heap.size (.slice xD mD kD) D) := Lib.hid (HOD.out.keep hb1)
            have HRS : Hid (ResT w6 w5.heap.size (.slice xD mD kD) D (.slice x2 m2 k2) (PP v5).1) := Lib.hid hR5
            have HBP : Hid (Below w5.heap.size w5 w6) := Lib.hid hb1
            refine hK _ _ ⟨⟨HB.out, HX.out⟩, ?_⟩
            clear hb1 hR5 hK
            try simp only [Act.put, List.setIfInBounds_toArray, List.set_cons_zero, List.set_cons_succ]
            refine ors_pure (v := ?_) (by kernel_rfl) ?_ ?_
            rotate_left
            · intro w' hv; clear hv; go_simp; try with_reducible rfl
            try simp only [Act.put, List.setIfInBounds_toArray, List.set_cons_zero, List.set_cons_succ]
            refine ors_pure (v := ?_) (by kernel_rfl) ?_ ?_
            rotate_left
            · intro w' hv; clear hv; go_simp; try with_reducible rfl
            try simp only [Act.put, List.setIfInBounds_toArray, List.set_cons_zero, List.set_cons_succ]
            refine ors_pure (v := ?_) (by kernel_rfl) ?_ ?_
            rotate_left
            · intro w' hv; clear hv; go_simp; try with_reducible rfl
            try simp only [Act.put, List.setIfInBounds_toArray, List.set_cons_zero, List.set_cons_succ]
            replace HG := Lib.hid (HG.out.keep HBP.out HGS.out)
            have HF : Hid (OwnT (w6.setCell ⟨w4.heap.size, 0, none⟩ (.slice x2 m2 k2)) wd.heap.size (.slice x2 m2 k2) (PP v5).1 ∧ ∀ y ∈ (PP v5).1, y ∈ C ∨ OwnB (w6.setCell ⟨w4.heap.size, 0, none⟩ (.slice x2 m2 k2)) wd.heap.size y) := Lib.hid (by
              have hB6 : Below w4.heap.size w4 (w6.setCell ⟨w4.heap.size, 0, none⟩ (.slice x2 m2 k2)) := (HBA.out.trans (HBP.out.mono HBA.out.size)).setCell (p := ⟨w4.heap.size, 0, none⟩) (Nat.le_refl _) _
              have hR := HRS.out.set (o := 0) HGS.out (.slice x2 m2 k2)
              exact ⟨hR.own (HO4.out.keep hB6) HZ6.out, hR.ents HOM.out HZ6.out⟩)
            have cg := HG.out.cellv (i := 0) (v := .slice none 0 0) rfl
            have fg := HG.out.free 0
            have HBN : Hid (Below w.heap.size w (w6.setCell ⟨w4.heap.size, 0, none⟩ (.slice x2 m2 k2))) := Lib.hid (HB.out.setCell (p := ⟨w4.heap.size, 0, none⟩) (by have := HGY.out; show w.heap.size ≤ w4.heap.size; omega) _)
            have HXN : Hid (Has (w6.setCell ⟨w4.heap.size, 0, none⟩ (.slice x2 m2 k2)) w.heap.size 25 [.slice (some a) C.length c]) := Lib.hid (HX.out.off (by have := HGY.out; show w.heap.size ≠ w4.heap.size; omega) _)
            have HYN : Hid (Has (w6.setCell ⟨w4.heap.size, 0, none⟩ (.slice x2 m2 k2)) (w.heap.size + 1) 25 [.slice none 0 0]) := Lib.hid (HY.out.off (by have := HGY.out; show w.heap.size + 1 ≠ w4.heap.size; omega) _)
            have HGN : Hid (Has (w6.setCell ⟨w4.heap.size, 0, none⟩ (.slice x2 m2 k2)) w4.heap.size 25 [.slice x2 m2 k2]) := Lib.hid (HG.out.put 0 _)
            refine ors_step (by kernel_rfl) (fun K hK => ?_)
            go_wp2_with fail
            refine ⟨⟨HBN.out, HXN.out⟩, ?_⟩
            generalize w6.setCell ⟨w4.heap.size, 0, none⟩ (.slice x2 m2 k2) = wz at *
            clear cg fg HB HX HY HG
            try simp only [Act.put, List.setIfInBounds_toArray, List.set_cons_zero, List.set_cons_succ]
            refine ors_pure (v := ?_) (by kernel_rfl) ?_ ?_
            rotate_left
            · intro w' hv; clear hv; go_simp; try with_reducible rfl
            try simp only [Act.put, List.setIfInBounds_toArray, List.set_cons_zero, List.set_cons_succ]
            refine ors_nil ?_
            have HVV := Lib.hid (HV.out v5)
            generalize PP v5 = R at *
            obtain ⟨X, E⟩ := R
            simp only [] at HF HVV ⊢
            have HB := HBN
            have HX := HXN
            have HY := HYN
            have cy := HYN.out.cellv (i := 0) (v := .slice none 0 0) rfl
            have fy := HYN.out.free 0
            by_cases hx : E = 0
            · subst hx
              have cg := HGN.out.cellv (i := 0) (v := .slice x2 m2 k2) rfl
              have hv : MV v5 = (X, 0) := by rw [HVV.out]; simp [heq]
              go_wp2_with fail
              have cz : (wz.setCell ⟨w.heap.size + 1, 0, none⟩ (.slice x2 m2 k2)).cell? ⟨w.heap.size + 1, 0, none⟩ = some (.slice x2 m2 k2) := World.cell?_setCell_same' _ _ _ (by rw [cy]; rfl)
              refine bodyPost_ret (by simp [results, Tryd.results14, go_sem, cz]; try rfl) rfl ?_
              have hbz := HB.out.setCell (p := ⟨w.heap.size + 1, 0, none⟩) hle (.slice x2 m2 k2)
              refine ⟨⟨.slice x2 m2 k2, v5, by rw [hv], ?_, ?_⟩, hbz⟩
              · rw [hv]
                exact (HF.out.1.set (p := ⟨w.heap.size + 1, 0, none⟩) HYD.out _).tr
              · rw [hv]
                intro y hy
                rcases HF.out.2 y hy with h | h
                · exact (HTR.out _ hbz).2 y h
                · exact (h.set (o := 0) HYD.out (.slice x2 m2 k2)).bs
            · have kA : (E = 0) = False := eq_false hx
              have kAb : (E == 0) = false := by simpa using hx
              have kAn : (E != 0) = true := by simpa using hx
              have cx := HXN.out.cellv (i := 0) (v := .slice (some a) C.length c) rfl
              have hv : MV v5 = (C, E) := by rw [HVV.out]; simp [heq, hx]
              go_wp2_with fail
              have cz : (wz.setCell ⟨w.heap.size + 1, 0, none⟩ (.slice (some a) C.length c)).cell? ⟨w.heap.size + 1, 0, none⟩ = some (.slice (some a) C.length c) := World.cell?_setCell_same' _ _ _ (by rw [cy]; rfl)
              refine bodyPost_ret (by simp [results, Tryd.results14, go_sem, cz]; try rfl) rfl ?_
              have hbz := HB.out.setCell (p := ⟨w.heap.size + 1, 0, none⟩) hle (.slice (some a) C.length c)
              exact ⟨⟨.slice (some a) C.length c, v5, by rw [hv], by rw [hv]; exact HTR.out _ hbz⟩, hbz⟩
        · skip
          go_wp2_with fail
          have HBA : Hid (Below wd.heap.size wd (wd.alloc (.cells #[.slice none 0 0] 25))) := Lib.hid ((Below.refl _ _).alloc (Nat.le_refl _) _)
          have HG : Hid (Has (wd.alloc (.cells #[.slice none 0 0] 25)) wd.heap.size 25 [.slice none 0 0]) := Lib.hid (Has.made wd _ _)
          have HGS : Hid (wd.heap.size < (wd.alloc (.cells #[.slice none 0 0] 25)).heap.size) := Lib.hid HG.out.lt
          have HGY : Hid (w.heap.size + 1 < wd.heap.size) := Lib.hid HY.out.lt
          replace HB := Lib.hid (HB.out.alloc HB.out.size (.cells #[.slice none 0 0] 25))
          replace HX := Lib.hid (HX.out.alloc (.cells #[.slice none 0 0] 25))
          replace HY := Lib.hid (HY.out.alloc (.cells #[.slice none 0 0] 25))
          refine ⟨⟨HB.out, HX.out⟩, ?_⟩
          generalize hWA : wd.alloc (.cells #[.slice none 0 0] 25) = w4 at *
          try simp only [Act.put, List.setIfInBounds_toArray, List.set_cons_zero, List.set_cons_succ]
          refine ors_step (by kernel_rfl) (fun K hK => ?_)
          go_wp2_with fail
          refine (HWO.out _ HB.out).mono ?_
          rintro e w5 ⟨⟨vD, rfl, hO4⟩, hb1⟩
          replace HB := Lib.hid (HB.out.trans (hb1.mono HB.out.size))
          replace HX := Lib.hid (HX.out.keep hb1 HX.out.lt)
          replace HY := Lib.hid (HY.out.keep hb1 HY.out.lt)
          obtain ⟨xD, mD, kD, rfl⟩ := own_slice' hO4
          have HOD : Hid (OwnT w5 wd.heap.size (.slice xD mD kD) D) := Lib.hid (hO4.less (Nat.le_of_lt HGS.out))
          have HOE : Hid (OwnT w5 w4.heap.size (.slice xD mD kD) D) := Lib.hid hO4
          have HZ4 : Hid (wd.heap.size ≤ w5.heap.size) := Lib.hid (Nat.le_trans (Nat.le_of_lt HGS.out) hb1.size)
          have HBW : Hid (Below w4.heap.size w4 w5) := Lib.hid hb1
          have HZ5 : Hid (w4.heap.size ≤ w5.heap.size) := Lib.hid hb1.size
          refine hK _ _ ⟨⟨HB.out, HX.out⟩, ?_⟩
          clear hb1 hO4 hK
          try simp only [Act.put, List.setIfInBounds_toArray, List.set_cons_zero, List.set_cons_succ]
          replace HG := Lib.hid (HG.out.keep (b := w4.heap.size) HBW.out HGS.out)
          refine ors_step (by kernel_rfl) (fun K hK => ?_)
          go_wp2_with fail
          refine (HPU.out _ _ _ HB.out HOD.out).mono ?_
          rintro e w6 ⟨⟨v2, v5, rfl, hR5⟩, hb1⟩
          obtain ⟨x2, m2, k2, rfl⟩ := hR5.slice
          replace HB := Lib.hid (HB.out.trans (hb1.mono HB.out.size))
          replace HX := Lib.hid (HX.out.keep hb1 HX.out.lt)
          replace HY := Lib.hid (HY.out.keep hb1 HY.out.lt)
          have HOD2 : Hid (OwnT w6 wd.heap.size (.slice xD mD kD) D) := Lib.hid (HOD.out.keep hb1)
          have HRS : Hid (ResT w6 w5.heap.size (.slice xD mD kD) D (.slice x2 m2 k2) (PP v5).1) := Lib.hid hR5
          have HBP : Hid (Below w5.heap.size w5 w6) := Lib.hid hb1
          refine hK _ _ ⟨⟨HB.out, HX.out⟩, ?_⟩
          clear hb1 hR5 hK
          try simp only [Act.put, List.setIfInBounds_toArray, List.set_cons_zero, List.set_cons_succ]
          refine ors_pure (v := ?_) (by kernel_rfl) ?_ ?_
          rotate_left
          · intro w' hv; clear hv; go_simp; try with_reducible rfl
          try simp only [Act.put, List.setIfInBounds_toArray, List.set_cons_zero, List.set_cons_succ]
          refine ors_pure (v := ?_) (by kernel_rfl) ?_ ?_
          rotate_left
          · intro w' hv; clear hv; go_simp; try with_reducible rfl
          try simp only [Act.put, List.setIfInBounds_toArray, List.set_cons_zero, List.set_cons_succ]
          refine ors_pure (v := ?_) (by kernel_rfl) ?_ ?_
          rotate_left
          · intro w' hv; clear hv; go_simp; try with_reducible rfl
          try simp only [Act.put, List.setIfInBounds_toArray, List.set_cons_zero, List.set_cons_succ]
          replace HG := Lib.hid (HG.out.keep HBP.out (Nat.lt_of_lt_of_le HGS.out HZ5.out))
          have HF : Hid (OwnT (w6.setCell ⟨wd.heap.size, 0, none⟩ (.slice x2 m2 k2)) wd.heap.size (.slice x2 m2 k2) (PP v5).1 ∧ ∀ y ∈ (PP v5).1, y ∈ C ∨ OwnB (w6.setCell ⟨wd.heap.size, 0, none⟩ (.slice x2 m2 k2)) wd.heap.size y) := Lib.hid (by
            have hR := HRS.out.set (g := wd.heap.size) (o := 0) (Nat.lt_of_lt_of_le HGS.out HZ5.out) (.slice x2 m2 k2)
            have hO : OwnT (w6.setCell ⟨wd.heap.size, 0, none⟩ (.slice x2 m2 k2)) w4.heap.size (.slice xD mD kD) D := (HOE.out.keep HBP.out).set (p := ⟨wd.heap.size, 0, none⟩) HGS.out _
            exact ⟨(hR.own hO HZ5.out).less (Nat.le_of_lt HGS.out), hR.ents HOM.out HZ4.out⟩)
          have cg := HG.out.cellv (i := 0) (v := .slice none 0 0) rfl
          have fg := HG.out.free 0
          have HBN : Hid (Below w.heap.size w (w6.setCell ⟨wd.heap.size, 0, none⟩ (.slice x2 m2 k2))) := Lib.hid (HB.out.setCell (p := ⟨wd.heap.size, 0, none⟩) (by have := HGY.out; show w.heap.size ≤ wd.heap.size; omega) _)
          have HXN : Hid (Has (w6.setCell ⟨wd.heap.size, 0, none⟩ (.slice x2 m2 k2)) w.heap.size 25 [.slice (some a) C.length c]) := Lib.hid (HX.out.off (by have := HGY.out; show w.heap.size ≠ wd.heap.size; omega) _)
          have HYN : Hid (Has (w6.setCell ⟨wd.heap.size, 0, none⟩ (.slice x2 m2 k2)) (w.heap.size + 1) 25 [.slice none 0 0]) := Lib.hid (HY.out.off (by have := HGY.out; show w.heap.size + 1 ≠ wd.heap.size; omega) _)
          have HGN : Hid (Has (w6.setCell ⟨wd.heap.size, 0, none⟩ (.slice x2 m2 k2)) wd.heap.size 25 [.slice x2 m2 k2]) := Lib.hid (HG.out.put 0 _)
          refine ors_step (by kernel_rfl) (fun K hK => ?_)
          go_wp2_with fail
          refine ⟨⟨HBN.out, HXN.out⟩, ?_⟩
          generalize w6.setCell ⟨wd.heap.size, 0, none⟩ (.slice x2 m2 k2) = wz at *
          clear cg fg HB HX HY HG
          try simp only [Act.put, List.setIfInBounds_toArray, List.set_cons_zero, List.set_cons_succ]
          refine ors_pure (v := ?_) (by kernel_rfl) ?_ ?_
          rotate_left
          · intro w' hv; clear hv; go_simp; try with_reducible rfl
          try simp only [Act.put, List.setIfInBounds_toArray, List.set_cons_zero, List.set_cons_succ]
          refine ors_nil ?_
          have HVV := Lib.hid (HV.out v5)
          generalize PP v5 = R at *
          obtain ⟨X, E⟩ := R
          simp only [] at HF HVV ⊢
          have HB := HBN
          have HX := HXN
          have HY := HYN
          have cy := HYN.out.cellv (i := 0) (v := .slice none 0 0) rfl
          have fy := HYN.out.free 0
          by_cases hx : E = 0
          · subst hx
            have cg := HGN.out.cellv (i := 0) (v := .slice x2 m2 k2) rfl
            have hv : MV v5 = (X, 0) := by rw [HVV.out]; simp [heq]
            go_wp2_with fail
            have cz : (wz.setCell ⟨w.heap.size + 1, 0, none⟩ (.slice x2 m2 k2)).cell? ⟨w.heap.size + 1, 0, none⟩ = some (.slice x2 m2 k2) := World.cell?_setCell_same' _ _ _ (by rw [cy]; rfl)
            refine bodyPost_ret (by simp [results, Tryd.results14, go_sem, cz]; try rfl) rfl ?_
            have hbz := HB.out.setCell (p := ⟨w.heap.size + 1, 0, none⟩) hle (.slice x2 m2 k2)
            refine ⟨⟨.slice x2 m2 k2, v5, by rw [hv], ?_, ?_⟩, hbz⟩
            · rw [hv]
              exact (HF.out.1.set (p := ⟨w.heap.size + 1, 0, none⟩) HYD.out _).tr
            · rw [hv]
              intro y hy
              rcases HF.out.2 y hy with h | h
              · exact (HTR.out _ hbz).2 y h
              · exact (h.set (o := 0) HYD.out (.slice x2 m2 k2)).bs
          · have kA : (E = 0) = False := eq_false hx
            have kAb : (E == 0) = false := by simpa using hx
            have kAn : (E != 0) = true := by simpa using hx
            have cx := HXN.out.cellv (i := 0) (v := .slice (some a) C.length c) rfl
            have hv : MV v5 = (C, E) := by rw [HVV.out]; simp [heq, hx]
            go_wp2_with fail
            have cz : (wz.setCell ⟨w.heap.size + 1, 0, none⟩ (.slice (some a) C.length c)).cell? ⟨w.heap.size + 1, 0, none⟩ = some (.slice (some a) C.length c) := World.cell?_setCell_same' _ _ _ (by rw [cy]; rfl)
            refine bodyPost_ret (by simp [results, Tryd.results14, go_sem, cz]; try rfl) rfl ?_
            have hbz := HB.out.setCell (p := ⟨w.heap.size + 1, 0, none⟩) hle (.slice (some a) C.length c)
            exact ⟨⟨.slice (some a) C.length c, v5, by rw [hv], by rw [hv]; exact HTR.out _ hbz⟩, hbz⟩
  · have kA : (AK = 0) = False := eq_false hA
    have kAb : (AK == 0) = false := by simpa using hA
    have kAn : (AK != 0) = true := by simpa using hA
    have cx := HX.out.cellv (i := 0) (v := .slice q C.length c) rfl
    have cy := HY.out.cellv (i := 0) (v := .slice none 0 0) rfl
    have fy := HY.out.free 0
    have hv : MV undef = (C, AK) := by rw [HV.out, if_pos hA]
    go_wp2_with fail
    have cz : (w1.setCell ⟨w.heap.size + 1, 0, none⟩ (.slice q C.length c)).cell? ⟨w.heap.size + 1, 0, none⟩ = some (.slice q C.length c) := World.cell?_setCell_same' _ _ _ (by rw [cy]; rfl)
    refine bodyPost_ret (by simp [results, Tryd.results14, go_sem, cz]; try rfl) rfl ?_
    have hbz := HB.out.setCell (p := ⟨w.heap.size + 1, 0, none⟩) hle (.slice q C.length c)
    exact ⟨⟨.slice q C.length c, undef, by rw [hv], by rw [hv]; exact HTR.out _ hbz⟩, hbz⟩
end Go.Proofs.YtefamkckoikeoaaDoor
/- Contracts: the document's own Remove, Move. Conditions: at most 50000 entries, paths of at most 2^20 bytes, all bytes together at most 2^61. -/
namespace Go.Proofs.YtefamkckoikeoaaDoor
open Go.RowKit
def underAny (C : List Ent) (p : Tx) : Bool := C.any fun e => underL e.pa p
def removeT (C : List Ent) (p : Tx) : List Ent × Int :=
  if rerrT C p ≠ 0 then (C, rerrT C p) else if underAny C p = true then (C, 8) else (withoutT C p, 0)
theorem withoutT_mem {C : List Ent} {p : Tx} {e : Ent} (h : e ∈ withoutT C p) : e ∈ C := (List.mem_filter.1 h).1
set_option maxHeartbeats 4000000 in
set_option maxRecDepth 100000 in
theorem rremove_any (C : List Ent) (q : Option Addr) (c : Nat) (p : ByteArray) (hm : C.length ≤ 50000) (hcap : C.length ≤ c) (hq : q = none → c = 0) (hp : p.size ≤ 1048576) (hb : bytesT C ≤ 2305843009213693952) (hn : ∀ e ∈ C, e.1.size ≤ 1048576) (w : World) (hs : Sees w w.heap.size q (rowC C)) (hE : Ents w C) :
    Calls Tryd.prog 89 #[.slice q C.length c, .string p] w fun e w' => (∃ v, e = .returned (.tuple #[v, .int .i64 (removeT C p.data.toList).2]) ∧ TrV w' v (removeT C p.data.toList).1 ∧ Ents w' (removeT C p.data.toList).1) ∧ Below w.heap.size w w' := by
  have HT : Hid (∀ w', Below w.heap.size w w' → TrV w' (.slice q C.length c) C ∧ Ents w' C) := Lib.hid (fun w' h => ⟨⟨q, c, rfl, hcap, hq, (hs.keep h).more h.size⟩, hE.keep h⟩)
  have HS := Lib.hid hs
  have HE := Lib.hid hE
  have HN := Lib.hid hn
  have HFI := Lib.hid (rfind_any C q c p hm hp hb hn w hs hE)
  have HU := Lib.hid (fun x (h : x.size ≤ 1048576) w1 => runder_any x p h hp w1)
  have HWO := Lib.hid (fun w1 h1 h2 => rwithout_any C q c p (by omega) w1 h1 h2)
  have HWE : Hid (∀ w1, Ents w1 C → Ents w1 (withoutT C p.data.toList)) := Lib.hid (fun w1 h e he => h e (withoutT_mem he))
  have HV : Hid (removeT C p.data.toList = if rerrT C p.data.toList ≠ 0 then (C, rerrT C p.data.toList) else if underAny C p.data.toList = true then (C, 8) else (withoutT C p.data.toList, 0)) := Lib.hid rfl
  generalize removeT C p.data.toList = V at *
  generalize rerrT C p.data.toList = RE at *
  generalize withoutT C p.data.toList = WT at *
  clear hs hE hn hcap hq
  go_enter Tryd.func89, Tryd.ntmps89
  go_wp2_with fail
  refine HFI.out.mono ?_
  rintro e w1 ⟨⟨⟨x, d, bv, bb⟩, rfl, hbs, _⟩, hb1⟩
  obtain ⟨qb, cb, hv, _, _, _⟩ := hbs
  have hv' : bv = .slice qb (List.length bb) cb := hv
  subst hv'
  have HB : Hid (Below w.heap.size w (w1.alloc (.cells #[.string x, .bool d, .slice qb bb.length cb] 110))) := Lib.hid (hb1.alloc hb1.size _)
  clear hb1 hv HFI
  simp only [entV]
  by_cases hr : RE = 0
  · subst hr
    go_wp2_with fail
    generalize w1.alloc (.cells #[.string x, .bool d, .slice qb bb.length cb] 110) = W1 at *
    have HBW := HB
    clear HB
    go_loopw [8] (fun vi wr => ∃ i : Nat, i ≤ C.length ∧ vi = .int .i64 i ∧ underAny (C.take i) p.data.toList = false ∧ Below w.heap.size w wr) (fun vi _ => C.length - (intOf vi).toNat)
    case atStart => exact ⟨0, by omega, rfl, rfl, HBW.out⟩
    case round =>
      obtain ⟨i, hi, rfl, hu, hB⟩ := hrel
      have HB := Lib.hid hB
      have HUN := Lib.hid hu
      clear hB hu HBW
      by_cases hlt : i < C.length
      · obtain ⟨a, rfl, ha, hc⟩ := HS.out.ent hlt
        obtain ⟨c1, c2, c3⟩ := hc wr HB.out
        have hsz := HN.out C[i] (List.getElem_mem hlt)
        have kk : (i : Int) < (C.length : Int) := by omega
        have hnx : underAny (C.take (i + 1)) p.data.toList = (underAny (C.take i) p.data.toList || underL C[i].pa p.data.toList) := by
          unfold underAny
          rw [List.take_add_one, List.getElem?_eq_getElem hlt, List.any_append]
          simp
        have hin : underL C[i].pa p.data.toList = true → underAny C p.data.toList = true := fun h => List.any_eq_true.2 ⟨C[i], List.getElem_mem hlt, h⟩
        have HNX := Lib.hid hnx
        have HIN := Lib.hid hin
        obtain ⟨e, he⟩ : ∃ e, C[i] = e := ⟨_, rfl⟩
        rw [he] at c1 c2 c3 hsz HNX HIN
        obtain ⟨y, dy, vy, yb⟩ := e
        have HUU := Lib.hid (HU.out y hsz)
        simp only [] at c1 c2 c3
        clear hc ha he hnx hin hsz c2 c3
        have hey : Ent.pa (y, dy, vy, yb) = y.data.toList := rfl
        rw [hey] at HNX HIN
        clear hey
        generalize hU : underL y.data.toList p.data.toList = U at *
        clear hU
        go_wp2_with fail
        refine (HUU.out _).mono ?_
        rintro e w2 ⟨rfl, hb1⟩
        replace HB := Lib.hid (HB.out.trans (hb1.mono HB.out.size))
        clear hb1 c1
        cases U with
        | true =>
          obtain rfl : V = (C, 8) := by rw [HV.out]; simp [HIN.out rfl]
          go_wp2_with fail
          go_ret2
          exact ⟨⟨.slice (some a) C.length c, rfl, HT.out _ HB.out⟩, HB.out⟩
        | false =>
          have HUN2 : Hid (underAny (C.take (i + 1)) p.data.toList = false) := Lib.hid (by rw [HNX.out, HUN.out]; rfl)
          go_wp2_with fail
          go_roundw
          case rel => exact ⟨i + 1, by omega, by go_num, HUN2.out, HB.out⟩
          case measure => simp [intOf]; omega
      · have hil : i = C.length := by omega
        subst hil
        have k0 : ¬ (C.length : Int) < (C.length : Int) := by omega
        rw [List.take_length] at HUN
        obtain rfl : V = (WT, 0) := by rw [HV.out]; simp [HUN.out]
        clear hlt
        go_wp2_with fail
        refine (HWO.out _ ((HS.out.keep HB.out).more HB.out.size) (HE.out.keep HB.out)).mono ?_
        rintro e w2 ⟨⟨v, rfl, hTW⟩, hb1⟩
        replace HB := Lib.hid (HB.out.trans (hb1.mono HB.out.size))
        have HTW := Lib.hid hTW
        clear hb1 hTW
        go_wp2_with fail
        go_ret2
        exact ⟨⟨v, rfl, HTW.out, HWE.out _ (HE.out.keep HB.out)⟩, HB.out⟩
  · have kA : (RE = 0) = False := eq_false hr
    have kAb : (RE == 0) = false := by simpa using hr
    have kAn : (RE != 0) = true := by simpa using hr
    obtain rfl : V = (C, RE) := by rw [HV.out, if_pos hr]
    go_wp2_with fail
    go_ret2
    exact ⟨⟨.slice q C.length c, rfl, HT.out _ HB.out⟩, HB.out⟩
def rmoveT (C : List Ent) (f t : ByteArray) (v : Value) : List Ent × Int :=
  if goodT C = false then (C, 1) else if okPath f.data.toList = false then (C, 4) else if okPath t.data.toList = false then (C, 4) else
  if rerrT C f.data.toList ≠ 0 then (C, rerrT C f.data.toList) else if dirT C (atT C f.data.toList).toNat = true then (C, 7) else if f.data.toList = t.data.toList then (C, 0) else
  if (putT (withoutT C f.data.toList) t (byT C (atT C f.data.toList).toNat) v).2 ≠ 0 then (C, (putT (withoutT C f.data.toList) t (byT C (atT C f.data.toList).toNat) v).2)
  else ((putT (withoutT C f.data.toList) t (byT C (atT C f.data.toList).toNat) v).1, 0)
theorem good_by {C : List Ent} (hg : goodP C = true) : ∀ e ∈ C, e.by.length ≤ 2048 := fun e he => by
  obtain ⟨_, _, h3, _⟩ := (goodP_iff C).1 hg
  have := h3 e he
  unfold okEnt at this
  rw [Bool.and_eq_true, Bool.and_eq_true, decide_eq_true_eq] at this
  exact this.2.2
set_option maxHeartbeats 16000000 in
set_option maxRecDepth 100000 in
theorem rmove_any (C : List Ent) (q : Option Addr) (c : Nat) (f t : ByteArray) (hm : C.length ≤ 50000) (hcap : C.length ≤ c) (hq : q = none → c = 0) (hf : f.size ≤ 1048576) (ht : t.size ≤ 1048576) (hb : bytesT C ≤ 2305843009213693952) (hn : ∀ e ∈ C, e.1.size ≤ 1048576) (w : World) (hs : Sees w w.heap.size q (rowC C)) (hE : Ents w C) :
    Calls Tryd.prog 90 #[.slice q C.length c, .string f, .string t] w fun e w' => (∃ v v5, e = .returned (.tuple #[v, .int .i64 (rmoveT C f t v5).2]) ∧ TrV w' v (rmoveT C f t v5).1 ∧ Ents w' (rmoveT C f t v5).1) ∧ Below w.heap.size w w' := by
  have HT : Hid (∀ w', Below w.heap.size w w' → TrV w' (.slice q C.length c) C ∧ Ents w' C) := Lib.hid (fun w' h => ⟨⟨q, c, rfl, hcap, hq, (hs.keep h).more h.size⟩, hE.keep h⟩)
  have HSE : Hid (∀ w', Below w.heap.size w w' → Sees w' w'.heap.size q (rowC C) ∧ Ents w' C) := Lib.hid (fun w' h => ⟨(hs.keep h).more h.size, hE.keep h⟩)
  have HGT := Lib.hid (rgt_any C q c (by omega) (by omega) hn w hs hE)
  have HGF := Lib.hid (fun w1 => rgood_any f hf w1)
  have HGO := Lib.hid (fun w1 => rgood_any t ht w1)
  have HFI := Lib.hid (fun w1 h1 h2 => rfind_any C q c f hm hf hb hn w1 h1 h2)
  have HWO := Lib.hid (fun w1 h1 h2 => rwithout_any C q c f (by omega) w1 h1 h2)
  have HWE : Hid (∀ w1, Ents w1 C → Ents w1 (withoutT C f.data.toList)) := Lib.hid (fun w1 h e he => h e (withoutT_mem he))
  have HAT : Hid (rerrT C f.data.toList = 0 → ∀ h : (atT C f.data.toList).toNat < C.length, dirT C (atT C f.data.toList).toNat = C[(atT C f.data.toList).toNat].2.1 ∧ byT C (atT C f.data.toList).toNat = C[(atT C f.data.toList).toNat].by ∧ C[(atT C f.data.toList).toNat].by.length ≤ 2048) := Lib.hid (fun h0 h => ⟨dirT_at h, byT_at h, by
    have hg : goodP C = true := by
      rw [← goodT_P]
      unfold rerrT at h0
      cases hg : goodT C with
      | true => rfl
      | false => rw [hg] at h0; simp at h0
    exact good_by hg _ (List.getElem_mem h)⟩)
  have HPU : Hid (∀ (bb : List (BitVec 8)) qb cb qd cd w1, bb.length ≤ 2048 → (qb = none → cb = 0) → (withoutT C f.data.toList).length ≤ cd → (qd = none → cd = 0) → Sees w1 w1.heap.size qd (rowC (withoutT C f.data.toList)) → Ents w1 C → Sees w1 w1.heap.size qb (bb.map u8v) →
      Calls Tryd.prog 87 #[.slice qd (withoutT C f.data.toList).length cd, .string t, .slice qb bb.length cb] w1 fun e w' => (∃ v v5, e = .returned (.tuple #[v, .int .i64 (putT (withoutT C f.data.toList) t bb v5).2]) ∧ TrV w' v (putT (withoutT C f.data.toList) t bb v5).1 ∧ Ents w' (putT (withoutT C f.data.toList) t bb v5).1) ∧ Below w1.heap.size w1 w') :=
    Lib.hid (fun bb qb cb qd cd w1 h1 h2 h3 h4 h5 h6 h7 => by
      have hl : (withoutT C f.data.toList).length ≤ C.length := List.length_filter_le _ _
      have hbb : bytesT (withoutT C f.data.toList) ≤ bytesT C := bytesT_filter C _
      exact rput_any (withoutT C f.data.toList) qd cd t bb qb cb (by omega) h3 h4 ht (by omega) (fun e he => hn e (withoutT_mem he)) (by omega) h2 w1 h5 (fun e he => h6 e (withoutT_mem he)) h7)
  have HV : Hid (∀ v, rmoveT C f t v = if goodT C = false then (C, 1) else if okPath f.data.toList = false then (C, 4) else if okPath t.data.toList = false then (C, 4) else
    if rerrT C f.data.toList ≠ 0 then (C, rerrT C f.data.toList) else if dirT C (atT C f.data.toList).toNat = true then (C, 7) else if f.data.toList = t.data.toList then (C, 0) else
    if (putT (withoutT C f.data.toList) t (byT C (atT C f.data.toList).toNat) v).2 ≠ 0 then (C, (putT (withoutT C f.data.toList) t (byT C (atT C f.data.toList).toNat) v).2)
    else ((putT (withoutT C f.data.toList) t (byT C (atT C f.data.toList).toNat) v).1, 0)) := Lib.hid (fun _ => rfl)
  have HRF : Hid (∀ r, RFind C f.data.toList r → rerrT C f.data.toList = 0 → ∃ h : (atT C f.data.toList).toNat < C.length, r = C[(atT C f.data.toList).toNat]) := Lib.hid (fun r h h0 => by
    rcases h with ⟨_, h⟩ | ⟨h, _⟩
    · exact h
    · exact absurd h0 h)
  generalize rmoveT C f t = MV at *
  generalize rerrT C f.data.toList = RE at *
  generalize RFind C f.data.toList = RF at *
  generalize goodT C = G0 at *
  generalize okPath f.data.toList = GF at *
  generalize okPath t.data.toList = GO at *
  generalize withoutT C f.data.toList = D at *
  clear hs hE hn hcap hq
  go_enter Tryd.func90, Tryd.ntmps90
  go_wp2_with fail
  refine HGT.out.mono ?_
  rintro e w1 ⟨rfl, hb1⟩
  have HB := Lib.hid hb1
  clear hb1
  cases G0 with
  | false =>
    have hv : MV undef = (C, 1) := by rw [HV.out]; simp
    have hvv := HT.out _ HB.out
    go_wp2_with fail
    go_ret2
    exact ⟨⟨.slice q C.length c, undef, by rw [hv]; rfl, by rw [hv]; exact hvv⟩, HB.out⟩
  | true =>
  go_wp2_with fail
  refine (HGF.out _).mono ?_
  rintro e w2 ⟨rfl, hb1⟩
  replace HB := Lib.hid (HB.out.trans (hb1.mono HB.out.size))
  clear hb1
  cases GF with
  | false =>
    have hv : MV undef = (C, 4) := by rw [HV.out]; simp
    have hvv := HT.out _ HB.out
    go_wp2_with fail
    go_ret2
    exact ⟨⟨.slice q C.length c, undef, by rw [hv]; rfl, by rw [hv]; exact hvv⟩, HB.out⟩
  | true =>
  go_wp2_with fail
  refine (HGO.out _).mono ?_
  rintro e w3 ⟨rfl, hb1⟩
  replace HB := Lib.hid (HB.out.trans (hb1.mono HB.out.size))
  clear hb1
  cases GO with
  | false =>
    have hv : MV undef = (C, 4) := by rw [HV.out]; simp
    have hvv := HT.out _ HB.out
    go_wp2_with fail
    go_ret2
    exact ⟨⟨.slice q C.length c, undef, by rw [hv]; rfl, by rw [hv]; exact hvv⟩, HB.out⟩
  | true =>
  go_wp2_with fail
  obtain ⟨hs3, hE3⟩ := HSE.out _ HB.out
  refine (HFI.out _ hs3 hE3).mono ?_
  clear hs3 hE3
  rintro e w4 ⟨⟨⟨x, d, bv, bb⟩, rfl, hbs, hrf⟩, hb1⟩
  obtain ⟨qb, cb, hv, hcb, hqb, hsb⟩ := hbs
  have hv' : bv = .slice qb (List.length bb) cb := hv
  subst hv'
  replace HB := Lib.hid (HB.out.trans (hb1.mono HB.out.size))
  have HSB : Hid (Sees (w4.alloc (.cells #[.string x, .bool d, .slice qb bb.length cb] 110)) (w4.alloc (.cells #[.string x, .bool d, .slice qb bb.length cb] 110)).heap.size qb (bb.map u8v)) := Lib.hid ((hsb.keep ((Below.refl _ w4).alloc (Nat.le_refl _) _)).more (by simp))
  have HQB := Lib.hid hqb
  have HRR := Lib.hid (HRF.out _ hrf)
  replace HB : Hid (Below w.heap.size w (w4.alloc (.cells #[.string x, .bool d, .slice qb bb.length cb] 110))) := Lib.hid (HB.out.alloc HB.out.size _)
  have HY : Hid (Has (w4.alloc (.cells #[.string x, .bool d, .slice qb bb.length cb] 110)) w4.heap.size 110 [.string x, .bool d, .slice qb bb.length cb]) := Lib.hid (Has.made w4 _ _)
  clear hb1 hv hrf hcb hqb hsb
  simp only [entV]
  by_cases hr : RE = 0
  · subst hr
    obtain ⟨hlt, hre⟩ := HRR.out rfl
    obtain ⟨hdi, hby, hbl⟩ := HAT.out rfl hlt
    rw [← hre] at hdi hby hbl
    have hdi' : dirT C (atT C f.data.toList).toNat = d := hdi
    have hby' : byT C (atT C f.data.toList).toNat = bb := hby
    have hbl' : bb.length ≤ 2048 := hbl
    rw [hdi', hby'] at HV
    clear hre hdi hby hbl hdi' hby' HRR HAT
    cases d with
    | true =>
      have hv : MV undef = (C, 7) := by rw [HV.out]; simp
      have hvv := HT.out _ HB.out
      go_wp2_with fail
      go_ret2
      exact ⟨⟨.slice q C.length c, undef, by rw [hv]; rfl, by rw [hv]; exact hvv⟩, HB.out⟩
    | false =>
      by_cases heq : f.data.toList = t.data.toList
      · have kf : (f.toList == t.toList) = true := by rw [Lib.toList_data, Lib.toList_data, heq]; simp
        have hv : MV undef = (C, 0) := by rw [HV.out]; simp [heq]
        have hvv := HT.out _ HB.out
        go_wp2_with fail
        go_ret2
        exact ⟨⟨.slice q C.length c, undef, by rw [hv]; rfl, by rw [hv]; exact hvv⟩, HB.out⟩
      have kf : (f.toList == t.toList) = false := by rw [Lib.toList_data, Lib.toList_data]; simpa using heq
      go_wp2_with fail
      generalize w4.alloc (.cells #[.string x, .bool false, .slice qb bb.length cb] 110) = W4 at *
      generalize w4.heap.size = BY at *
      refine wp_region_org [(0, true), (1, true), (3, true), (4, true), (5, true), (2, false), (6, false), (7, true), (8, true), (9, true), (10, true), (11, true)] (by kernel_rfl) (by kernel_rfl) (by kernel_rfl) ?_
      have hb := (Below.refl W4.heap.size W4).drew
      replace HB := Lib.hid (HB.out.trans (hb.mono HB.out.size))
      replace HY := Lib.hid (HY.out.keep hb HY.out.lt)
      replace HSB := Lib.hid ((HSB.out.keep hb).more hb.size)
      clear hb
      generalize W4.drew = wd at *
      simp only [pickOrs, List.getElem?_cons_zero, List.getElem?_cons_succ]
      refine org_pure (v := ?_) (by kernel_rfl) ?_ ?_
      rotate_left
      · intro w' hv; clear hv; go_simp; try with_reducible rfl
      try simp only [Act.put, List.setIfInBounds_toArray, List.set_cons_zero, List.set_cons_succ]
      refine org_pure (v := ?_) (by kernel_rfl) ?_ ?_
      rotate_left
      · intro w' hv; clear hv; go_simp; try with_reducible rfl
      try simp only [Act.put, List.setIfInBounds_toArray, List.set_cons_zero, List.set_cons_succ]
      refine org_pure (v := ?_) (by kernel_rfl) ?_ ?_
      rotate_left
      · intro w' hv; clear hv; go_simp; try with_reducible rfl
      try simp only [Act.put, List.setIfInBounds_toArray, List.set_cons_zero, List.set_cons_succ]
      refine org_pure (v := ?_) (by kernel_rfl) ?_ ?_
      rotate_left
      · intro w' hv; clear hv; go_simp; try with_reducible rfl
      try simp only [Act.put, List.setIfInBounds_toArray, List.set_cons_zero, List.set_cons_succ]
      refine org_pure (v := ?_) (by kernel_rfl) ?_ ?_
      rotate_left
      · intro w' hv; have cy2 := (HY.out.keep hv HY.out.lt).cellv (i := 2) (v := .slice qb bb.length cb) rfl; clear hv; go_simp; try with_reducible rfl
      try simp only [Act.put, List.setIfInBounds_toArray, List.set_cons_zero, List.set_cons_succ]
      refine org_step (by kernel_rfl) (fun K hK => ?_)
      go_wp2_with fail
      obtain ⟨hs3, hE3⟩ := HSE.out _ HB.out
      refine (HWO.out _ hs3 hE3).mono ?_
      clear hs3 hE3
      rintro e w5 ⟨⟨v5, rfl, ⟨qd, cd, rfl, hd1, hd2, hd3⟩⟩, hb⟩
      have HE2 := Lib.hid hb
      replace HB := Lib.hid (HB.out.trans (hb.mono HB.out.size))
      replace HSB := Lib.hid ((HSB.out.keep hb).more hb.size)
      have HD1 : Hid (D.length ≤ cd ∧ (qd = none → cd = 0)) := Lib.hid ⟨hd1, hd2⟩
      have HSD := Lib.hid hd3
      clear hb hd1 hd2 hd3
      refine hK _ _ ⟨HE2.out, ?_⟩
      clear hK HE2
      try simp only [Act.put, List.setIfInBounds_toArray, List.set_cons_zero, List.set_cons_succ]
      refine org_step (by kernel_rfl) (fun K hK => ?_)
      go_wp2_with fail
      refine (HPU.out bb qb cb qd cd _ hbl' HQB.out HD1.out.1 HD1.out.2 HSD.out (HSE.out _ HB.out).2 HSB.out).mono ?_
      rintro e w6 ⟨⟨v6, v7, rfl, hTR, hER⟩, hb⟩
      have HE2 := Lib.hid hb
      replace HB := Lib.hid (HB.out.trans (hb.mono HB.out.size))
      have HTR := Lib.hid hTR
      have HER := Lib.hid hER
      clear hb hTR hER
      refine hK _ _ ⟨HE2.out, ?_⟩
      clear hK HE2
      try simp only [Act.put, List.setIfInBounds_toArray, List.set_cons_zero, List.set_cons_succ]
      refine org_pure (v := ?_) (by kernel_rfl) ?_ ?_
      rotate_left
      · intro w' hv; clear hv; go_simp; try with_reducible rfl
      try simp only [Act.put, List.setIfInBounds_toArray, List.set_cons_zero, List.set_cons_succ]
      refine org_pure (v := ?_) (by kernel_rfl) ?_ ?_
      rotate_left
      · intro w' hv; clear hv; go_simp; try with_reducible rfl
      try simp only [Act.put, List.setIfInBounds_toArray, List.set_cons_zero, List.set_cons_succ]
      refine org_pure (v := ?_) (by kernel_rfl) ?_ ?_
      rotate_left
      · intro w' hv; clear hv; go_simp; try with_reducible rfl
      try simp only [Act.put, List.setIfInBounds_toArray, List.set_cons_zero, List.set_cons_succ]
      refine org_pure (v := ?_) (by kernel_rfl) ?_ ?_
      rotate_left
      · intro w' hv; clear hv; go_simp; try with_reducible rfl
      try simp only [Act.put, List.setIfInBounds_toArray, List.set_cons_zero, List.set_cons_succ]
      refine org_pure (v := ?_) (by kernel_rfl) ?_ ?_
      rotate_left
      · intro w' hv; clear hv; go_simp; try with_reducible rfl
      try simp only [Act.put, List.setIfInBounds_toArray, List.set_cons_zero, List.set_cons_succ]
      refine org_nil ?_
      have HVV := Lib.hid (HV.out v7)
      generalize putT D t bb v7 = R at *
      obtain ⟨X, E⟩ := R
      simp only [] at HTR HER HVV ⊢
      by_cases hx : E = 0
      · subst hx
        have hv : MV v7 = (X, 0) := by rw [HVV.out]; simp [heq]
        go_wp2_with fail
        go_ret2
        exact ⟨⟨v6, v7, by rw [hv]; rfl, by rw [hv]; exact ⟨HTR.out, HER.out⟩⟩, HB.out⟩
      · have kA : (E = 0) = False := eq_false hx
        have kAb : (E == 0) = false := by simpa using hx
        have kAn : (E != 0) = true := by simpa using hx
        have hv : MV v7 = (C, E) := by rw [HVV.out]; simp [heq, hx]
        have hvv := HT.out _ HB.out
        go_wp2_with fail
        go_ret2
        exact ⟨⟨.slice q C.length c, v7, by rw [hv]; rfl, by rw [hv]; exact hvv⟩, HB.out⟩
  · have kA : (RE = 0) = False := eq_false hr
    have kAb : (RE == 0) = false := by simpa using hr
    have kAn : (RE != 0) = true := by simpa using hr
    have hv : MV undef = (C, RE) := by rw [HV.out]; simp [hr]
    have hvv := HT.out _ HB.out
    go_wp2_with fail
    go_ret2
    exact ⟨⟨.slice q C.length c, undef, by rw [hv]; rfl, by rw [hv]; exact hvv⟩, HB.out⟩
end Go.Proofs.YtefamkckoikeoaaDoor
/- Plain laws: what Move answers of a tree that may be; moved there and back all is as it was. No condition. -/
namespace Go.Proofs.YtefamkckoikeoaaDoor
open Go.RowKit
theorem pos_split {A B : List Ent} {p : Tx} (h1 : ∀ e ∈ A, cmpL e.pa p < 0) (h2 : ∀ e ∈ B, 0 < cmpL e.pa p) : posT (A ++ B) p = A.length ∧ hasT (A ++ B) p = false := by
  have hp : posT (A ++ B) p = A.length := by
    unfold posT
    rw [List.takeWhile_append_of_pos (fun e he => decide_eq_true (h1 e he))]
    cases B with
    | nil => simp
    | cons x B =>
      have := h2 x (List.mem_cons_self ..)
      rw [List.takeWhile_cons, decide_eq_false (by omega)]
      simp
  refine ⟨hp, ?_⟩
  unfold hasT
  rw [hp, List.getElem?_append_right (Nat.le_refl _), Nat.sub_self]
  cases B with
  | nil => rfl
  | cons x B =>
    have := h2 x (List.mem_cons_self ..)
    exact decide_eq_false (by omega)
theorem take_bef {C : List Ent} (hA : AscE C) {i : Nat} (hi : i < C.length) : ∀ e ∈ C.take i, cmpL e.pa C[i].pa < 0 := fun e he => by
  obtain ⟨j, hj, rfl⟩ := List.getElem_of_mem he
  rw [List.length_take] at hj
  rw [List.getElem_take]
  exact hA.lt (by omega) hi (by omega)
theorem drop_aft {C : List Ent} (hA : AscE C) {i : Nat} (hi : i < C.length) : ∀ e ∈ C.drop (i + 1), 0 < cmpL e.pa C[i].pa := fun e he => by
  obtain ⟨j, hj, rfl⟩ := List.getElem_of_mem he
  rw [List.length_drop] at hj
  rw [List.getElem_drop]
  have h := hA.lt hi (show i + 1 + j < C.length by omega) (by omega)
  rw [cmpL_neg]; omega
theorem outI_keeps {C : List Ent} {i : Nat} (hi : i < C.length) {e : Ent} (h : e ∈ C) (hne : e ≠ C[i]) : e ∈ outI C i := by
  rw [split_at hi] at h
  rcases List.mem_append.1 h with h | h
  · exact List.mem_append_left _ h
  · rcases List.mem_cons.1 h with h | h
    · exact absurd h hne
    · exact List.mem_append_right _ h
/-- A file taken out of a tree that may be: it stays one. -/
theorem out_good {C : List Ent} (hg : goodP C = true) {i : Nat} (hi : i < C.length) (hd : C[i].dir = false) : goodP (outI C i) = true := by
  obtain ⟨h1, h2, h3, h4⟩ := (goodP_iff C).1 hg
  have hA : AscE (outI C i) := h2.sublist (outI_sub hi)
  refine (goodP_iff _).2 ⟨?_, hA, fun e he => h3 e (outI_mem he), fun e he => ?_⟩
  · unfold fitsT at h1 ⊢
    rw [Bool.and_eq_true, decide_eq_true_eq, decide_eq_true_eq] at h1 ⊢
    have := outI_len hi
    have := outI_bytes hi
    omega
  · by_cases h0 : upV e.pa = []
    · unfold roomT; rw [if_pos h0]
    · obtain ⟨y, hy, k, hyd⟩ := (room_iff h2 h0).1 (h4 e (outI_mem he))
      exact (room_iff hA h0).2 ⟨y, outI_keeps hi hy (fun k2 => by rw [k2, hd] at hyd; cases hyd), k, hyd⟩
theorem out_room {C : List Ent} (hg : goodP C = true) {i : Nat} (hi : i < C.length) (hd : C[i].dir = false) : roomT (outI C i) C[i].pa = 0 := by
  obtain ⟨h1, h2, h3, h4⟩ := (goodP_iff C).1 hg
  have hA : AscE (outI C i) := h2.sublist (outI_sub hi)
  by_cases h0 : upV C[i].pa = []
  · unfold roomT; rw [if_pos h0]
  · obtain ⟨y, hy, k, hyd⟩ := (room_iff h2 h0).1 (h4 _ (List.getElem_mem hi))
    exact (room_iff hA h0).2 ⟨y, outI_keeps hi hy (fun k2 => by rw [k2, hd] at hyd; cases hyd), k, hyd⟩
/-- Move goes one of three ways. -/
theorem move_ways (C : List Ent) (f t : ByteArray) (v : Value) : ((moveP C f t v).2 ≠ 0 ∧ (moveP C f t v).1 = C) ∨ ((moveP C f t v) = (C, 0) ∧ askT C [f, t] = 0 ∧ hasT C f.data.toList = true ∧ f.data.toList = t.data.toList) ∨
    (askT C [f, t] = 0 ∧ hasT C f.data.toList = true ∧ dirT C (posT C f.data.toList) = false ∧ f.data.toList ≠ t.data.toList ∧
      (putP (outI C (posT C f.data.toList)) t (byT C (posT C f.data.toList)) v).2 = 0 ∧ moveP C f t v = ((putP (outI C (posT C f.data.toList)) t (byT C (posT C f.data.toList)) v).1, 0)) := by
  unfold moveP
  by_cases h1 : askT C [f, t] ≠ 0
  · rw [if_pos h1]; exact .inl ⟨h1, rfl⟩
  · rw [if_neg h1]
    have h1' : askT C [f, t] = 0 := by simpa using h1
    cases h2 : hasT C f.data.toList with
    | false => rw [if_pos rfl]; exact .inl ⟨by simp, rfl⟩
    | true =>
      rw [if_neg (by simp)]
      cases h3 : dirT C (posT C f.data.toList) with
      | true => rw [if_pos rfl]; exact .inl ⟨by simp, rfl⟩
      | false =>
        rw [if_neg (by simp)]
        by_cases h4 : f.data.toList = t.data.toList
        · rw [if_pos h4]; exact .inr (.inl ⟨rfl, h1', rfl, h4⟩)
        · rw [if_neg h4]
          by_cases h5 : (putP (outI C (posT C f.data.toList)) t (byT C (posT C f.data.toList)) v).2 ≠ 0
          · rw [if_pos h5]; exact .inl ⟨h5, rfl⟩
          · rw [if_neg h5]
            exact .inr (.inr ⟨h1', rfl, rfl, h4, by simpa using h5, rfl⟩)
theorem move_err {C : List Ent} {f t : ByteArray} {v : Value} (h : (moveP C f t v).2 ≠ 0) : (moveP C f t v).1 = C := by
  rcases move_ways C f t v with ⟨_, k⟩ | ⟨k, _⟩ | ⟨_, _, _, _, _, k⟩
  · exact k
  · rw [k]
  · rw [k] at h; exact absurd rfl h
theorem move_good {C : List Ent} (hg : goodP C = true) (f t : ByteArray) (v : Value) : goodP (moveP C f t v).1 = true := by
  rcases move_ways C f t v with ⟨_, k⟩ | ⟨k, _⟩ | ⟨ha, hh, hd, _, _, k⟩
  · rw [k]; exact hg
  · rw [k]; exact hg
  · rw [k]
    obtain ⟨hl, _⟩ := has_at hh
    rw [dirT_at hl] at hd
    rcases put_good (out_good hg hl hd) t (byT C (posT C f.data.toList)) v with h | h
    · exact h
    · rw [(askT_good ha).2 t (List.mem_cons_of_mem _ (List.mem_singleton.2 rfl))] at h; cases h
theorem putP_ok {C : List Ent} {p : ByteArray} {b : List (BitVec 8)} {v : Value} (h1 : roomT C p.data.toList = 0) (h2 : hasT C p.data.toList = false) (h3 : b.length ≤ 2048) (h4 : fitsT (putL C (fileE p v b)) = true) : putP C p b v = (putL C (fileE p v b), 0) := by
  unfold putP
  rw [if_neg (by rw [h1]; simp), if_neg (by rw [h2]; simp), if_neg (by omega), if_pos h4]
theorem putL_new {A B : List Ent} {E : Ent} (h1 : ∀ e ∈ A, cmpL e.pa E.pa < 0) (h2 : ∀ e ∈ B, 0 < cmpL e.pa E.pa) : putL (A ++ B) E = A ++ E :: B := by
  obtain ⟨hp, hh⟩ := pos_split h1 h2
  unfold putL
  rw [hp, hh, if_neg (by simp), List.take_left' rfl, List.drop_left' rfl]
theorem likeT_app : ∀ (A : List Ent) {B D : List Ent}, likeT B D = true → likeT (A ++ B) (A ++ D) = true
  | [], _, _, h => h
  | a :: A, B, D, h => by
    show (eqE a a && likeT (A ++ B) (A ++ D)) = true
    rw [likeT_app A h]
    simp [eqE]
/-- There, where nothing was, and back again. -/
theorem move_back {C : List Ent} (hg : goodP C = true) {f t : ByteArray} {v : Value} (he : (moveP C f t v).2 = 0) (hn : (findP C t).2 = 5) :
    (∀ v2, (moveP (moveP C f t v).1 t f v2).2 = 0 ∧ sameT (moveP (moveP C f t v).1 t f v2).1 C = true) ∧ bytesT (moveP C f t v).1 = bytesT C ∧ (moveP C f t v).1.length = C.length := by
  have hG := move_good hg f t v
  obtain ⟨_, hnt⟩ := find_none.1 hn
  rcases move_ways C f t v with ⟨k, _⟩ | ⟨_, _, hh, k⟩ | ⟨ha, hh, hd, hne, hp, k⟩
  · exact absurd he k
  · rw [k, hnt] at hh; cases hh
  · obtain ⟨hl, hat⟩ := has_at hh
    have hd' := hd
    rw [dirT_at hl] at hd'
    have hok := (askT_good ha).2
    have hof := hok f (List.mem_cons_self ..)
    have hot := hok t (List.mem_cons_of_mem _ (List.mem_singleton.2 rfl))
    obtain ⟨g1, g2, g3, g4⟩ := (goodP_iff C).1 hg
    have hgo := out_good hg hl hd'
    obtain ⟨o1, o2, o3, o4⟩ := (goodP_iff _).1 hgo
    have hby := byT_at hl
    rw [put_out hp] at k
    rw [k] at hG ⊢
    simp only []
    simp only [] at hG
    generalize hi : posT C f.data.toList = i at *
    generalize hE : fileE t v (byT C i) = E at *
    have hEp : E.pa = t.data.toList := by rw [← hE]; rfl
    have hEd : E.dir = false := by rw [← hE]; rfl
    have hEb : E.by = C[i].by := by rw [← hE, ← hby]; rfl
    -- nothing stands at t without f
    have hno : hasT (outI C i) E.pa = false := by
      cases h : hasT (outI C i) E.pa with
      | false => rfl
      | true =>
        obtain ⟨y, hy, ky⟩ := (hasT_iff o2).1 h
        have := (hasT_iff g2).2 ⟨y, outI_mem hy, ky.trans hEp⟩
        rw [hnt] at this; cases this
    obtain ⟨x1, x2, x3, x4⟩ := (goodP_iff _).1 hG
    have hpl := posT_le (outI C i) E.pa
    have hXe : putL (outI C i) E = (outI C i).take (posT (outI C i) E.pa) ++ E :: (outI C i).drop (posT (outI C i) E.pa) := by unfold putL; rw [hno, if_neg (by simp)]
    have hlen : ((outI C i).take (posT (outI C i) E.pa)).length = posT (outI C i) E.pa := by rw [List.length_take]; omega
    have hXl : (putL (outI C i) E).length = C.length := by rw [putL_len, hno, if_neg (by simp)]; exact outI_len hl
    have hXb : bytesT (putL (outI C i) E) = bytesT C := by
      rw [hXe, bytesT_app', bytesT_cons, hEb, ← outI_bytes hl]
      have : bytesT (outI C i) = bytesT ((outI C i).take (posT (outI C i) E.pa)) + bytesT ((outI C i).drop (posT (outI C i) E.pa)) := by rw [← bytesT_app', List.take_append_drop]
      omega
    refine ⟨fun v2 => ?_, hXb, hXl⟩
    generalize hj : posT (outI C i) E.pa = j at *
    have hjl : j < (putL (outI C i) E).length := by rw [hXe, List.length_append, List.length_cons, hlen]; omega
    have hjat : (putL (outI C i) E)[j] = E := by
      simp only [hXe]
      rw [List.getElem_append_right (by omega)]
      simp only [hlen, Nat.sub_self, List.getElem_cons_zero]
    obtain ⟨hh2, hp2⟩ := pos_of x2 hjl
    rw [hjat, hEp] at hh2 hp2
    have hout : outI (putL (outI C i) E) j = outI C i := by
      unfold outI
      have e1 : (putL (outI C i) E).take j = (outI C i).take j := by rw [hXe]; exact List.take_left' hlen
      have e2 : (putL (outI C i) E).drop (j + 1) = (outI C i).drop j := by
        rw [hXe, show (outI C i).take j ++ E :: (outI C i).drop j = ((outI C i).take j ++ [E]) ++ (outI C i).drop j by simp]
        exact List.drop_left' (by rw [List.length_append, hlen]; rfl)
      unfold outI at e1 e2
      rw [e1, e2, List.take_append_drop]
    have hby2 : byT (putL (outI C i) E) j = C[i].by := by rw [byT_at hjl, hjat, hEb]
    have hdir2 : dirT (putL (outI C i) E) j = false := by rw [dirT_at hjl, hjat, hEd]
    have hask2 : askT (putL (outI C i) E) [t, f] = 0 := ask_ok hG fun p hp => by
      rcases List.mem_cons.1 hp with rfl | hp
      · exact hot
      · rw [List.mem_singleton.1 hp]; exact hof
    have hb1 := take_bef g2 hl
    have hb2 := drop_aft g2 hl
    rw [hat] at hb1 hb2
    have hFp : (fileE f v2 C[i].by).pa = f.data.toList := rfl
    have hnf : hasT (outI C i) f.data.toList = false := (pos_split hb1 hb2).2
    have hY : putL (outI C i) (fileE f v2 C[i].by) = C.take i ++ fileE f v2 C[i].by :: C.drop (i + 1) := putL_new hb1 hb2
    have hfit : fitsT (putL (outI C i) (fileE f v2 C[i].by)) = true := by
      rw [hY]
      unfold fitsT at g1 ⊢
      have e1 : (C.take i ++ fileE f v2 C[i].by :: C.drop (i + 1)).length = C.length := by
        rw [List.length_append, List.length_cons, List.length_take, List.length_drop]; omega
      have e2 : bytesT (C.take i ++ fileE f v2 C[i].by :: C.drop (i + 1)) = bytesT C := by
        rw [bytesT_app', bytesT_cons, ← outI_bytes hl]
        unfold outI
        rw [bytesT_app']
        have : (fileE f v2 C[i].by).by.length = C[i].by.length := rfl
        omega
      rw [e1, e2]; exact g1
    have hroom : roomT (outI C i) f.data.toList = 0 := by
      have := out_room hg hl hd'
      rw [hat] at this
      exact this
    have hb3 : C[i].by.length ≤ 2048 := by
      have h := g3 _ (List.getElem_mem hl)
      unfold okEnt at h
      rw [Bool.and_eq_true, Bool.and_eq_true, decide_eq_true_eq] at h
      exact h.2.2
    have hput : putP (outI C i) f C[i].by v2 = (putL (outI C i) (fileE f v2 C[i].by), 0) := putP_ok hroom hnf hb3 hfit
    have hmv : moveP (putL (outI C i) E) t f v2 = (putL (outI C i) (fileE f v2 C[i].by), 0) := by
      unfold moveP
      rw [if_neg (by rw [hask2]; simp), hh2, if_neg (by simp), hp2, hdir2, if_neg (by simp), if_neg (fun k => hne k.symm), hout, hby2, hput]
      simp
    have hgY := move_good hG t f v2
    rw [hmv] at hgY ⊢
    refine ⟨rfl, ?_⟩
    unfold sameT
    simp only [] at hgY ⊢
    rw [hgY, hg, hY]
    have hl2 : likeT (C.take i ++ fileE f v2 C[i].by :: C.drop (i + 1)) C = true := by
      refine (congrArg (likeT (C.take i ++ fileE f v2 C[i].by :: C.drop (i + 1))) (split_at hl)).trans (likeT_app _ ?_)
      show (eqE (fileE f v2 C[i].by) C[i] && likeT (C.drop (i + 1)) (C.drop (i + 1))) = true
      rw [likeT_self]
      unfold eqE
      rw [hFp, hat, hd']
      simp [fileE, Ent.dir, Ent.by]
    rw [hl2]; rfl
end Go.Proofs.YtefamkckoikeoaaDoor
/- Plain laws: trees that read alike answer alike; the document's own Find, Remove, Move and the program's are one. No condition. -/
namespace Go.Proofs.YtefamkckoikeoaaDoor
open Go.RowKit
/-- An entry without where its bytes lie. -/
def era1 (e : Ent) : Ent := (e.1, e.2.1, undef, e.2.2.2)
def era (C : List Ent) : List Ent := C.map era1
abbrev Sim (C D : List Ent) : Prop := era C = era D
theorem era_len (C : List Ent) : (era C).length = C.length := List.length_map ..
theorem era_bytes (C : List Ent) : bytesT (era C) = bytesT C := by unfold bytesT era; rw [List.map_map]; rfl
theorem era_pos (C : List Ent) (p : Tx) : posT (era C) p = posT C p := by unfold posT era; rw [List.takeWhile_map, List.length_map]; rfl
theorem era_has (C : List Ent) (p : Tx) : hasT (era C) p = hasT C p := by
  unfold hasT
  rw [era_pos]
  unfold era
  rw [List.getElem?_map]
  cases C[posT C p]? <;> rfl
theorem era_at (p : Tx) : ∀ C : List Ent, atT (era C) p = atT C p
  | [] => rfl
  | e :: C => by
    show (if e.pa = p then (0 : Int) else if atT (era C) p < 0 then -1 else atT (era C) p + 1) = _
    rw [era_at p C]; rfl
theorem era_dir (C : List Ent) (k : Nat) : dirT (era C) k = dirT C k := by
  unfold dirT era
  rw [List.getElem?_map]
  cases C[k]? <;> rfl
theorem era_by (C : List Ent) (k : Nat) : byT (era C) k = byT C k := by
  unfold byT era
  rw [List.getElem?_map]
  cases C[k]? <;> rfl
theorem era_room (C : List Ent) (p : Tx) : roomT (era C) p = roomT C p := by unfold roomT; rw [era_at, era_dir]
theorem era_fits (C : List Ent) : fitsT (era C) = fitsT C := by unfold fitsT; rw [era_len, era_bytes]
theorem era_goodQ : ∀ (C pre : List Ent), goodQ (era pre) (era C) = goodQ pre C
  | [], _ => rfl
  | e :: C, pre => by
    show (okEnt e && (prevB (era pre).getLast? e.pa && (decide (roomT (era pre) e.pa = 0) && goodQ (era pre ++ [era1 e]) (era C)))) = _
    have h1 : era pre ++ [era1 e] = era (pre ++ [e]) := by unfold era; rw [List.map_append]; rfl
    have h2 : prevB (era pre).getLast? e.pa = prevB pre.getLast? e.pa := by
      unfold era
      rw [List.getLast?_map]
      cases pre.getLast? <;> rfl
    rw [h1, h2, era_room, era_goodQ C (pre ++ [e])]
    rfl
theorem era_good (C : List Ent) : goodP (era C) = goodP C := by
  unfold goodP
  rw [era_fits, show goodQ [] (era C) = goodQ [] C from era_goodQ C []]
theorem era_put (C : List Ent) (E : Ent) : era (putL C E) = putL (era C) (era1 E) := by
  unfold putL
  have h1 : (era1 E).pa = E.pa := rfl
  rw [h1, era_pos, era_has]
  unfold era
  rw [List.map_append, List.map_cons, List.map_take, List.map_drop]
theorem era_outI (C : List Ent) (i : Nat) : era (outI C i) = outI (era C) i := by
  unfold outI era
  rw [List.map_append, List.map_take, List.map_drop]
theorem era_outT (C : List Ent) : era (outT C) = outT (era C) := by
  unfold outT era
  rw [List.filter_map]; rfl
theorem era_inT (C : List Ent) (p : Tx) : inT (era C) p = inT C p := by
  unfold inT era
  rw [List.filter_map, List.map_map]; rfl
section
variable {C D : List Ent}
theorem Sim.good (h : Sim C D) : goodP C = goodP D := by rw [← era_good C, h, era_good]
theorem Sim.len (h : Sim C D) : C.length = D.length := by rw [← era_len C, h, era_len]
theorem Sim.bytes (h : Sim C D) : bytesT C = bytesT D := by rw [← era_bytes C, h, era_bytes]
theorem Sim.fits (h : Sim C D) : fitsT C = fitsT D := by rw [← era_fits C, h, era_fits]
theorem Sim.pos (h : Sim C D) (p : Tx) : posT C p = posT D p := by rw [← era_pos C, h, era_pos]
theorem Sim.has (h : Sim C D) (p : Tx) : hasT C p = hasT D p := by rw [← era_has C, h, era_has]
theorem Sim.dir (h : Sim C D) (k : Nat) : dirT C k = dirT D k := by rw [← era_dir C, h, era_dir]
theorem Sim.by_ (h : Sim C D) (k : Nat) : byT C k = byT D k := by rw [← era_by C, h, era_by]
theorem Sim.room (h : Sim C D) (p : Tx) : roomT C p = roomT D p := by rw [← era_room C, h, era_room]
theorem Sim.ask (h : Sim C D) (L : List ByteArray) : askT C L = askT D L := by unfold askT; rw [h.good]
theorem Sim.put (h : Sim C D) {E E' : Ent} (e : era1 E = era1 E') : Sim (putL C E) (putL D E') := by show era _ = era _; rw [era_put, era_put, h, e]
theorem Sim.outI (h : Sim C D) (i : Nat) : Sim (outI C i) (outI D i) := by show era _ = era _; rw [era_outI, era_outI, h]
theorem Sim.find (h : Sim C D) (p : ByteArray) : findP C p = findP D p := by unfold findP; rw [h.ask, h.has, h.pos]
theorem Sim.kids (h : Sim C D) (p : Tx) : kidsP C p = kidsP D p := by
  unfold kidsP
  rw [h.good, ← era_inT C, h, era_inT]
theorem Sim.clean (h : Sim C D) : Sim (cleanP C) (cleanP D) := by
  unfold cleanP
  rw [h.good]
  split
  · show era _ = era _; rw [era_outT, era_outT, h]
  · exact h
theorem Sim.makeP (h : Sim C D) (p : ByteArray) : (makeP C p).2 = (makeP D p).2 ∧ Sim (makeP C p).1 (makeP D p).1 := by
  have hp := h.put (E := dirE p) (E' := dirE p) rfl
  unfold Go.Proofs.YtefamkckoikeoaaDoor.makeP
  rw [h.ask, h.has, h.room, hp.fits]
  split
  · exact ⟨rfl, h⟩
  · split
    · exact ⟨rfl, h⟩
    · split
      · exact ⟨rfl, h⟩
      · split
        · exact ⟨rfl, hp⟩
        · exact ⟨rfl, h⟩
theorem Sim.putP (h : Sim C D) (p : ByteArray) (b : List (BitVec 8)) (v v' : Value) : (putP C p b v).2 = (putP D p b v').2 ∧ Sim (putP C p b v).1 (putP D p b v').1 := by
  have hp := h.put (E := fileE p v b) (E' := fileE p v' b) rfl
  unfold Go.Proofs.YtefamkckoikeoaaDoor.putP
  rw [h.has, h.room, h.pos, h.dir, hp.fits]
  split
  · exact ⟨rfl, h⟩
  · split
    · exact ⟨rfl, h⟩
    · split
      · exact ⟨rfl, h⟩
      · split
        · exact ⟨rfl, hp⟩
        · exact ⟨rfl, h⟩
theorem Sim.puttP (h : Sim C D) (p : ByteArray) (b : List (BitVec 8)) (v v' : Value) : (puttP C p b v).2 = (puttP D p b v').2 ∧ Sim (puttP C p b v).1 (puttP D p b v').1 := by
  have hp := h.putP p b v v'
  unfold Go.Proofs.YtefamkckoikeoaaDoor.puttP
  rw [h.ask]
  split
  · exact ⟨rfl, h⟩
  · exact hp
theorem Sim.removeP (h : Sim C D) (p : ByteArray) : (removeP C p).2 = (removeP D p).2 ∧ Sim (removeP C p).1 (removeP D p).1 := by
  unfold Go.Proofs.YtefamkckoikeoaaDoor.removeP
  rw [h.find, h.kids]
  split
  · exact ⟨rfl, h⟩
  · split
    · exact ⟨rfl, h⟩
    · exact ⟨rfl, h.outI _⟩
theorem Sim.moveP (h : Sim C D) (f t : ByteArray) (v v' : Value) : (moveP C f t v).2 = (moveP D f t v').2 ∧ Sim (moveP C f t v).1 (moveP D f t v').1 := by
  have hp := (h.outI (posT D f.data.toList)).putP t (byT D (posT D f.data.toList)) v v'
  unfold Go.Proofs.YtefamkckoikeoaaDoor.moveP
  rw [h.ask, h.has, h.pos, h.dir, h.by_, hp.1]
  split
  · exact ⟨rfl, h⟩
  · split
    · exact ⟨rfl, h⟩
    · split
      · exact ⟨rfl, h⟩
      · split
        · exact ⟨rfl, h⟩
        · split
          · exact ⟨rfl, h⟩
          · exact ⟨rfl, hp.2⟩
theorem sim_like : ∀ {C D : List Ent}, Sim C D → likeT C D = true
  | [], [], _ => rfl
  | [], y :: D, h => by have := h.len; simp at this
  | x :: C, [], h => by have := h.len; simp at this
  | x :: C, y :: D, h => by
    have h' : era1 x :: era C = era1 y :: era D := h
    injection h' with h1 h2
    show (eqE x y && likeT C D) = true
    rw [sim_like h2]
    have a : x.1 = y.1 := (congrArg (fun e : Ent => e.1) h1 : (era1 x).1 = (era1 y).1)
    have b : x.2.1 = y.2.1 := (congrArg (fun e : Ent => e.2.1) h1 : (era1 x).2.1 = (era1 y).2.1)
    have c : x.2.2.2 = y.2.2.2 := (congrArg (fun e : Ent => e.2.2.2) h1 : (era1 x).2.2.2 = (era1 y).2.2.2)
    unfold eqE Ent.pa Ent.dir Ent.by
    rw [a, b, c]; simp
theorem Sim.get (h : Sim C D) {i : Nat} (hi : i < C.length) (hj : i < D.length) : C[i].1 = D[i].1 ∧ C[i].2.1 = D[i].2.1 ∧ C[i].by = D[i].by := by
  have e : (era C)[i]? = (era D)[i]? := by rw [h]
  unfold era at e
  rw [List.getElem?_map, List.getElem?_map, List.getElem?_eq_getElem hi, List.getElem?_eq_getElem hj] at e
  injection e with e
  have a := (congrArg (fun e : Ent => e.1) e : (era1 C[i]).1 = (era1 D[i]).1)
  have b := (congrArg (fun e : Ent => e.2.1) e : (era1 C[i]).2.1 = (era1 D[i]).2.1)
  have c := (congrArg (fun e : Ent => e.2.2.2) e : (era1 C[i]).2.2.2 = (era1 D[i]).2.2.2)
  exact ⟨a, b, c⟩
end
/-- What Find answers. -/
theorem rerr_P (C : List Ent) (p : ByteArray) : rerrT C p.data.toList = (findP C p).2 := by
  unfold rerrT findP askT
  rw [goodT_P]
  cases hg : goodP C with
  | false => simp
  | true =>
    obtain ⟨_, h2, _, _⟩ := (goodP_iff C).1 hg
    cases hp : okPath p.data.toList with
    | false => simp [hp]
    | true =>
      rcases asc_at h2 p.data.toList with ⟨h3, h4, _⟩ | ⟨h3, h4⟩
      · rw [h3, h4]; simp [hp]
      · rw [h3, h4]; simp [hp]
theorem find_at {C : List Ent} {p : ByteArray} (h : (findP C p).2 = 0) : goodP C = true ∧ okPath p.data.toList = true ∧ hasT C p.data.toList = true ∧ (findP C p).1 = posT C p.data.toList ∧ atT C p.data.toList = (posT C p.data.toList : Int) := by
  unfold findP at h ⊢
  by_cases h0 : askT C [p] ≠ 0
  · rw [if_pos h0] at h; exact absurd h h0
  · rw [if_neg h0] at h ⊢
    obtain ⟨h1, h2⟩ := askT_good (show askT C [p] = 0 by simpa using h0)
    by_cases h3 : hasT C p.data.toList = true
    · rw [if_pos h3]
      obtain ⟨_, h4, _, _⟩ := (goodP_iff C).1 h1
      rcases asc_at h4 p.data.toList with ⟨_, h5, _⟩ | ⟨h5, _⟩
      · exact ⟨h1, h2 p (List.mem_singleton.2 rfl), h3, rfl, h5⟩
      · rw [h3] at h5; cases h5
    · rw [if_neg h3] at h; cases h
theorem withoutT_P {C : List Ent} (hA : AscE C) {p : Tx} (h : hasT C p = true) : withoutT C p = outI C (posT C p) := by
  obtain ⟨hl, hk⟩ := has_at h
  have h1 := take_bef hA hl
  have h2 := drop_aft hA hl
  rw [hk] at h1 h2
  unfold withoutT outI
  conv => lhs; rw [split_at hl]
  rw [List.filter_append, List.filter_cons, if_neg (by rw [hk]; simp)]
  congr 1
  · refine List.filter_eq_self.2 fun e he => ?_
    have := h1 e he
    have hne : e.pa ≠ p := fun k => by rw [k, cmpL_self] at this; omega
    simpa using hne
  · refine List.filter_eq_self.2 fun e he => ?_
    simpa using ne_of_gt (h2 e he)
theorem under_kid {C : List Ent} (hg : goodP C = true) {p : Tx} (hp : okPath p = true) : ∀ (n : Nat) (e : Ent), e.pa.length ≤ n → e ∈ C → underL e.pa p = true → ∃ y ∈ C, upV y.pa = p
  | 0, e, hn, _, hu => by
    obtain ⟨_, r, hr⟩ := (under_iff _ _).1 hu
    rw [hr] at hn; simp at hn
  | n + 1, e, hn, he, hu => by
    obtain ⟨g1, g2, g3, g4⟩ := (goodP_iff C).1 hg
    obtain ⟨ho, r, hr⟩ := (under_iff _ _).1 hu
    have hupv : upV e.pa = upL e.pa := by unfold upV; rw [if_pos ho]
    rcases last_parts r with ⟨hr1, _, _⟩ | ⟨u, b, hr2, hb, _, _⟩
    · refine ⟨e, he, ?_⟩
      rw [hupv, hr]
      exact (up_sep p r hr1).1
    · have hx : e.pa = (p ++ 47 :: u) ++ 47 :: b := by rw [hr, hr2]; simp
      have hup : upV e.pa = p ++ 47 :: u := by rw [hupv, hx]; exact (up_sep _ _ hb).1
      have h0 : upV e.pa ≠ [] := by rw [hup]; simp
      obtain ⟨y, hy, k, _⟩ := (room_iff g2 h0).1 (g4 e he)
      rw [hup] at k
      refine under_kid hg hp n y ?_ hy ((under_iff _ _).2 ⟨okEnt_path (g3 y hy), u, k⟩)
      have : e.pa.length = y.pa.length + 1 + b.length := by rw [hx, k]; simp; omega
      omega
theorem under_kids {C : List Ent} (hg : goodP C = true) {p : Tx} (hp : okPath p = true) : underAny C p = true ↔ 0 < (kidsP C p).length := by
  unfold underAny kidsP inT
  rw [if_pos hg, List.any_eq_true, List.length_map, List.length_pos_iff]
  constructor
  · rintro ⟨e, he, hu⟩ k
    obtain ⟨y, hy, ky⟩ := under_kid hg hp _ e (Nat.le_refl _) he hu
    have : y ∈ C.filter fun e => upV e.pa == p := List.mem_filter.2 ⟨hy, by rw [ky]; simp⟩
    rw [k] at this; cases this
  · intro k
    obtain ⟨e, he⟩ := List.exists_mem_of_ne_nil _ k
    obtain ⟨he, hu⟩ := List.mem_filter.1 he
    have hu' : upV e.pa = p := eq_of_beq hu
    have ho : okPath e.pa = true := okEnt_path (((goodP_iff C).1 hg).2.2.1 e he)
    have hup : upV e.pa = upL e.pa := by unfold upV; rw [if_pos ho]
    rw [hup] at hu'
    refine ⟨e, he, ?_⟩
    have := (up_within ho (by rw [hu']; exact ne_nil_of_ok hp)).1
    rwa [hu'] at this
theorem removeT_P (C : List Ent) (p : ByteArray) : removeT C p.data.toList = removeP C p := by
  unfold removeT removeP
  rw [rerr_P]
  by_cases h0 : (findP C p).2 = 0
  · obtain ⟨hg, hp, hh, hi, _⟩ := find_at h0
    simp only [h0, ne_eq, not_true_eq_false, if_false]
    have hk := under_kids hg hp
    by_cases hu : underAny C p.data.toList = true
    · rw [if_pos hu, if_pos (hk.1 hu)]
    · rw [if_neg hu, if_neg (fun k => hu (hk.2 k)), withoutT_P ((goodP_iff C).1 hg).2.1 hh, hi]; rfl
  · rw [if_pos h0, if_pos h0]
theorem rmoveT_P (C : List Ent) (f t : ByteArray) (v : Value) : rmoveT C f t v = moveP C f t v := by
  unfold rmoveT moveP
  rw [goodT_P, rerr_P]
  cases hg : goodP C with
  | false =>
    have ha : askT C [f, t] = 1 := by unfold askT; rw [hg]; simp
    rw [ha]; simp
  | true =>
    obtain ⟨_, h2, _, _⟩ := (goodP_iff C).1 hg
    have ha : askT C [f, t] = if (okPath f.data.toList && okPath t.data.toList) = true then 0 else 4 := by unfold askT; rw [hg]; simp
    rw [ha]
    cases hf : okPath f.data.toList with
    | false => simp
    | true =>
      cases ht : okPath t.data.toList with
      | false => simp
      | true =>
        have hf2 : (findP C f).2 = if hasT C f.data.toList = true then 0 else 5 := by
          unfold findP
          rw [ask_ok hg (L := [f]) (fun p hp => by rw [List.mem_singleton.1 hp]; exact hf)]
          simp only [ne_eq, not_true_eq_false, if_false]
          split <;> rfl
        rw [hf2]
        cases hh : hasT C f.data.toList with
        | false => simp
        | true =>
          have hat : atT C f.data.toList = (posT C f.data.toList : Int) := by
            rcases asc_at h2 f.data.toList with ⟨_, h5, _⟩ | ⟨h5, _⟩
            · exact h5
            · rw [hh] at h5; cases h5
          rw [hat]
          simp only [Bool.and_self, if_true, ne_eq, not_true_eq_false, if_false, Bool.true_eq_false, Int.toNat_natCast]
          obtain ⟨hl, _⟩ := has_at hh
          cases hd : dirT C (posT C f.data.toList) with
          | true => simp
          | false =>
            simp only [Bool.false_eq_true, if_false]
            by_cases he : f.data.toList = t.data.toList
            · rw [if_pos he, if_pos he]
            · rw [if_neg he, if_neg he, withoutT_P h2 hh, putT_P]
              have hgo := out_good hg hl (by rw [← dirT_at hl]; exact hd)
              have hp : ∀ b, puttP (outI C (posT C f.data.toList)) t b v = putP (outI C (posT C f.data.toList)) t b v := fun b => by
                unfold puttP
                rw [ask_ok hgo (L := [t]) (fun p hp => by rw [List.mem_singleton.1 hp]; exact ht)]
                simp
              rw [hp]
end Go.Proofs.YtefamkckoikeoaaDoor
/- Contract: the law's texts: two rows that read as the same texts are alike. Condition: at most 10^6 texts. -/
namespace Go.Proofs.YtefamkckoikeoaaDoor
open Go.RowKit
set_option maxHeartbeats 4000000 in
set_option maxRecDepth 100000 in
theorem texts8_any (L : List Tx) (q p : Option Addr) (c d : Nat) (hm : L.length ≤ 1000000) (w : World) (hs : Sees w w.heap.size q (L.map encStr)) (ht : Sees w w.heap.size p (L.map encStr)) :
    Calls Tryd.prog 17 #[.slice q L.length c, .slice p L.length d] w fun e w' => e = .returned (.bool true) ∧ Below w.heap.size w w' := by
  have HS := Lib.hid hs
  have HT := Lib.hid ht
  clear hs ht
  have klb : ((L.length : Int) != (L.length : Int)) = false := by simp
  go_enter Tryd.func17, Tryd.ntmps17
  go_wp2_with fail
  go_loopw [5] (fun vi wr => ∃ i : Nat, i ≤ L.length ∧ vi = .int .i64 i ∧ Below w.heap.size w wr) (fun vi _ => L.length - (intOf vi).toNat)
  case atStart => exact ⟨0, by omega, rfl, Below.refl _ _⟩
  case round =>
    obtain ⟨i, hi, rfl, hB⟩ := hrel
    have HB := Lib.hid hB
    clear hB
    by_cases hlt : i < L.length
    · have kk : (i : Int) < (L.length : Int) := by omega
      obtain ⟨a, rfl, _, ha⟩ := HS.out.get (by simp; omega)
      obtain ⟨b, rfl, _, hb⟩ := HT.out.get (by simp; omega)
      have HA : Hid (∀ w', Below w.heap.size w w' → w'.cell? (a.add i) = some (encStr L[i])) := Lib.hid (fun w' h => by
        obtain ⟨a', e, _, h2⟩ := ((HS.out.keep h).more h.size).get (by simp; omega)
        cases e
        exact h2 i _ (by simp [hlt]))
      have HC : Hid (∀ w', Below w.heap.size w w' → w'.cell? (b.add i) = some (encStr L[i])) := Lib.hid (fun w' h => by
        obtain ⟨a', e, _, h2⟩ := ((HT.out.keep h).more h.size).get (by simp; omega)
        cases e
        exact h2 i _ (by simp [hlt]))
      clear ha hb
      have ktx : ((⟨(L[i]).toArray⟩ : ByteArray).toList == (⟨(L[i]).toArray⟩ : ByteArray).toList) = true := by simp
      have henc : encStr L[i] = .string ⟨(L[i]).toArray⟩ := rfl
      rw [henc] at HA HC
      generalize (⟨(L[i]).toArray⟩ : ByteArray) = x at *
      clear henc
      go_wp2_with fail
      refine wp_region_org [(0, true), (1, true), (2, true), (3, true), (4, true), (5, true), (6, true), (7, true), (8, true)] (by kernel_rfl) (by kernel_rfl) (by kernel_rfl) ?_
      replace HB := Lib.hid HB.out.drew
      generalize wr.drew = wd at *
      simp only [pickOrs, List.getElem?_cons_zero, List.getElem?_cons_succ]
      refine org_pure (v := ?_) (by kernel_rfl) ?_ ?_
      rotate_left
      · intro w' hv; clear hv; go_simp; try with_reducible rfl
      try simp only [Act.put, List.setIfInBounds_toArray, List.set_cons_zero, List.set_cons_succ]
      refine org_pure (v := ?_) (by kernel_rfl) ?_ ?_
      rotate_left
      · intro w' hv; clear hv; go_simp; try with_reducible rfl
      try simp only [Act.put, List.setIfInBounds_toArray, List.set_cons_zero, List.set_cons_succ]
      refine org_pure (v := ?_) (by kernel_rfl) ?_ ?_
      rotate_left
      · intro w' hv; clear hv; go_simp; try with_reducible rfl
      try simp only [Act.put, List.setIfInBounds_toArray, List.set_cons_zero, List.set_cons_succ]
      refine org_pure (v := ?_) (by kernel_rfl) ?_ ?_
      rotate_left
      · intro w' hv; have c1 := HA.out w' (HB.out.trans (Below.mono hv HB.out.size)); clear hv; go_simp; try with_reducible rfl
      try simp only [Act.put, List.setIfInBounds_toArray, List.set_cons_zero, List.set_cons_succ]
      refine org_pure (v := ?_) (by kernel_rfl) ?_ ?_
      rotate_left
      · intro w' hv; clear hv; go_simp; try with_reducible rfl
      try simp only [Act.put, List.setIfInBounds_toArray, List.set_cons_zero, List.set_cons_succ]
      refine org_pure (v := ?_) (by kernel_rfl) ?_ ?_
      rotate_left
      · intro w' hv; clear hv; go_simp; try with_reducible rfl
      try simp only [Act.put, List.setIfInBounds_toArray, List.set_cons_zero, List.set_cons_succ]
      refine org_pure (v := ?_) (by kernel_rfl) ?_ ?_
      rotate_left
      · intro w' hv; clear hv; go_simp; try with_reducible rfl
      try simp only [Act.put, List.setIfInBounds_toArray, List.set_cons_zero, List.set_cons_succ]
      refine org_pure (v := ?_) (by kernel_rfl) ?_ ?_
      rotate_left
      · intro w' hv; have c1 := HC.out w' (HB.out.trans (Below.mono hv HB.out.size)); clear hv; go_simp; try with_reducible rfl
      try simp only [Act.put, List.setIfInBounds_toArray, List.set_cons_zero, List.set_cons_succ]
      refine org_pure (v := ?_) (by kernel_rfl) ?_ ?_
      rotate_left
      · intro w' hv; clear hv; go_simp; try with_reducible rfl
      try simp only [Act.put, List.setIfInBounds_toArray, List.set_cons_zero, List.set_cons_succ]
      refine org_nil ?_
      go_wp2_with fail
      go_roundw
      case rel => exact ⟨i + 1, by omega, by go_num, HB.out⟩
      case measure => simp [intOf]; omega
    · have hil : i = L.length := by omega
      subst hil
      have k0 : ¬ (L.length : Int) < (L.length : Int) := by omega
      clear hlt
      go_wp2_with fail
      go_ret
      exact ⟨rfl, HB.out⟩
end Go.Proofs.YtefamkckoikeoaaDoor
/- Contracts: a tree's entries as the document's own (the law's 'own'), the document's own Alike. Condition: at most 10^5 entries. -/
namespace Go.Proofs.YtefamkckoikeoaaDoor
open Go.RowKit
theorem wp_addE1 {o : Oper} {a : Act} {K : Act → World → Prop} {Q : Exit → Act → World → Prop} (sl x : Operand)
    (ho : o.op = .call { callee := .builtin .append, args := #[sl, x], argTypes := #[66, 66] }) {w : World} {base : Nat} {v : Value} {C : List Ent} (R : OwnE w base v C) (hbase : base ≤ w.heap.size)
    (hs : a.eval sl = v) (g : Nat) (e : Ent) (hx : a.eval x = .slice (some ⟨g, 0, none⟩) 1 1) (hc : Has w g 110 (entC e)) (h1 : e.2.2.1.oneCell' = true) (hn : C.length ≤ 1000000)
    (h : ∀ v' w', OwnE w' base v' (C ++ [e]) → Below base w w' → K (a.put o.dst v') w') : o.wp Tryd.prog a w K Q := by
  obtain ⟨i0, hi, hz0, hz1, hz2⟩ := info_parts ent_info
  refine wp_append_own w sl x 66 ho base 110 i0 _ 3 48 Tryd.underlying66 hi hz0 hz1 hz2 rfl (by decide) v C.length (rowC C) hs R ⟨g, 0, none⟩ 1 1 (entC e) hx rfl ?_ ?_ (by unfold maxLen; omega) ?_ hbase
    fun v' w' ho' hg' _ => h v' w' (by unfold OwnE; rw [rowC_add, List.length_append]; exact ho') ((Below.refl base w).grown hg' hbase (fun k hk => own_base3 R k hk))
  · intro j u hj
    have e2 : (Addr.add ⟨g, 0, none⟩ j) = ⟨g, j, none⟩ := by unfold Addr.add; split <;> simp_all
    rw [e2]; exact hc.cellv hj
  · intro u hu
    simp only [entC, List.mem_cons, List.mem_nil_iff, or_false] at hu
    rcases hu with rfl | rfl | rfl
    · rfl
    · rfl
    · exact h1
  · exact Nat.le_trans (Nat.mul_le_mul (show C.length + 1 ≤ 1000001 by omega) (Nat.le_refl 48)) (by decide)
set_option maxHeartbeats 4000000 in
set_option maxRecDepth 100000 in
theorem own8_any (C : List Ent) (q : Option Addr) (c : Nat) (hm : C.length ≤ 100000) (w : World) (hs : Sees w w.heap.size q (rowC C)) (hE : Ents w C) :
    Calls Tryd.prog 38 #[.agg #[.slice q C.length c]] w fun e w' => (∃ v, e = .returned v ∧ TrV w' v C) ∧ Below w.heap.size w w' := by
  have HS := Lib.hid hs
  have HE := Lib.hid hE
  clear hs hE
  go_enter Tryd.func38, Tryd.ntmps38
  go_wp2_with fail
  have HBX0 : Hid (Has (w.alloc (.cells #[.slice q C.length c] 25)) w.heap.size 25 [.slice q C.length c]) := Lib.hid (Has.made w _ _)
  have HB00 := Lib.hid ((Below.refl w.heap.size w).alloc (Nat.le_refl _) (.cells #[.slice q C.length c] 25))
  generalize w.alloc (.cells #[.slice q C.length c] 25) = w0 at *
  have HBX : Hid (∀ w', Below w0.heap.size w0 w' → w'.cell? ⟨w.heap.size, 0, none⟩ = some (.slice q C.length c)) := Lib.hid (fun w' hb => (HBX0.out.keep hb HBX0.out.lt).cellv (i := 0) rfl)
  have HNIL := Lib.hid (OwnE.nil w0 w0.heap.size)
  clear HBX0
  go_loopw [3, 4] (fun v vi wr => ∃ i : Nat, i ≤ C.length ∧ vi = .int .i64 i ∧ OwnE wr w0.heap.size v (C.take i) ∧ Below w0.heap.size w0 wr) (fun _ vi _ => C.length - (intOf vi).toNat)
  case atStart => exact ⟨0, by omega, rfl, HNIL.out, Below.refl _ _⟩
  case round =>
    rename_i wr
    obtain ⟨i, hi, rfl, hrow, hB⟩ := hrel
    have HROW := Lib.hid hrow
    have HB := Lib.hid hB
    have cx := HBX.out wr hB
    clear hrow hB
    by_cases hlt : i < C.length
    · obtain ⟨a, rfl, ha, hc⟩ := HS.out.ent hlt
      obtain ⟨qb, cb, hv, _, _, _⟩ := HE.out C[i] (List.getElem_mem hlt)
      have kk : (i : Int) < (C.length : Int) := by omega
      have htk : C.take (i + 1) = C.take i ++ [C[i]] := by rw [List.take_add_one, List.getElem?_eq_getElem hlt]; rfl
      have HTK := Lib.hid htk
      have HLEN : Hid ((C.take i).length ≤ 1000000) := Lib.hid (by rw [List.length_take]; omega)
      obtain ⟨e, he⟩ : ∃ e, C[i] = e := ⟨_, rfl⟩
      rw [he] at hc hv HTK
      obtain ⟨x, d, bv, bb⟩ := e
      have hv' : bv = .slice qb (List.length bb) cb := hv
      subst hv'
      have h1 : (Value.slice qb bb.length cb).oneCell' = true := rfl
      have HC3 : Hid (∀ w', Below w0.heap.size w0 w' → w'.cell? (a.add (i * 3)) = some (.string x) ∧ w'.cell? ⟨(a.add (i * 3)).block, (a.add (i * 3)).off + 1, none⟩ = some (.bool d) ∧ w'.cell? ⟨(a.add (i * 3)).block, (a.add (i * 3)).off + 2, none⟩ = some (.slice qb bb.length cb)) := Lib.hid (fun w' hb => hc w' (HB00.out.trans (hb.mono HB00.out.size)))
      clear hc ha hv htk he
      go_wp2_with fail
      refine wp_region_ors (fun w' => Below w0.heap.size w0 w') [(0, true), (1, true), (2, true), (3, true), (4, true), (5, true), (6, true), (7, true), (8, true), (9, true), (10, true), (11, true), (12, true), (13, true), (14, true), (15, true), (16, true), (17, true), (18, true), (19, true), (20, false), (21, false), (22, true)] (by kernel_rfl) (by kernel_rfl) (by kernel_rfl) HB.out.drew ?_
      replace HB := Lib.hid HB.out.drew
      replace HROW := Lib.hid (World.ownsRow.drew HROW.out)
      generalize wr.drew = wd at *
      simp only [pickOrs, List.getElem?_cons_zero, List.getElem?_cons_succ]
      refine ors_pure (v := ?_) (by kernel_rfl) ?_ ?_
      rotate_left
      · intro w' hv; clear hv; go_simp; try with_reducible rfl
      try simp only [Act.put, List.setIfInBounds_toArray, List.set_cons_zero, List.set_cons_succ]
      refine ors_pure (v := ?_) (by kernel_rfl) ?_ ?_
      rotate_left
      · intro w' hv; clear hv; go_simp; try with_reducible rfl
      try simp only [Act.put, List.setIfInBounds_toArray, List.set_cons_zero, List.set_cons_succ]
      refine ors_pure (v := ?_) (by kernel_rfl) ?_ ?_
      rotate_left
      · intro w' hv; have cx := HBX.out w' hv; clear hv; go_simp; try with_reducible rfl
      try simp only [Act.put, List.setIfInBounds_toArray, List.set_cons_zero, List.set_cons_succ]
      refine ors_pure (v := ?_) (by kernel_rfl) ?_ ?_
      rotate_left
      · intro w' hv; clear hv; go_simp; try with_reducible rfl
      try simp only [Act.put, List.setIfInBounds_toArray, List.set_cons_zero, List.set_cons_succ]
      refine ors_pure (v := ?_) (by kernel_rfl) ?_ ?_
      rotate_left
      · intro w' hv; clear hv; go_simp; try with_reducible rfl
      try simp only [Act.put, List.setIfInBounds_toArray, List.set_cons_zero, List.set_cons_succ]
      refine ors_pure (v := ?_) (by kernel_rfl) ?_ ?_
      rotate_left
      · intro w' hv; clear hv; go_simp; try with_reducible rfl
      try simp only [Act.put, List.setIfInBounds_toArray, List.set_cons_zero, List.set_cons_succ]
      refine ors_pure (v := ?_) (by kernel_rfl) ?_ ?_
      rotate_left
      · intro w' hv; have c1 := (HC3.out w' hv).1; clear hv; go_simp; try with_reducible rfl
      try simp only [Act.put, List.setIfInBounds_toArray, List.set_cons_zero, List.set_cons_succ]
      refine ors_pure (v := ?_) (by kernel_rfl) ?_ ?_
      rotate_left
      · intro w' hv; clear hv; go_simp; try with_reducible rfl
      try simp only [Act.put, List.setIfInBounds_toArray, List.set_cons_zero, List.set_cons_succ]
      refine ors_pure (v := ?_) (by kernel_rfl) ?_ ?_
      rotate_left
      · intro w' hv; have cx := HBX.out w' hv; clear hv; go_simp; try with_reducible rfl
      try simp only [Act.put, List.setIfInBounds_toArray, List.set_cons_zero, List.set_cons_succ]
      refine ors_pure (v := ?_) (by kernel_rfl) ?_ ?_
      rotate_left
      · intro w' hv; clear hv; go_simp; try with_reducible rfl
      try simp only [Act.put, List.setIfInBounds_toArray, List.set_cons_zero, List.set_cons_succ]
      refine ors_pure (v := ?_) (by kernel_rfl) ?_ ?_
      rotate_left
      · intro w' hv; clear hv; go_simp; try with_reducible rfl
      try simp only [Act.put, List.setIfInBounds_toArray, List.set_cons_zero, List.set_cons_succ]
      refine ors_pure (v := ?_) (by kernel_rfl) ?_ ?_
      rotate_left
      · intro w' hv; clear hv; go_simp; try with_reducible rfl
      try simp only [Act.put, List.setIfInBounds_toArray, List.set_cons_zero, List.set_cons_succ]
      refine ors_pure (v := ?_) (by kernel_rfl) ?_ ?_
      rotate_left
      · intro w' hv; have c2 := (HC3.out w' hv).2.1; clear hv; go_simp; try with_reducible rfl
      try simp only [Act.put, List.setIfInBounds_toArray, List.set_cons_zero, List.set_cons_succ]
      refine ors_pure (v := ?_) (by kernel_rfl) ?_ ?_
      rotate_left
      · intro w' hv; clear hv; go_simp; try with_reducible rfl
      try simp only [Act.put, List.setIfInBounds_toArray, List.set_cons_zero, List.set_cons_succ]
      refine ors_pure (v := ?_) (by kernel_rfl) ?_ ?_
      rotate_left
      · intro w' hv; have cx := HBX.out w' hv; clear hv; go_simp; try with_reducible rfl
      try simp only [Act.put, List.setIfInBounds_toArray, List.set_cons_zero, List.set_cons_succ]
      refine ors_pure (v := ?_) (by kernel_rfl) ?_ ?_
      rotate_left
      · intro w' hv; clear hv; go_simp; try with_reducible rfl
      try simp only [Act.put, List.setIfInBounds_toArray, List.set_cons_zero, List.set_cons_succ]
      refine ors_pure (v := ?_) (by kernel_rfl) ?_ ?_
      rotate_left
      · intro w' hv; clear hv; go_simp; try with_reducible rfl
      try simp only [Act.put, List.setIfInBounds_toArray, List.set_cons_zero, List.set_cons_succ]
      refine ors_pure (v := ?_) (by kernel_rfl) ?_ ?_
      rotate_left
      · intro w' hv; clear hv; go_simp; try with_reducible rfl
      try simp only [Act.put, List.setIfInBounds_toArray, List.set_cons_zero, List.set_cons_succ]
      refine ors_pure (v := ?_) (by kernel_rfl) ?_ ?_
      rotate_left
      · intro w' hv; have c3 := (HC3.out w' hv).2.2; clear hv; go_simp; try with_reducible rfl
      try simp only [Act.put, List.setIfInBounds_toArray, List.set_cons_zero, List.set_cons_succ]
      refine ors_pure (v := ?_) (by kernel_rfl) ?_ ?_
      rotate_left
      · intro w' hv; clear hv; go_simp; try with_reducible rfl
      try simp only [Act.put, List.setIfInBounds_toArray, List.set_cons_zero, List.set_cons_succ]
      have HB5 : Hid (Below w0.heap.size w0 (wd.alloc (.cells #[.string x, .bool d, .slice qb bb.length cb] 110))) := Lib.hid (HB.out.alloc HB.out.size _)
      have HG5 : Hid (Has (wd.alloc (.cells #[.string x, .bool d, .slice qb bb.length cb] 110)) wd.heap.size 110 (entC (x, d, .slice qb bb.length cb, bb))) := Lib.hid (Has.made' wd 110 #[.string x, .bool d, .slice qb bb.length cb] _ rfl)
      have HR5 : Hid (OwnE (wd.alloc (.cells #[.string x, .bool d, .slice qb bb.length cb] 110)) w0.heap.size _ (C.take i)) := Lib.hid (World.ownsRow.alloc HROW.out (.cells #[.string x, .bool d, .slice qb bb.length cb] 110))
      refine ors_step (by kernel_rfl) (fun K hK => ?_)
      go_wp2_with fail
      refine ⟨HB5.out, ?_⟩
      generalize wd.alloc (.cells #[.string x, .bool d, .slice qb bb.length cb] 110) = we at *
      try simp only [Act.put, List.setIfInBounds_toArray, List.set_cons_zero, List.set_cons_succ]
      refine ors_step (by kernel_rfl) (fun K hK => ?_)
      refine wp_addE1 (.tmp 12) (.tmp 32) rfl HR5.out HB5.out.size rfl wd.heap.size (x, d, .slice qb bb.length cb, bb) rfl HG5.out h1 HLEN.out (fun v' w' ho hb => ?_)
      have HR6 : Hid (OwnE w' w0.heap.size v' (C.take (i + 1))) := Lib.hid (by rw [HTK.out]; exact ho)
      have HB6 : Hid (Below w0.heap.size w0 w') := Lib.hid (HB5.out.trans hb)
      refine hK _ _ ⟨HB6.out, ?_⟩
      clear hK ho hb HB HROW HR5 HB5 HG5
      try simp only [Act.put, List.setIfInBounds_toArray, List.set_cons_zero, List.set_cons_succ]
      refine ors_pure (v := ?_) (by kernel_rfl) ?_ ?_
      rotate_left
      · intro w' hv; clear hv; go_simp; try with_reducible rfl
      try simp only [Act.put, List.setIfInBounds_toArray, List.set_cons_zero, List.set_cons_succ]
      refine ors_nil ?_
      go_wp2_with fail
      go_roundw
      case rel => exact ⟨i + 1, by omega, by go_num, HR6.out, HB6.out⟩
      case measure => simp [intOf]; omega
    · have hil : i = C.length := by omega
      subst hil
      have k0 : ¬ (C.length : Int) < (C.length : Int) := by omega
      rw [List.take_length] at HROW
      have HT := Lib.hid (OwnE.tr HROW.out)
      clear hlt HROW
      go_wp2_with fail
      go_ret
      first | exact ⟨⟨_, rfl, HT.out⟩, HB00.out.trans (HB.out.mono HB00.out.size)⟩ | exact ⟨HT.out, HB00.out.trans (HB.out.mono HB00.out.size)⟩
noncomputable def chkAl : Array Oper := regOf Tryd.f37.body 6
set_option maxRecDepth 100000 in
theorem chkAl_ok : orgB [(0, true), (1, true), (2, true), (3, true), (4, true), (5, true), (6, true), (7, true), (8, true), (9, true), (10, true), (11, true), (12, true), (13, true), (14, true), (15, true), (16, true), (17, true), (18, true), (19, true), (20, true), (21, true), (22, true), (23, true), (24, true), (25, true), (26, true), (27, true), (28, true), (29, true), (30, true), (31, true), (32, true), (33, true), (34, true), (35, true), (36, true), (37, true), (38, true)] chkAl = true := by kernel_rfl
set_option maxHeartbeats 16000000 in
set_option maxRecDepth 100000 in
theorem ralike_any (C D : List Ent) (q p : Option Addr) (c d : Nat) (hm : C.length ≤ 100000) (w : World) (hs : Sees w w.heap.size q (rowC C)) (ht : Sees w w.heap.size p (rowC D)) (hE : Ents w C) (hF : Ents w D) :
    Calls Tryd.prog 37 #[.slice q C.length c, .slice p D.length d] w fun e w' => e = .returned (.bool (likeT C D)) ∧ Below w.heap.size w w' := by
  have HS := Lib.hid hs
  have HT := Lib.hid ht
  have HE := Lib.hid hE
  have HF := Lib.hid hF
  obtain ⟨V, hV⟩ : ∃ V, likeT C D = V := ⟨_, rfl⟩
  rw [hV]
  clear hs ht hE hF
  by_cases hl : C.length = D.length
  · have HV := Lib.hid hV
    rw [← hl]
    have HL := Lib.hid hl
    clear hV hl
    have klb : ((C.length : Int) != (C.length : Int)) = false := by simp
    go_enter Tryd.func37, Tryd.ntmps37
    go_wp2_with fail
    go_loopw [5] (fun vi wr => ∃ i : Nat, i ≤ C.length ∧ vi = .int .i64 i ∧ likeT (C.drop i) (D.drop i) = V ∧ Below w.heap.size w wr) (fun vi _ => C.length - (intOf vi).toNat)
    case atStart => exact ⟨0, by omega, rfl, HV.out, Below.refl _ _⟩
    case round =>
      obtain ⟨i, hi, rfl, hv, hB⟩ := hrel
      have HB := Lib.hid hB
      clear HV hB
      by_cases hlt : i < C.length
      · have hlt2 : i < D.length := by have := HL.out; omega
        obtain ⟨a, rfl, ha, hc⟩ := HS.out.ent hlt
        obtain ⟨a2, rfl, ha2, hc2⟩ := HT.out.ent hlt2
        obtain ⟨qb, cb, hv1, _, _, hb1⟩ := HE.out C[i] (List.getElem_mem hlt)
        obtain ⟨qb2, cb2, hv2, _, _, hb2⟩ := HF.out D[i] (List.getElem_mem hlt2)
        have kk : (i : Int) < (C.length : Int) := by omega
        rw [List.drop_eq_getElem_cons hlt, List.drop_eq_getElem_cons hlt2, likeT] at hv
        have H1 : Hid (∀ w', Below w.heap.size w w' → Sees w' w'.heap.size qb (C[i].by.map u8v)) := Lib.hid (fun w' h => (hb1.keep h).more h.size)
        have H2 : Hid (∀ w', Below w.heap.size w w' → Sees w' w'.heap.size qb2 (D[i].by.map u8v)) := Lib.hid (fun w' h => (hb2.keep h).more h.size)
        obtain ⟨e, he⟩ : ∃ e, C[i] = e := ⟨_, rfl⟩
        obtain ⟨e2, he2⟩ : ∃ e2, D[i] = e2 := ⟨_, rfl⟩
        simp only [he] at hc hv1 hv H1
        simp only [he2] at hc2 hv2 hv H2
        obtain ⟨x, dd, bv, bb⟩ := e
        obtain ⟨y, dd2, bv2, bb2⟩ := e2
        have hv1' : bv = .slice qb (List.length bb) cb := hv1
        have hv2' : bv2 = .slice qb2 (List.length bb2) cb2 := hv2
        subst hv1'
        subst hv2'
        have HC1 : Hid (∀ w', Below w.heap.size w w' → w'.cell? (a.add (i * 3)) = some (.string x) ∧ w'.cell? ⟨(a.add (i * 3)).block, (a.add (i * 3)).off + 1, none⟩ = some (.bool dd) ∧ w'.cell? ⟨(a.add (i * 3)).block, (a.add (i * 3)).off + 2, none⟩ = some (.slice qb bb.length cb)) := Lib.hid hc
        have HC2 : Hid (∀ w', Below w.heap.size w w' → w'.cell? (a2.add (i * 3)) = some (.string y) ∧ w'.cell? ⟨(a2.add (i * 3)).block, (a2.add (i * 3)).off + 1, none⟩ = some (.bool dd2) ∧ w'.cell? ⟨(a2.add (i * 3)).block, (a2.add (i * 3)).off + 2, none⟩ = some (.slice qb2 bb2.length cb2)) := Lib.hid hc2
        have hee : eqE (x, dd, Value.slice qb bb.length cb, bb) (y, dd2, Value.slice qb2 bb2.length cb2, bb2) = (x.data.toList == y.data.toList && (dd == dd2 && decide (bb = bb2))) := rfl
        rw [hee] at hv
        have HV := Lib.hid hv
        have H1' : Hid (∀ w', Below w.heap.size w w' → Sees w' w'.heap.size qb (bb.map u8v)) := H1
        have H2' : Hid (∀ w', Below w.heap.size w w' → Sees w' w'.heap.size qb2 (bb2.map u8v)) := H2
        clear hc hc2 ha ha2 he he2 hv1 hv2 hb1 hb2 hee hv H1 H2
        have hlx : x.toList = x.data.toList := Lib.toList_data x
        have hly : y.toList = y.data.toList := Lib.toList_data y
        cases hk1 : (x.data.toList == y.data.toList) with
        | false =>
          have hv : V = false := by have h := HV.out; rw [hk1] at h; exact h.symm
          subst hv
          go_wp2_with fail
          refine wp_region_orgc [(0, true), (1, true), (2, true), (3, true), (4, true), (5, true), (6, true), (7, true), (8, true), (9, true), (10, true), (11, true), (12, true), (13, true), (14, true), (15, true), (16, true), (17, true), (18, true), (19, true), (20, true), (21, true), (22, true), (23, true), (24, true), (25, true), (26, true), (27, true), (28, true), (29, true), (30, true), (31, true), (32, true), (33, true), (34, true), (35, true), (36, true), (37, true), (38, true)] _ chkAl_ok rfl (by kernel_rfl) (by kernel_rfl) ?_
          replace HB := Lib.hid HB.out.drew
          generalize wr.drew = wd at *
          simp only [pickOrs, List.getElem?_cons_zero, List.getElem?_cons_succ]
          refine org_pure (v := ?_) (by kernel_rfl) ?_ ?_
          rotate_left
          · intro w' hv; clear hv; go_simp; try with_reducible rfl
          try simp only [Act.put, List.setIfInBounds_toArray, List.set_cons_zero, List.set_cons_succ]
          refine org_pure (v := ?_) (by kernel_rfl) ?_ ?_
          rotate_left
          · intro w' hv; clear hv; go_simp; try with_reducible rfl
          try simp only [Act.put, List.setIfInBounds_toArray, List.set_cons_zero, List.set_cons_succ]
          refine org_pure (v := ?_) (by kernel_rfl) ?_ ?_
          rotate_left
          · intro w' hv; clear hv; go_simp; try with_reducible rfl
          try simp only [Act.put, List.setIfInBounds_toArray, List.set_cons_zero, List.set_cons_succ]
          refine org_pure (v := ?_) (by kernel_rfl) ?_ ?_
          rotate_left
          · intro w' hv; clear hv; go_simp; try with_reducible rfl
          try simp only [Act.put, List.setIfInBounds_toArray, List.set_cons_zero, List.set_cons_succ]
          refine org_pure (v := ?_) (by kernel_rfl) ?_ ?_
          rotate_left
          · intro w' hv; have c1 := (HC1.out w' (HB.out.trans (Below.mono hv HB.out.size))).1; clear hv; go_simp; try with_reducible rfl
          try simp only [Act.put, List.setIfInBounds_toArray, List.set_cons_zero, List.set_cons_succ]
          refine org_pure (v := ?_) (by kernel_rfl) ?_ ?_
          rotate_left
          · intro w' hv; clear hv; go_simp; try with_reducible rfl
          try simp only [Act.put, List.setIfInBounds_toArray, List.set_cons_zero, List.set_cons_succ]
          refine org_pure (v := ?_) (by kernel_rfl) ?_ ?_
          rotate_left
          · intro w' hv; clear hv; go_simp; try with_reducible rfl
          try simp only [Act.put, List.setIfInBounds_toArray, List.set_cons_zero, List.set_cons_succ]
          refine org_pure (v := ?_) (by kernel_rfl) ?_ ?_
          rotate_left
          · intro w' hv; clear hv; go_simp; try with_reducible rfl
          try simp only [Act.put, List.setIfInBounds_toArray, List.set_cons_zero, List.set_cons_succ]
          refine org_pure (v := ?_) (by kernel_rfl) ?_ ?_
          rotate_left
          · intro w' hv; clear hv; go_simp; try with_reducible rfl
          try simp only [Act.put, List.setIfInBounds_toArray, List.set_cons_zero, List.set_cons_succ]
          refine org_pure (v := ?_) (by kernel_rfl) ?_ ?_
          rotate_left
          · intro w' hv; have c2 := (HC2.out w' (HB.out.trans (Below.mono hv HB.out.size))).1; clear hv; go_simp; try with_reducible rfl
          try simp only [Act.put, List.setIfInBounds_toArray, List.set_cons_zero, List.set_cons_succ]
          refine org_pure (v := ?_) (by kernel_rfl) ?_ ?_
          rotate_left
          · intro w' hv; clear hv; go_simp; try with_reducible rfl
          try simp only [Act.put, List.setIfInBounds_toArray, List.set_cons_zero, List.set_cons_succ]
          refine org_pure (v := ?_) (by kernel_rfl) ?_ ?_
          rotate_left
          · intro w' hv; clear hv; go_simp; try with_reducible rfl
          try simp only [Act.put, List.setIfInBounds_toArray, List.set_cons_zero, List.set_cons_succ]
          refine org_skip (by kernel_rfl) ?_
          try simp only [Act.put, List.setIfInBounds_toArray, List.set_cons_zero, List.set_cons_succ]
          refine org_skip (by kernel_rfl) ?_
          try simp only [Act.put, List.setIfInBounds_toArray, List.set_cons_zero, List.set_cons_succ]
          refine org_skip (by kernel_rfl) ?_
          try simp only [Act.put, List.setIfInBounds_toArray, List.set_cons_zero, List.set_cons_succ]
          refine org_skip (by kernel_rfl) ?_
          try simp only [Act.put, List.setIfInBounds_toArray, List.set_cons_zero, List.set_cons_succ]
          refine org_skip (by kernel_rfl) ?_
          try simp only [Act.put, List.setIfInBounds_toArray, List.set_cons_zero, List.set_cons_succ]
          refine org_skip (by kernel_rfl) ?_
          try simp only [Act.put, List.setIfInBounds_toArray, List.set_cons_zero, List.set_cons_succ]
          refine org_skip (by kernel_rfl) ?_
          try simp only [Act.put, List.setIfInBounds_toArray, List.set_cons_zero, List.set_cons_succ]
          refine org_skip (by kernel_rfl) ?_
          try simp only [Act.put, List.setIfInBounds_toArray, List.set_cons_zero, List.set_cons_succ]
          refine org_skip (by kernel_rfl) ?_
          try simp only [Act.put, List.setIfInBounds_toArray, List.set_cons_zero, List.set_cons_succ]
          refine org_skip (by kernel_rfl) ?_
          try simp only [Act.put, List.setIfInBounds_toArray, List.set_cons_zero, List.set_cons_succ]
          refine org_skip (by kernel_rfl) ?_
          try simp only [Act.put, List.setIfInBounds_toArray, List.set_cons_zero, List.set_cons_succ]
          refine org_pure (v := ?_) (by kernel_rfl) ?_ ?_
          rotate_left
          · intro w' hv; clear hv; go_simp; try with_reducible rfl
          try simp only [Act.put, List.setIfInBounds_toArray, List.set_cons_zero, List.set_cons_succ]
          refine org_pure (v := ?_) (by kernel_rfl) ?_ ?_
          rotate_left
          · intro w' hv; clear hv; go_simp; try with_reducible rfl
          try simp only [Act.put, List.setIfInBounds_toArray, List.set_cons_zero, List.set_cons_succ]
          refine org_skip (by kernel_rfl) ?_
          try simp only [Act.put, List.setIfInBounds_toArray, List.set_cons_zero, List.set_cons_succ]
          refine org_skip (by kernel_rfl) ?_
          try simp only [Act.put, List.setIfInBounds_toArray, List.set_cons_zero, List.set_cons_succ]
          refine org_skip (by kernel_rfl) ?_
          try simp only [Act.put, List.setIfInBounds_toArray, List.set_cons_zero, List.set_cons_succ]
          refine org_skip (by kernel_rfl) ?_
          try simp only [Act.put, List.setIfInBounds_toArray, List.set_cons_zero, List.set_cons_succ]
          refine org_skip (by kernel_rfl) ?_
          try simp only [Act.put, List.setIfInBounds_toArray, List.set_cons_zero, List.set_cons_succ]
          refine org_skip (by kernel_rfl) ?_
          try simp only [Act.put, List.setIfInBounds_toArray, List.set_cons_zero, List.set_cons_succ]
          refine org_skip (by kernel_rfl) ?_
          try simp only [Act.put, List.setIfInBounds_toArray, List.set_cons_zero, List.set_cons_succ]
          refine org_skip (by kernel_rfl) ?_
          try simp only [Act.put, List.setIfInBounds_toArray, List.set_cons_zero, List.set_cons_succ]
          refine org_skip (by kernel_rfl) ?_
          try simp only [Act.put, List.setIfInBounds_toArray, List.set_cons_zero, List.set_cons_succ]
          refine org_skip (by kernel_rfl) ?_
          try simp only [Act.put, List.setIfInBounds_toArray, List.set_cons_zero, List.set_cons_succ]
          refine org_skip (by kernel_rfl) ?_
          try simp only [Act.put, List.setIfInBounds_toArray, List.set_cons_zero, List.set_cons_succ]
          refine org_skip (by kernel_rfl) ?_
          try simp only [Act.put, List.setIfInBounds_toArray, List.set_cons_zero, List.set_cons_succ]
          refine org_skip (by kernel_rfl) ?_
          try simp only [Act.put, List.setIfInBounds_toArray, List.set_cons_zero, List.set_cons_succ]
          refine org_pure (v := ?_) (by kernel_rfl) ?_ ?_
          rotate_left
          · intro w' hv; clear hv; go_simp; try with_reducible rfl
          try simp only [Act.put, List.setIfInBounds_toArray, List.set_cons_zero, List.set_cons_succ]
          refine org_nil ?_
          go_wp2_with fail
          go_ret
          exact ⟨rfl, HB.out⟩
        | true =>
          cases hk2 : (dd == dd2) with
          | false =>
            have hv : V = false := by have h := HV.out; rw [hk1, hk2] at h; exact h.symm
            subst hv
            go_wp2_with fail
            refine wp_region_orgc [(0, true), (1, true), (2, true), (3, true), (4, true), (5, true), (6, true), (7, true), (8, true), (9, true), (10, true), (11, true), (12, true), (13, true), (14, true), (15, true), (16, true), (17, true), (18, true), (19, true), (20, true), (21, true), (22, true), (23, true), (24, true), (25, true), (26, true), (27, true), (28, true), (29, true), (30, true), (31, true), (32, true), (33, true), (34, true), (35, true), (36, true), (37, true), (38, true)] _ chkAl_ok rfl (by kernel_rfl) (by kernel_rfl) ?_
            replace HB := Lib.hid HB.out.drew
            generalize wr.drew = wd at *
            simp only [pickOrs, List.getElem?_cons_zero, List.getElem?_cons_succ]
            refine org_pure (v := ?_) (by kernel_rfl) ?_ ?_
            rotate_left
            · intro w' hv; clear hv; go_simp; try with_reducible rfl
            try simp only [Act.put, List.setIfInBounds_toArray, List.set_cons_zero, List.set_cons_succ]
            refine org_pure (v := ?_) (by kernel_rfl) ?_ ?_
            rotate_left
            · intro w' hv; clear hv; go_simp; try with_reducible rfl
            try simp only [Act.put, List.setIfInBounds_toArray, List.set_cons_zero, List.set_cons_succ]
            refine org_pure (v := ?_) (by kernel_rfl) ?_ ?_
            rotate_left
            · intro w' hv; clear hv; go_simp; try with_reducible rfl
            try simp only [Act.put, List.setIfInBounds_toArray, List.set_cons_zero, List.set_cons_succ]
            refine org_pure (v := ?_) (by kernel_rfl) ?_ ?_
            rotate_left
            · intro w' hv; clear hv; go_simp; try with_reducible rfl
            try simp only [Act.put, List.setIfInBounds_toArray, List.set_cons_zero, List.set_cons_succ]
            refine org_pure (v := ?_) (by kernel_rfl) ?_ ?_
            rotate_left
            · intro w' hv; have c1 := (HC1.out w' (HB.out.trans (Below.mono hv HB.out.size))).1; clear hv; go_simp; try with_reducible rfl
            try simp only [Act.put, List.setIfInBounds_toArray, List.set_cons_zero, List.set_cons_succ]
            refine org_pure (v := ?_) (by kernel_rfl) ?_ ?_
            rotate_left
            · intro w' hv; clear hv; go_simp; try with_reducible rfl
            try simp only [Act.put, List.setIfInBounds_toArray, List.set_cons_zero, List.set_cons_succ]
            refine org_pure (v := ?_) (by kernel_rfl) ?_ ?_
            rotate_left
            · intro w' hv; clear hv; go_simp; try with_reducible rfl
            try simp only [Act.put, List.setIfInBounds_toArray, List.set_cons_zero, List.set_cons_succ]
            refine org_pure (v := ?_) (by kernel_rfl) ?_ ?_
            rotate_left
            · intro w' hv; clear hv; go_simp; try with_reducible rfl
            try simp only [Act.put, List.setIfInBounds_toArray, List.set_cons_zero, List.set_cons_succ]
            refine org_pure (v := ?_) (by kernel_rfl) ?_ ?_
            rotate_left
            · intro w' hv; clear hv; go_simp; try with_reducible rfl
            try simp only [Act.put, List.setIfInBounds_toArray, List.set_cons_zero, List.set_cons_succ]
            refine org_pure (v := ?_) (by kernel_rfl) ?_ ?_
            rotate_left
            · intro w' hv; have c2 := (HC2.out w' (HB.out.trans (Below.mono hv HB.out.size))).1; clear hv; go_simp; try with_reducible rfl
            try simp only [Act.put, List.setIfInBounds_toArray, List.set_cons_zero, List.set_cons_succ]
            refine org_pure (v := ?_) (by kernel_rfl) ?_ ?_
            rotate_left
            · intro w' hv; clear hv; go_simp; try with_reducible rfl
            try simp only [Act.put, List.setIfInBounds_toArray, List.set_cons_zero, List.set_cons_succ]
            refine org_pure (v := ?_) (by kernel_rfl) ?_ ?_
            rotate_left
            · intro w' hv; clear hv; go_simp; try with_reducible rfl
            try simp only [Act.put, List.setIfInBounds_toArray, List.set_cons_zero, List.set_cons_succ]
            refine org_pure (v := ?_) (by kernel_rfl) ?_ ?_
            rotate_left
            · intro w' hv; clear hv; go_simp; try with_reducible rfl
            try simp only [Act.put, List.setIfInBounds_toArray, List.set_cons_zero, List.set_cons_succ]
            refine org_pure (v := ?_) (by kernel_rfl) ?_ ?_
            rotate_left
            · intro w' hv; clear hv; go_simp; try with_reducible rfl
            try simp only [Act.put, List.setIfInBounds_toArray, List.set_cons_zero, List.set_cons_succ]
            refine org_pure (v := ?_) (by kernel_rfl) ?_ ?_
            rotate_left
            · intro w' hv; clear hv; go_simp; try with_reducible rfl
            try simp only [Act.put, List.setIfInBounds_toArray, List.set_cons_zero, List.set_cons_succ]
            refine org_pure (v := ?_) (by kernel_rfl) ?_ ?_
            rotate_left
            · intro w' hv; clear hv; go_simp; try with_reducible rfl
            try simp only [Act.put, List.setIfInBounds_toArray, List.set_cons_zero, List.set_cons_succ]
            refine org_pure (v := ?_) (by kernel_rfl) ?_ ?_
            rotate_left
            · intro w' hv; have c1 := (HC1.out w' (HB.out.trans (Below.mono hv HB.out.size))).2.1; clear hv; go_simp; try with_reducible rfl
            try simp only [Act.put, List.setIfInBounds_toArray, List.set_cons_zero, List.set_cons_succ]
            refine org_pure (v := ?_) (by kernel_rfl) ?_ ?_
            rotate_left
            · intro w' hv; clear hv; go_simp; try with_reducible rfl
            try simp only [Act.put, List.setIfInBounds_toArray, List.set_cons_zero, List.set_cons_succ]
            refine org_pure (v := ?_) (by kernel_rfl) ?_ ?_
            rotate_left
            · intro w' hv; clear hv; go_simp; try with_reducible rfl
            try simp only [Act.put, List.setIfInBounds_toArray, List.set_cons_zero, List.set_cons_succ]
            refine org_pure (v := ?_) (by kernel_rfl) ?_ ?_
            rotate_left
            · intro w' hv; clear hv; go_simp; try with_reducible rfl
            try simp only [Act.put, List.setIfInBounds_toArray, List.set_cons_zero, List.set_cons_succ]
            refine org_pure (v := ?_) (by kernel_rfl) ?_ ?_
            rotate_left
            · intro w' hv; clear hv; go_simp; try with_reducible rfl
            try simp only [Act.put, List.setIfInBounds_toArray, List.set_cons_zero, List.set_cons_succ]
            refine org_pure (v := ?_) (by kernel_rfl) ?_ ?_
            rotate_left
            · intro w' hv; have c2 := (HC2.out w' (HB.out.trans (Below.mono hv HB.out.size))).2.1; clear hv; go_simp; try with_reducible rfl
            try simp only [Act.put, List.setIfInBounds_toArray, List.set_cons_zero, List.set_cons_succ]
            refine org_pure (v := ?_) (by kernel_rfl) ?_ ?_
            rotate_left
            · intro w' hv; clear hv; go_simp; try with_reducible rfl
            try simp only [Act.put, List.setIfInBounds_toArray, List.set_cons_zero, List.set_cons_succ]
            refine org_pure (v := ?_) (by kernel_rfl) ?_ ?_
            rotate_left
            · intro w' hv; clear hv; go_simp; try with_reducible rfl
            try simp only [Act.put, List.setIfInBounds_toArray, List.set_cons_zero, List.set_cons_succ]
            refine org_pure (v := ?_) (by kernel_rfl) ?_ ?_
            rotate_left
            · intro w' hv; clear hv; go_simp; try with_reducible rfl
            try simp only [Act.put, List.setIfInBounds_toArray, List.set_cons_zero, List.set_cons_succ]
            refine org_skip (by kernel_rfl) ?_
            try simp only [Act.put, List.setIfInBounds_toArray, List.set_cons_zero, List.set_cons_succ]
            refine org_skip (by kernel_rfl) ?_
            try simp only [Act.put, List.setIfInBounds_toArray, List.set_cons_zero, List.set_cons_succ]
            refine org_skip (by kernel_rfl) ?_
            try simp only [Act.put, List.setIfInBounds_toArray, List.set_cons_zero, List.set_cons_succ]
            refine org_skip (by kernel_rfl) ?_
            try simp only [Act.put, List.setIfInBounds_toArray, List.set_cons_zero, List.set_cons_succ]
            refine org_skip (by kernel_rfl) ?_
            try simp only [Act.put, List.setIfInBounds_toArray, List.set_cons_zero, List.set_cons_succ]
            refine org_skip (by kernel_rfl) ?_
            try simp only [Act.put, List.setIfInBounds_toArray, List.set_cons_zero, List.set_cons_succ]
            refine org_skip (by kernel_rfl) ?_
            try simp only [Act.put, List.setIfInBounds_toArray, List.set_cons_zero, List.set_cons_succ]
            refine org_skip (by kernel_rfl) ?_
            try simp only [Act.put, List.setIfInBounds_toArray, List.set_cons_zero, List.set_cons_succ]
            refine org_skip (by kernel_rfl) ?_
            try simp only [Act.put, List.setIfInBounds_toArray, List.set_cons_zero, List.set_cons_succ]
            refine org_skip (by kernel_rfl) ?_
            try simp only [Act.put, List.setIfInBounds_toArray, List.set_cons_zero, List.set_cons_succ]
            refine org_skip (by kernel_rfl) ?_
            try simp only [Act.put, List.setIfInBounds_toArray, List.set_cons_zero, List.set_cons_succ]
            refine org_skip (by kernel_rfl) ?_
            try simp only [Act.put, List.setIfInBounds_toArray, List.set_cons_zero, List.set_cons_succ]
            refine org_skip (by kernel_rfl) ?_
            try simp only [Act.put, List.setIfInBounds_toArray, List.set_cons_zero, List.set_cons_succ]
            refine org_pure (v := ?_) (by kernel_rfl) ?_ ?_
            rotate_left
            · intro w' hv; clear hv; go_simp; try with_reducible rfl
            try simp only [Act.put, List.setIfInBounds_toArray, List.set_cons_zero, List.set_cons_succ]
            refine org_nil ?_
            go_wp2_with fail
            go_ret
            exact ⟨rfl, HB.out⟩
          | true =>
            have hsb := strB_beq bb bb2
            cases hk3 : decide (bb = bb2) with
            | false =>
              have hv : V = false := by have h := HV.out; rw [hk1, hk2, hk3] at h; exact h.symm
              subst hv
              rw [hk3] at hsb
              go_wp2_with fail
              refine wp_region_orgc [(0, true), (1, true), (2, true), (3, true), (4, true), (5, true), (6, true), (7, true), (8, true), (9, true), (10, true), (11, true), (12, true), (13, true), (14, true), (15, true), (16, true), (17, true), (18, true), (19, true), (20, true), (21, true), (22, true), (23, true), (24, true), (25, true), (26, true), (27, true), (28, true), (29, true), (30, true), (31, true), (32, true), (33, true), (34, true), (35, true), (36, true), (37, true), (38, true)] _ chkAl_ok rfl (by kernel_rfl) (by kernel_rfl) ?_
              replace HB := Lib.hid HB.out.drew
              generalize wr.drew = wd at *
              simp only [pickOrs, List.getElem?_cons_zero, List.getElem?_cons_succ]
              refine org_pure (v := ?_) (by kernel_rfl) ?_ ?_
              rotate_left
              · intro w' hv; clear hv; go_simp; try with_reducible rfl
              try simp only [Act.put, List.setIfInBounds_toArray, List.set_cons_zero, List.set_cons_succ]
              refine org_pure (v := ?_) (by kernel_rfl) ?_ ?_
              rotate_left
              · intro w' hv; clear hv; go_simp; try with_reducible rfl
              try simp only [Act.put, List.setIfInBounds_toArray, List.set_cons_zero, List.set_cons_succ]
              refine org_pure (v := ?_) (by kernel_rfl) ?_ ?_
              rotate_left
              · intro w' hv; clear hv; go_simp; try with_reducible rfl
              try simp only [Act.put, List.setIfInBounds_toArray, List.set_cons_zero, List.set_cons_succ]
              refine org_pure (v := ?_) (by kernel_rfl) ?_ ?_
              rotate_left
              · intro w' hv; clear hv; go_simp; try with_reducible rfl
              try simp only [Act.put, List.setIfInBounds_toArray, List.set_cons_zero, List.set_cons_succ]
              refine org_pure (v := ?_) (by kernel_rfl) ?_ ?_
              rotate_left
              · intro w' hv; have c1 := (HC1.out w' (HB.out.trans (Below.mono hv HB.out.size))).1; clear hv; go_simp; try with_reducible rfl
              try simp only [Act.put, List.setIfInBounds_toArray, List.set_cons_zero, List.set_cons_succ]
              refine org_pure (v := ?_) (by kernel_rfl) ?_ ?_
              rotate_left
              · intro w' hv; clear hv; go_simp; try with_reducible rfl
              try simp only [Act.put, List.setIfInBounds_toArray, List.set_cons_zero, List.set_cons_succ]
              refine org_pure (v := ?_) (by kernel_rfl) ?_ ?_
              rotate_left
              · intro w' hv; clear hv; go_simp; try with_reducible rfl
              try simp only [Act.put, List.setIfInBounds_toArray, List.set_cons_zero, List.set_cons_succ]
              refine org_pure (v := ?_) (by kernel_rfl) ?_ ?_
              rotate_left
              · intro w' hv; clear hv; go_simp; try with_reducible rfl
              try simp only [Act.put, List.setIfInBounds_toArray, List.set_cons_zero, List.set_cons_succ]
              refine org_pure (v := ?_) (by kernel_rfl) ?_ ?_
              rotate_left
              · intro w' hv; clear hv; go_simp; try with_reducible rfl
              try simp only [Act.put, List.setIfInBounds_toArray, List.set_cons_zero, List.set_cons_succ]
              refine org_pure (v := ?_) (by kernel_rfl) ?_ ?_
              rotate_left
              · intro w' hv; have c2 := (HC2.out w' (HB.out.trans (Below.mono hv HB.out.size))).1; clear hv; go_simp; try with_reducible rfl
              try simp only [Act.put, List.setIfInBounds_toArray, List.set_cons_zero, List.set_cons_succ]
              refine org_pure (v := ?_) (by kernel_rfl) ?_ ?_
              rotate_left
              · intro w' hv; clear hv; go_simp; try with_reducible rfl
              try simp only [Act.put, List.setIfInBounds_toArray, List.set_cons_zero, List.set_cons_succ]
              refine org_pure (v := ?_) (by kernel_rfl) ?_ ?_
              rotate_left
              · intro w' hv; clear hv; go_simp; try with_reducible rfl
              try simp only [Act.put, List.setIfInBounds_toArray, List.set_cons_zero, List.set_cons_succ]
              refine org_pure (v := ?_) (by kernel_rfl) ?_ ?_
              rotate_left
              · intro w' hv; clear hv; go_simp; try with_reducible rfl
              try simp only [Act.put, List.setIfInBounds_toArray, List.set_cons_zero, List.set_cons_succ]
              refine org_pure (v := ?_) (by kernel_rfl) ?_ ?_
              rotate_left
              · intro w' hv; clear hv; go_simp; try with_reducible rfl
              try simp only [Act.put, List.setIfInBounds_toArray, List.set_cons_zero, List.set_cons_succ]
              refine org_pure (v := ?_) (by kernel_rfl) ?_ ?_
              rotate_left
              · intro w' hv; clear hv; go_simp; try with_reducible rfl
              try simp only [Act.put, List.setIfInBounds_toArray, List.set_cons_zero, List.set_cons_succ]
              refine org_pure (v := ?_) (by kernel_rfl) ?_ ?_
              rotate_left
              · intro w' hv; clear hv; go_simp; try with_reducible rfl
              try simp only [Act.put, List.setIfInBounds_toArray, List.set_cons_zero, List.set_cons_succ]
              refine org_pure (v := ?_) (by kernel_rfl) ?_ ?_
              rotate_left
              · intro w' hv; have c1 := (HC1.out w' (HB.out.trans (Below.mono hv HB.out.size))).2.1; clear hv; go_simp; try with_reducible rfl
              try simp only [Act.put, List.setIfInBounds_toArray, List.set_cons_zero, List.set_cons_succ]
              refine org_pure (v := ?_) (by kernel_rfl) ?_ ?_
              rotate_left
              · intro w' hv; clear hv; go_simp; try with_reducible rfl
              try simp only [Act.put, List.setIfInBounds_toArray, List.set_cons_zero, List.set_cons_succ]
              refine org_pure (v := ?_) (by kernel_rfl) ?_ ?_
              rotate_left
              · intro w' hv; clear hv; go_simp; try with_reducible rfl
              try simp only [Act.put, List.setIfInBounds_toArray, List.set_cons_zero, List.set_cons_succ]
              refine org_pure (v := ?_) (by kernel_rfl) ?_ ?_
              rotate_left
              · intro w' hv; clear hv; go_simp; try with_reducible rfl
              try simp only [Act.put, List.setIfInBounds_toArray, List.set_cons_zero, List.set_cons_succ]
              refine org_pure (v := ?_) (by kernel_rfl) ?_ ?_
              rotate_left
              · intro w' hv; clear hv; go_simp; try with_reducible rfl
              try simp only [Act.put, List.setIfInBounds_toArray, List.set_cons_zero, List.set_cons_succ]
              refine org_pure (v := ?_) (by kernel_rfl) ?_ ?_
              rotate_left
              · intro w' hv; have c2 := (HC2.out w' (HB.out.trans (Below.mono hv HB.out.size))).2.1; clear hv; go_simp; try with_reducible rfl
              try simp only [Act.put, List.setIfInBounds_toArray, List.set_cons_zero, List.set_cons_succ]
              refine org_pure (v := ?_) (by kernel_rfl) ?_ ?_
              rotate_left
              · intro w' hv; clear hv; go_simp; try with_reducible rfl
              try simp only [Act.put, List.setIfInBounds_toArray, List.set_cons_zero, List.set_cons_succ]
              refine org_pure (v := ?_) (by kernel_rfl) ?_ ?_
              rotate_left
              · intro w' hv; clear hv; go_simp; try with_reducible rfl
              try simp only [Act.put, List.setIfInBounds_toArray, List.set_cons_zero, List.set_cons_succ]
              refine org_pure (v := ?_) (by kernel_rfl) ?_ ?_
              rotate_left
              · intro w' hv; clear hv; go_simp; try with_reducible rfl
              try simp only [Act.put, List.setIfInBounds_toArray, List.set_cons_zero, List.set_cons_succ]
              refine org_pure (v := ?_) (by kernel_rfl) ?_ ?_
              rotate_left
              · intro w' hv; clear hv; go_simp; try with_reducible rfl
              try simp only [Act.put, List.setIfInBounds_toArray, List.set_cons_zero, List.set_cons_succ]
              refine org_pure (v := ?_) (by kernel_rfl) ?_ ?_
              rotate_left
              · intro w' hv; clear hv; go_simp; try with_reducible rfl
              try simp only [Act.put, List.setIfInBounds_toArray, List.set_cons_zero, List.set_cons_succ]
              refine org_pure (v := ?_) (by kernel_rfl) ?_ ?_
              rotate_left
              · intro w' hv; clear hv; go_simp; try with_reducible rfl
              try simp only [Act.put, List.setIfInBounds_toArray, List.set_cons_zero, List.set_cons_succ]
              refine org_pure (v := ?_) (by kernel_rfl) ?_ ?_
              rotate_left
              · intro w' hv; clear hv; go_simp; try with_reducible rfl
              try simp only [Act.put, List.setIfInBounds_toArray, List.set_cons_zero, List.set_cons_succ]
              refine org_pure (v := ?_) (by kernel_rfl) ?_ ?_
              rotate_left
              · intro w' hv; have c1 := (HC1.out w' (HB.out.trans (Below.mono hv HB.out.size))).2.2; clear hv; go_simp; try with_reducible rfl
              try simp only [Act.put, List.setIfInBounds_toArray, List.set_cons_zero, List.set_cons_succ]
              refine org_pure (v := ?_) (by kernel_rfl) ?_ ?_
              rotate_left
              · intro w' hv; have hr := str_run bb qb cb w'.heap.size w' (H1'.out w' (HB.out.trans (Below.mono hv HB.out.size))); clear hv; go_simp; try with_reducible rfl
              try simp only [Act.put, List.setIfInBounds_toArray, List.set_cons_zero, List.set_cons_succ]
              refine org_pure (v := ?_) (by kernel_rfl) ?_ ?_
              rotate_left
              · intro w' hv; clear hv; go_simp; try with_reducible rfl
              try simp only [Act.put, List.setIfInBounds_toArray, List.set_cons_zero, List.set_cons_succ]
              refine org_pure (v := ?_) (by kernel_rfl) ?_ ?_
              rotate_left
              · intro w' hv; clear hv; go_simp; try with_reducible rfl
              try simp only [Act.put, List.setIfInBounds_toArray, List.set_cons_zero, List.set_cons_succ]
              refine org_pure (v := ?_) (by kernel_rfl) ?_ ?_
              rotate_left
              · intro w' hv; clear hv; go_simp; try with_reducible rfl
              try simp only [Act.put, List.setIfInBounds_toArray, List.set_cons_zero, List.set_cons_succ]
              refine org_pure (v := ?_) (by kernel_rfl) ?_ ?_
              rotate_left
              · intro w' hv; clear hv; go_simp; try with_reducible rfl
              try simp only [Act.put, List.setIfInBounds_toArray, List.set_cons_zero, List.set_cons_succ]
              refine org_pure (v := ?_) (by kernel_rfl) ?_ ?_
              rotate_left
              · intro w' hv; have c2 := (HC2.out w' (HB.out.trans (Below.mono hv HB.out.size))).2.2; clear hv; go_simp; try with_reducible rfl
              try simp only [Act.put, List.setIfInBounds_toArray, List.set_cons_zero, List.set_cons_succ]
              refine org_pure (v := ?_) (by kernel_rfl) ?_ ?_
              rotate_left
              · intro w' hv; have hr := str_run bb2 qb2 cb2 w'.heap.size w' (H2'.out w' (HB.out.trans (Below.mono hv HB.out.size))); clear hv; go_simp; try with_reducible rfl
              try simp only [Act.put, List.setIfInBounds_toArray, List.set_cons_zero, List.set_cons_succ]
              refine org_pure (v := ?_) (by kernel_rfl) ?_ ?_
              rotate_left
              · intro w' hv; clear hv; go_simp; try with_reducible rfl
              try simp only [Act.put, List.setIfInBounds_toArray, List.set_cons_zero, List.set_cons_succ]
              refine org_pure (v := ?_) (by kernel_rfl) ?_ ?_
              rotate_left
              · intro w' hv; clear hv; go_simp; try with_reducible rfl
              try simp only [Act.put, List.setIfInBounds_toArray, List.set_cons_zero, List.set_cons_succ]
              refine org_nil ?_
              go_wp2_with fail
              go_ret
              exact ⟨rfl, HB.out⟩
            | true =>
              have HV2 : Hid (likeT (C.drop (i + 1)) (D.drop (i + 1)) = V) := Lib.hid (by have h := HV.out; rw [hk1, hk2, hk3] at h; exact h)
              rw [hk3] at hsb
              go_wp2_with fail
              refine wp_region_orgc [(0, true), (1, true), (2, true), (3, true), (4, true), (5, true), (6, true), (7, true), (8, true), (9, true), (10, true), (11, true), (12, true), (13, true), (14, true), (15, true), (16, true), (17, true), (18, true), (19, true), (20, true), (21, true), (22, true), (23, true), (24, true), (25, true), (26, true), (27, true), (28, true), (29, true), (30, true), (31, true), (32, true), (33, true), (34, true), (35, true), (36, true), (37, true), (38, true)] _ chkAl_ok rfl (by kernel_rfl) (by kernel_rfl) ?_
              replace HB := Lib.hid HB.out.drew
              generalize wr.drew = wd at *
              simp only [pickOrs, List.getElem?_cons_zero, List.getElem?_cons_succ]
              refine org_pure (v := ?_) (by kernel_rfl) ?_ ?_
              rotate_left
              · intro w' hv; clear hv; go_simp; try with_reducible rfl
              try simp only [Act.put, List.setIfInBounds_toArray, List.set_cons_zero, List.set_cons_succ]
              refine org_pure (v := ?_) (by kernel_rfl) ?_ ?_
              rotate_left
              · intro w' hv; clear hv; go_simp; try with_reducible rfl
              try simp only [Act.put, List.setIfInBounds_toArray, List.set_cons_zero, List.set_cons_succ]
              refine org_pure (v := ?_) (by kernel_rfl) ?_ ?_
              rotate_left
              · intro w' hv; clear hv; go_simp; try with_reducible rfl
              try simp only [Act.put, List.setIfInBounds_toArray, List.set_cons_zero, List.set_cons_succ]
              refine org_pure (v := ?_) (by kernel_rfl) ?_ ?_
              rotate_left
              · intro w' hv; clear hv; go_simp; try with_reducible rfl
              try simp only [Act.put, List.setIfInBounds_toArray, List.set_cons_zero, List.set_cons_succ]
              refine org_pure (v := ?_) (by kernel_rfl) ?_ ?_
              rotate_left
              · intro w' hv; have c1 := (HC1.out w' (HB.out.trans (Below.mono hv HB.out.size))).1; clear hv; go_simp; try with_reducible rfl
              try simp only [Act.put, List.setIfInBounds_toArray, List.set_cons_zero, List.set_cons_succ]
              refine org_pure (v := ?_) (by kernel_rfl) ?_ ?_
              rotate_left
              · intro w' hv; clear hv; go_simp; try with_reducible rfl
              try simp only [Act.put, List.setIfInBounds_toArray, List.set_cons_zero, List.set_cons_succ]
              refine org_pure (v := ?_) (by kernel_rfl) ?_ ?_
              rotate_left
              · intro w' hv; clear hv; go_simp; try with_reducible rfl
              try simp only [Act.put, List.setIfInBounds_toArray, List.set_cons_zero, List.set_cons_succ]
              refine org_pure (v := ?_) (by kernel_rfl) ?_ ?_
              rotate_left
              · intro w' hv; clear hv; go_simp; try with_reducible rfl
              try simp only [Act.put, List.setIfInBounds_toArray, List.set_cons_zero, List.set_cons_succ]
              refine org_pure (v := ?_) (by kernel_rfl) ?_ ?_
              rotate_left
              · intro w' hv; clear hv; go_simp; try with_reducible rfl
              try simp only [Act.put, List.setIfInBounds_toArray, List.set_cons_zero, List.set_cons_succ]
              refine org_pure (v := ?_) (by kernel_rfl) ?_ ?_
              rotate_left
              · intro w' hv; have c2 := (HC2.out w' (HB.out.trans (Below.mono hv HB.out.size))).1; clear hv; go_simp; try with_reducible rfl
              try simp only [Act.put, List.setIfInBounds_toArray, List.set_cons_zero, List.set_cons_succ]
              refine org_pure (v := ?_) (by kernel_rfl) ?_ ?_
              rotate_left
              · intro w' hv; clear hv; go_simp; try with_reducible rfl
              try simp only [Act.put, List.setIfInBounds_toArray, List.set_cons_zero, List.set_cons_succ]
              refine org_pure (v := ?_) (by kernel_rfl) ?_ ?_
              rotate_left
              · intro w' hv; clear hv; go_simp; try with_reducible rfl
              try simp only [Act.put, List.setIfInBounds_toArray, List.set_cons_zero, List.set_cons_succ]
              refine org_pure (v := ?_) (by kernel_rfl) ?_ ?_
              rotate_left
              · intro w' hv; clear hv; go_simp; try with_reducible rfl
              try simp only [Act.put, List.setIfInBounds_toArray, List.set_cons_zero, List.set_cons_succ]
              refine org_pure (v := ?_) (by kernel_rfl) ?_ ?_
              rotate_left
              · intro w' hv; clear hv; go_simp; try with_reducible rfl
              try simp only [Act.put, List.setIfInBounds_toArray, List.set_cons_zero, List.set_cons_succ]
              refine org_pure (v := ?_) (by kernel_rfl) ?_ ?_
              rotate_left
              · intro w' hv; clear hv; go_simp; try with_reducible rfl
              try simp only [Act.put, List.setIfInBounds_toArray, List.set_cons_zero, List.set_cons_succ]
              refine org_pure (v := ?_) (by kernel_rfl) ?_ ?_
              rotate_left
              · intro w' hv; clear hv; go_simp; try with_reducible rfl
              try simp only [Act.put, List.setIfInBounds_toArray, List.set_cons_zero, List.set_cons_succ]
              refine org_pure (v := ?_) (by kernel_rfl) ?_ ?_
              rotate_left
              · intro w' hv; have c1 := (HC1.out w' (HB.out.trans (Below.mono hv HB.out.size))).2.1; clear hv; go_simp; try with_reducible rfl
              try simp only [Act.put, List.setIfInBounds_toArray, List.set_cons_zero, List.set_cons_succ]
              refine org_pure (v := ?_) (by kernel_rfl) ?_ ?_
              rotate_left
              · intro w' hv; clear hv; go_simp; try with_reducible rfl
              try simp only [Act.put, List.setIfInBounds_toArray, List.set_cons_zero, List.set_cons_succ]
              refine org_pure (v := ?_) (by kernel_rfl) ?_ ?_
              rotate_left
              · intro w' hv; clear hv; go_simp; try with_reducible rfl
              try simp only [Act.put, List.setIfInBounds_toArray, List.set_cons_zero, List.set_cons_succ]
              refine org_pure (v := ?_) (by kernel_rfl) ?_ ?_
              rotate_left
              · intro w' hv; clear hv; go_simp; try with_reducible rfl
              try simp only [Act.put, List.setIfInBounds_toArray, List.set_cons_zero, List.set_cons_succ]
              refine org_pure (v := ?_) (by kernel_rfl) ?_ ?_
              rotate_left
              · intro w' hv; clear hv; go_simp; try with_reducible rfl
              try simp only [Act.put, List.setIfInBounds_toArray, List.set_cons_zero, List.set_cons_succ]
              refine org_pure (v := ?_) (by kernel_rfl) ?_ ?_
              rotate_left
              · intro w' hv; have c2 := (HC2.out w' (HB.out.trans (Below.mono hv HB.out.size))).2.1; clear hv; go_simp; try with_reducible rfl
              try simp only [Act.put, List.setIfInBounds_toArray, List.set_cons_zero, List.set_cons_succ]
              refine org_pure (v := ?_) (by kernel_rfl) ?_ ?_
              rotate_left
              · intro w' hv; clear hv; go_simp; try with_reducible rfl
              try simp only [Act.put, List.setIfInBounds_toArray, List.set_cons_zero, List.set_cons_succ]
              refine org_pure (v := ?_) (by kernel_rfl) ?_ ?_
              rotate_left
              · intro w' hv; clear hv; go_simp; try with_reducible rfl
              try simp only [Act.put, List.setIfInBounds_toArray, List.set_cons_zero, List.set_cons_succ]
              refine org_pure (v := ?_) (by kernel_rfl) ?_ ?_
              rotate_left
              · intro w' hv; clear hv; go_simp; try with_reducible rfl
              try simp only [Act.put, List.setIfInBounds_toArray, List.set_cons_zero, List.set_cons_succ]
              refine org_pure (v := ?_) (by kernel_rfl) ?_ ?_
              rotate_left
              · intro w' hv; clear hv; go_simp; try with_reducible rfl
              try simp only [Act.put, List.setIfInBounds_toArray, List.set_cons_zero, List.set_cons_succ]
              refine org_pure (v := ?_) (by kernel_rfl) ?_ ?_
              rotate_left
              · intro w' hv; clear hv; go_simp; try with_reducible rfl
              try simp only [Act.put, List.setIfInBounds_toArray, List.set_cons_zero, List.set_cons_succ]
              refine org_pure (v := ?_) (by kernel_rfl) ?_ ?_
              rotate_left
              · intro w' hv; clear hv; go_simp; try with_reducible rfl
              try simp only [Act.put, List.setIfInBounds_toArray, List.set_cons_zero, List.set_cons_succ]
              refine org_pure (v := ?_) (by kernel_rfl) ?_ ?_
              rotate_left
              · intro w' hv; clear hv; go_simp; try with_reducible rfl
              try simp only [Act.put, List.setIfInBounds_toArray, List.set_cons_zero, List.set_cons_succ]
              refine org_pure (v := ?_) (by kernel_rfl) ?_ ?_
              rotate_left
              · intro w' hv; have c1 := (HC1.out w' (HB.out.trans (Below.mono hv HB.out.size))).2.2; clear hv; go_simp; try with_reducible rfl
              try simp only [Act.put, List.setIfInBounds_toArray, List.set_cons_zero, List.set_cons_succ]
              refine org_pure (v := ?_) (by kernel_rfl) ?_ ?_
              rotate_left
              · intro w' hv; have hr := str_run bb qb cb w'.heap.size w' (H1'.out w' (HB.out.trans (Below.mono hv HB.out.size))); clear hv; go_simp; try with_reducible rfl
              try simp only [Act.put, List.setIfInBounds_toArray, List.set_cons_zero, List.set_cons_succ]
              refine org_pure (v := ?_) (by kernel_rfl) ?_ ?_
              rotate_left
              · intro w' hv; clear hv; go_simp; try with_reducible rfl
              try simp only [Act.put, List.setIfInBounds_toArray, List.set_cons_zero, List.set_cons_succ]
              refine org_pure (v := ?_) (by kernel_rfl) ?_ ?_
              rotate_left
              · intro w' hv; clear hv; go_simp; try with_reducible rfl
              try simp only [Act.put, List.setIfInBounds_toArray, List.set_cons_zero, List.set_cons_succ]
              refine org_pure (v := ?_) (by kernel_rfl) ?_ ?_
              rotate_left
              · intro w' hv; clear hv; go_simp; try with_reducible rfl
              try simp only [Act.put, List.setIfInBounds_toArray, List.set_cons_zero, List.set_cons_succ]
              refine org_pure (v := ?_) (by kernel_rfl) ?_ ?_
              rotate_left
              · intro w' hv; clear hv; go_simp; try with_reducible rfl
              try simp only [Act.put, List.setIfInBounds_toArray, List.set_cons_zero, List.set_cons_succ]
              refine org_pure (v := ?_) (by kernel_rfl) ?_ ?_
              rotate_left
              · intro w' hv; have c2 := (HC2.out w' (HB.out.trans (Below.mono hv HB.out.size))).2.2; clear hv; go_simp; try with_reducible rfl
              try simp only [Act.put, List.setIfInBounds_toArray, List.set_cons_zero, List.set_cons_succ]
              refine org_pure (v := ?_) (by kernel_rfl) ?_ ?_
              rotate_left
              · intro w' hv; have hr := str_run bb2 qb2 cb2 w'.heap.size w' (H2'.out w' (HB.out.trans (Below.mono hv HB.out.size))); clear hv; go_simp; try with_reducible rfl
              try simp only [Act.put, List.setIfInBounds_toArray, List.set_cons_zero, List.set_cons_succ]
              refine org_pure (v := ?_) (by kernel_rfl) ?_ ?_
              rotate_left
              · intro w' hv; clear hv; go_simp; try with_reducible rfl
              try simp only [Act.put, List.setIfInBounds_toArray, List.set_cons_zero, List.set_cons_succ]
              refine org_pure (v := ?_) (by kernel_rfl) ?_ ?_
              rotate_left
              · intro w' hv; clear hv; go_simp; try with_reducible rfl
              try simp only [Act.put, List.setIfInBounds_toArray, List.set_cons_zero, List.set_cons_succ]
              refine org_nil ?_
              go_wp2_with fail
              go_roundw
              case rel => exact ⟨i + 1, by omega, by go_num, HV2.out, HB.out⟩
              case measure => simp [intOf]; omega
      · have hil : i = C.length := by omega
        subst hil
        have k0 : ¬ (C.length : Int) < (C.length : Int) := by omega
        have hv' : V = true := by rw [← hv, List.drop_length, HL.out, List.drop_length]; rfl
        subst hv'
        clear hlt hv
        go_wp2_with fail
        go_ret
        exact ⟨rfl, HB.out⟩
  · have hv : V = false := by rw [← hV, likeT_len hl]
    subst hv
    have kl : ((C.length : Int) = (D.length : Int)) = False := eq_false (by omega)
    have klb : ((C.length : Int) == (D.length : Int)) = false := by rw [beq_eq_false_iff_ne]; omega
    have klc : ((C.length : Int) != (D.length : Int)) = true := by rw [bne_iff_ne]; omega
    clear hV
    go_enter Tryd.func37, Tryd.ntmps37
    go_wp2_with fail
    go_ret
    exact ⟨rfl, Below.refl _ _⟩
end Go.Proofs.YtefamkckoikeoaaDoor
/- What the law TreePlays wants: a store into a tree's box leaves rows where they are; a tree with one taken out may be; what Find answers of two trees that read alike. No condition. -/
namespace Go.Proofs.YtefamkckoikeoaaDoor
open Go.RowKit
theorem Sees.off1 {w : World} {b g : Nat} {p : Option Addr} {l : List Value} {t : TypeId} {v0 x : Value} (h : Sees w b p l) (hg : Has w g t [v0]) (h0 : ∀ u, l.head? = some u → u ≠ v0) : Sees (w.setCell ⟨g, 0, none⟩ x) b p l := fun hl => by
  obtain ⟨a, e, hb, hc⟩ := h hl
  have hne : a.block ≠ g := fun k => by
    match l, hl with
    | u :: r, _ =>
      have h1 := hc 0 u rfl
      have e0 : a.add 0 = a := by simp [Addr.add]
      have hg' : w.heap[g]? = some (.cells #[v0] t (0, 0)) := hg
      rw [e0] at h1
      unfold World.cell? at h1
      rw [k, hg'] at h1
      simp only [] at h1
      split at h1
      · cases h1
      · have h2 : a.off = 0 ∨ 0 < a.off := by omega
        rcases h2 with h2 | h2
        · rw [h2] at h1
          exact h0 u rfl (by simpa using h1.symm)
        · rw [Array.getElem?_eq_none (by simp; omega)] at h1
          cases h1
  refine ⟨a, e, hb, fun j u hu => (World.cell?_setCell_other _ _ _ _ (fun k => hne ?_)).trans (hc j u hu)⟩
  have := congrArg Addr.block k
  rw [add_block] at this
  exact this.symm
theorem rowC_head (C : List Ent) : ∀ u, (rowC C).head? = some u → ∃ s, u = .string s := fun u hu => by
  cases C with
  | nil => cases hu
  | cons e C =>
    rw [rowC_cons] at hu
    have : u = .string e.1 := by simpa [entC] using hu.symm
    exact ⟨_, this⟩
theorem Sees.offC {w : World} {b g : Nat} {p q : Option Addr} {n c : Nat} {t : TypeId} {C : List Ent} {x : Value} (h : Sees w b p (rowC C)) (hg : Has w g t [.slice q n c]) : Sees (w.setCell ⟨g, 0, none⟩ x) b p (rowC C) :=
  h.off1 hg fun u hu k => by obtain ⟨s, rfl⟩ := rowC_head C u hu; cases k
theorem Bs.offC {w : World} {g : Nat} {q : Option Addr} {n c : Nat} {t : TypeId} {v x : Value} {b : List (BitVec 8)} (h : Bs w v b) (hg : Has w g t [.slice q n c]) : Bs (w.setCell ⟨g, 0, none⟩ x) v b := by
  obtain ⟨p, k, h1, h2, h3, h4⟩ := h
  refine ⟨p, k, h1, h2, h3, ?_⟩
  rw [size_set]
  refine h4.off1 hg fun u hu hk => ?_
  cases b with
  | nil => cases hu
  | cons y b =>
    have : u = u8v y := by simpa using hu.symm
    rw [this] at hk; cases hk
theorem Ents.offC {w : World} {g : Nat} {q : Option Addr} {n c : Nat} {t : TypeId} {x : Value} {C : List Ent} (h : Ents w C) (hg : Has w g t [.slice q n c]) : Ents (w.setCell ⟨g, 0, none⟩ x) C := fun e he => (h e he).offC hg
theorem TrV.offC {w : World} {g : Nat} {q : Option Addr} {n c : Nat} {t : TypeId} {v x : Value} {C : List Ent} (h : TrV w v C) (hg : Has w g t [.slice q n c]) : TrV (w.setCell ⟨g, 0, none⟩ x) v C := by
  obtain ⟨p, k, h1, h2, h3, h4⟩ := h
  refine ⟨p, k, h1, h2, h3, ?_⟩
  rw [size_set]
  exact h4.offC hg
theorem good_small8 {X : List Ent} (h : goodP X = true) : X.length ≤ 40 ∧ bytesT X ≤ 16384 ∧ ∀ e ∈ X, e.1.size ≤ 68 := by
  obtain ⟨h1, _, h3, _⟩ := (goodP_iff X).1 h
  unfold fitsT at h1
  rw [Bool.and_eq_true, decide_eq_true_eq, decide_eq_true_eq] at h1
  exact ⟨h1.1, h1.2, fun e he => ok_size (okEnt_path (h3 e he))⟩
theorem Sim.names {C D : List Ent} (h : Sim C D) {m : Nat} (hn : ∀ e ∈ C, e.1.size ≤ m) : ∀ e ∈ D, e.1.size ≤ m := fun e he => by
  obtain ⟨i, hi, rfl⟩ := List.getElem_of_mem he
  have hl := h.len
  rw [← (h.get (by omega) hi).1]
  exact hn _ (List.getElem_mem _)
/-- One in which nothing stands, taken out: the tree stays one. -/
theorem out_good2 {C : List Ent} (hg : goodP C = true) {i : Nat} (hi : i < C.length) (hk : ∀ e ∈ C, upV e.pa ≠ C[i].pa) : goodP (outI C i) = true := by
  obtain ⟨h1, h2, h3, h4⟩ := (goodP_iff C).1 hg
  have hA : AscE (outI C i) := h2.sublist (outI_sub hi)
  refine (goodP_iff _).2 ⟨?_, hA, fun e he => h3 e (outI_mem he), fun e he => ?_⟩
  · unfold fitsT at h1 ⊢
    rw [Bool.and_eq_true, decide_eq_true_eq, decide_eq_true_eq] at h1 ⊢
    have := outI_len hi
    have := outI_bytes hi
    omega
  · by_cases h0 : upV e.pa = []
    · unfold roomT; rw [if_pos h0]
    · obtain ⟨y, hy, k, hyd⟩ := (room_iff h2 h0).1 (h4 e (outI_mem he))
      exact (room_iff hA h0).2 ⟨y, outI_keeps hi hy (fun k2 => hk e (outI_mem he) (by rw [← k, k2])), k, hyd⟩
theorem remove_good {C : List Ent} (hg : goodP C = true) (p : ByteArray) : goodP (removeP C p).1 = true := by
  unfold removeP
  by_cases h0 : (findP C p).2 = 0
  · simp only [h0, ne_eq, not_true_eq_false, if_false]
    split
    · exact hg
    · rename_i hk
      obtain ⟨_, _, hh, hi, _⟩ := find_at h0
      obtain ⟨hl, hat⟩ := has_at hh
      rw [hi]
      refine out_good2 hg hl fun e he k => hk ?_
      rw [hat] at k
      unfold kidsP inT
      rw [if_pos hg, List.length_map, List.length_pos_iff]
      intro k2
      have : e ∈ C.filter fun e => upV e.pa == p.data.toList := List.mem_filter.2 ⟨he, by rw [k]; simp⟩
      rw [k2] at this; cases this
  · rw [if_pos h0]; exact hg
theorem find_same {w : World} {b : Nat} {X Y : List Ent} {p : ByteArray} {r r' : Ent} (hs : Sim X Y) (h : FindR w b X p r) (h' : RFind Y p.data.toList r') : r.1 = r'.1 ∧ r.2.1 = r'.2.1 ∧ r.by = r'.by := by
  have hf := hs.find p
  obtain ⟨_, h⟩ := h
  unfold RFind at h'
  rw [rerr_P, ← hf] at h'
  rcases h with ⟨h0, hk, a, b, c⟩ | ⟨h0, rfl⟩
  · rcases h' with ⟨_, hk', rfl⟩ | ⟨h1, _⟩
    · have hi : (findP X p).1 = (atT Y p.data.toList).toNat := by
        rw [hf] at h0 ⊢
        obtain ⟨_, _, _, h2, h3⟩ := find_at h0
        rw [h2, h3]; simp
      simp only [hi] at hk a b c
      obtain ⟨x, y, z⟩ := hs.get hk hk'
      exact ⟨a.trans x, b.trans y, c.trans z⟩
    · exact absurd h0 h1
  · rcases h' with ⟨h1, _⟩ | ⟨_, rfl⟩
    · exact absurd h1 h0
    · exact ⟨rfl, rfl, rfl⟩
/-- A call of the law: its number, its two paths, its bytes. -/
abbrev ActE := Int × ByteArray × ByteArray × Value × List (BitVec 8)
def actC (a : ActE) : List Value := [.int .i64 a.1, .string a.2.1, .string a.2.2.1, a.2.2.2.1]
def rowA (L : List ActE) : List Value := L.flatMap actC
theorem rowA_cons (e : ActE) (C : List ActE) : rowA (e :: C) = actC e ++ rowA C := rfl
theorem rowA_len (C : List ActE) : (rowA C).length = 4 * C.length := by
  induction C with
  | nil => rfl
  | cons e C ih => rw [rowA_cons, List.length_append, ih, List.length_cons]; simp [actC]; omega
theorem rowA_get : ∀ (C : List ActE) (i : Nat) (h : i < C.length), (rowA C)[i * 4]? = some (.int .i64 C[i].1) ∧ (rowA C)[i * 4 + 1]? = some (.string C[i].2.1) ∧ (rowA C)[i * 4 + 2]? = some (.string C[i].2.2.1) ∧ (rowA C)[i * 4 + 3]? = some C[i].2.2.2.1
  | [], i, h => absurd h (by simp)
  | e :: C, 0, _ => by rw [rowA_cons]; simp [actC]
  | e :: C, i + 1, h => by
    have ih := rowA_get C i (by simpa using h)
    rw [rowA_cons]
    have hl : (actC e).length = 4 := rfl
    rw [List.getElem?_append_right (by rw [hl]; omega), List.getElem?_append_right (by rw [hl]; omega), List.getElem?_append_right (by rw [hl]; omega), List.getElem?_append_right (by rw [hl]; omega), hl]
    rw [show (i + 1) * 4 - 4 = i * 4 by omega, show (i + 1) * 4 + 1 - 4 = i * 4 + 1 by omega, show (i + 1) * 4 + 2 - 4 = i * 4 + 2 by omega, show (i + 1) * 4 + 3 - 4 = i * 4 + 3 by omega]
    simpa using ih
theorem Sees.act {w : World} {b : Nat} {q : Option Addr} {C : List ActE} (h : Sees w b q (rowA C)) {i : Nat} (hi : i < C.length) :
    ∃ a, q = some a ∧ a.block < b ∧ ∀ w', Below b w w' → w'.cell? (a.add (i * 4)) = some (.int .i64 C[i].1) ∧ w'.cell? ⟨(a.add (i * 4)).block, (a.add (i * 4)).off + 1, none⟩ = some (.string C[i].2.1) ∧ w'.cell? ⟨(a.add (i * 4)).block, (a.add (i * 4)).off + 2, none⟩ = some (.string C[i].2.2.1) ∧ w'.cell? ⟨(a.add (i * 4)).block, (a.add (i * 4)).off + 3, none⟩ = some C[i].2.2.2.1 := by
  obtain ⟨a, rfl, hb, hc⟩ := h.get (by rw [rowA_len]; omega)
  obtain ⟨h1, h2, h3, h4⟩ := rowA_get C i hi
  have e1 : (⟨(a.add (i * 4)).block, (a.add (i * 4)).off + 1, none⟩ : Addr) = a.add (i * 4 + 1) := by rw [← add_add]; rfl
  have e2 : (⟨(a.add (i * 4)).block, (a.add (i * 4)).off + 2, none⟩ : Addr) = a.add (i * 4 + 2) := by rw [← add_add]; rfl
  have e3 : (⟨(a.add (i * 4)).block, (a.add (i * 4)).off + 3, none⟩ : Addr) = a.add (i * 4 + 3) := by rw [← add_add]; rfl
  refine ⟨a, rfl, hb, fun w' hw => ⟨(hw.cell (by rw [add_block]; exact hb)).trans (hc _ _ h1), ?_, ?_, ?_⟩⟩
  · rw [e1]; exact (hw.cell (by rw [add_block]; exact hb)).trans (hc _ _ h2)
  · rw [e2]; exact (hw.cell (by rw [add_block]; exact hb)).trans (hc _ _ h3)
  · rw [e3]; exact (hw.cell (by rw [add_block]; exact hb)).trans (hc _ _ h4)
end Go.Proofs.YtefamkckoikeoaaDoor
/- Plain laws: what a disk is, and what its calls make of it, whatever memory its rows lie in. No condition. -/
namespace Go.Proofs.YtefamkckoikeoaaDoor
open Go.RowKit
/-- A change without where its bytes lie: its number, its two paths, its bytes. -/
abbrev Chg := Int × ByteArray × ByteArray × List (BitVec 8)
def strip (a : ActE) : Chg := (a.1, a.2.1, a.2.2.1, a.2.2.2.2)
/-- What a change makes of a tree; v is the value of the bytes that are laid anew. -/
def chP (C : List Ent) (c : Chg) (v : Value) : List Ent × Int :=
  if c.1 = 1 then puttP C c.2.1 c.2.2.2 v else if c.1 = 2 then makeP C c.2.1 else if c.1 = 3 then removeP C c.2.1 else if c.1 = 4 then moveP C c.2.1 c.2.2.1 v else (C, 1)
theorem chP_put (C : List Ent) (p t : ByteArray) (b : List (BitVec 8)) (v : Value) : chP C (1, p, t, b) v = puttP C p b v := rfl
theorem chP_make (C : List Ent) (p t : ByteArray) (b : List (BitVec 8)) (v : Value) : chP C (2, p, t, b) v = makeP C p := rfl
theorem chP_remove (C : List Ent) (p t : ByteArray) (b : List (BitVec 8)) (v : Value) : chP C (3, p, t, b) v = removeP C p := rfl
theorem chP_move (C : List Ent) (p t : ByteArray) (b : List (BitVec 8)) (v : Value) : chP C (4, p, t, b) v = moveP C p t v := rfl
theorem chP_else (C : List Ent) (o : Int) (p t : ByteArray) (b : List (BitVec 8)) (v : Value) (h1 : o ≠ 1) (h2 : o ≠ 2) (h3 : o ≠ 3) (h4 : o ≠ 4) : chP C (o, p, t, b) v = (C, 1) := by
  unfold chP; rw [if_neg h1, if_neg h2, if_neg h3, if_neg h4]
theorem Sim.chP {C D : List Ent} (h : Sim C D) (c : Chg) (v v' : Value) : (chP C c v).2 = (chP D c v').2 ∧ Sim (chP C c v).1 (chP D c v').1 := by
  unfold Go.Proofs.YtefamkckoikeoaaDoor.chP
  split
  · exact h.puttP _ _ _ _
  · split
    · exact h.makeP _
    · split
      · exact h.removeP _
      · split
        · exact h.moveP _ _ _ _
        · exact ⟨rfl, h⟩
theorem chP_good {C : List Ent} (hg : goodP C = true) (c : Chg) (v : Value) : goodP (chP C c v).1 = true := by
  unfold chP
  split
  · exact putt_good hg _ _ _
  · split
    · exact make_good hg _
    · split
      · exact remove_good hg _
      · split
        · exact move_good hg _ _ _
        · exact hg
theorem era_era (C : List Ent) : era (era C) = era C := by unfold era; rw [List.map_map]; rfl
/-- The same of a tree whose bytes lie nowhere. -/
def chE (X : List Ent) (c : Chg) : List Ent × Int := (era (chP X c undef).1, (chP X c undef).2)
theorem chE_of {C X : List Ent} (h : era C = X) (c : Chg) (v : Value) : era (chP C c v).1 = (chE X c).1 ∧ (chP C c v).2 = (chE X c).2 := by
  subst h
  have h := Sim.chP (C := C) (D := era C) (era_era C).symm c v undef
  exact ⟨h.2, h.1⟩
theorem chE_good {X : List Ent} (hg : goodP X = true) (c : Chg) : goodP (chE X c).1 = true := (era_good _).trans (chP_good hg c undef)
theorem chE_era (X : List Ent) (c : Chg) : era (chE X c).1 = (chE X c).1 := era_era _
theorem putt_err {C : List Ent} {p : ByteArray} {b : List (BitVec 8)} {v : Value} (h : (puttP C p b v).2 ≠ 0) : (puttP C p b v).1 = C := by
  unfold puttP putP at h ⊢
  split
  · rfl
  · rename_i h0
    rw [if_neg h0] at h
    split
    · rfl
    · rename_i h1
      rw [if_neg h1] at h
      split
      · rfl
      · rename_i h2
        rw [if_neg h2] at h
        split
        · rfl
        · rename_i h3
          rw [if_neg h3] at h
          split
          · rename_i h4; rw [if_pos h4] at h; exact absurd rfl h
          · rfl
theorem make_err {C : List Ent} {p : ByteArray} (h : (makeP C p).2 ≠ 0) : (makeP C p).1 = C := by
  unfold makeP at h ⊢
  split
  · rfl
  · rename_i h0
    rw [if_neg h0] at h
    split
    · rfl
    · rename_i h1
      rw [if_neg h1] at h
      split
      · rfl
      · rename_i h2
        rw [if_neg h2] at h
        split
        · rename_i h4; rw [if_pos h4] at h; exact absurd rfl h
        · rfl
theorem remove_err {C : List Ent} {p : ByteArray} (h : (removeP C p).2 ≠ 0) : (removeP C p).1 = C := by
  unfold removeP at h ⊢
  split
  · rfl
  · rename_i h0
    rw [if_neg h0] at h
    split
    · rfl
    · rename_i h1; rw [if_neg h1] at h; exact absurd rfl h
theorem moveP_err {C : List Ent} {f t : ByteArray} {v : Value} (h : (moveP C f t v).2 ≠ 0) : (moveP C f t v).1 = C := by
  unfold moveP at h ⊢
  split
  · rfl
  · rename_i h0
    rw [if_neg h0] at h
    split
    · rfl
    · rename_i h1
      rw [if_neg h1] at h
      split
      · rfl
      · rename_i h2
        rw [if_neg h2] at h
        split
        · rfl
        · rename_i h3
          rw [if_neg h3] at h
          split
          · rfl
          · rename_i h4; rw [if_neg h4] at h; exact absurd rfl h
theorem chP_err {C : List Ent} {c : Chg} {v : Value} (h : (chP C c v).2 ≠ 0) : (chP C c v).1 = C := by
  unfold chP at h ⊢
  split
  · rename_i h0; rw [if_pos h0] at h; exact putt_err h
  · rename_i h0
    rw [if_neg h0] at h
    split
    · rename_i h1; rw [if_pos h1] at h; exact make_err h
    · rename_i h1
      rw [if_neg h1] at h
      split
      · rename_i h2; rw [if_pos h2] at h; exact remove_err h
      · rename_i h2
        rw [if_neg h2] at h
        split
        · rename_i h3; rw [if_pos h3] at h; exact moveP_err h
        · rfl
theorem chE_err {X : List Ent} (hX : era X = X) {c : Chg} (h : (chE X c).2 ≠ 0) : (chE X c).1 = X := by
  unfold chE at h ⊢
  simp only at h ⊢
  rw [chP_err h, hX]
/-- A change of which only the first torn bytes last. -/
def tearC (c : Chg) (torn : Int) : Chg := if 0 ≤ torn ∧ torn < (c.2.2.2.length : Int) then (c.1, c.2.1, c.2.2.1, c.2.2.2.take torn.toNat) else c
/-- Those whose places are kept; the first one's place is i. -/
def keptF {α : Type} (keep : List Int) : Nat → List α → List α
  | _, [] => []
  | i, c :: W => if (i : Int) ∈ keep then c :: keptF keep (i + 1) W else keptF keep (i + 1) W
theorem keptF_app {α : Type} (keep : List Int) : ∀ (A : List α) (i : Nat) (W : List α), keptF keep i (A ++ W) = keptF keep i A ++ keptF keep (i + A.length) W
  | [], i, W => rfl
  | a :: A, i, W => by
    show (if (i : Int) ∈ keep then a :: keptF keep (i + 1) (A ++ W) else keptF keep (i + 1) (A ++ W)) = (if (i : Int) ∈ keep then a :: keptF keep (i + 1) A else keptF keep (i + 1) A) ++ _
    rw [keptF_app keep A (i + 1) W, List.length_cons, show i + 1 + A.length = i + (A.length + 1) by omega]
    split <;> rfl
theorem keptF_map {α β : Type} (f : α → β) (keep : List Int) : ∀ (A : List α) (i : Nat), (keptF keep i A).map f = keptF keep i (A.map f)
  | [], _ => rfl
  | a :: A, i => by
    show (if (i : Int) ∈ keep then a :: keptF keep (i + 1) A else keptF keep (i + 1) A).map f = if (i : Int) ∈ keep then f a :: keptF keep (i + 1) (A.map f) else keptF keep (i + 1) (A.map f)
    rw [← keptF_map f keep A (i + 1)]
    split <;> rfl
theorem keptF_take {α : Type} (keep : List Int) (W : List α) {i : Nat} (h : i < W.length) : keptF keep 0 (W.take (i + 1)) = keptF keep 0 (W.take i) ++ (if (i : Int) ∈ keep then [W[i]] else []) := by
  rw [List.take_add_one, List.getElem?_eq_getElem h, keptF_app, List.length_take, Nat.min_eq_left (by omega), Nat.zero_add]
  rfl
theorem keptF_len {α : Type} (keep : List Int) : ∀ (A : List α) (i : Nat), (keptF keep i A).length ≤ A.length
  | [], _ => Nat.le_refl _
  | a :: A, i => by
    show (if (i : Int) ∈ keep then a :: keptF keep (i + 1) A else keptF keep (i + 1) A).length ≤ _
    have := keptF_len keep A (i + 1)
    split <;> simp <;> omega
theorem keptF_mem {α : Type} (keep : List Int) : ∀ (A : List α) (i : Nat), ∀ x ∈ keptF keep i A, x ∈ A
  | [], _, x, h => h
  | a :: A, i, x, h => by
    have h' : x ∈ (if (i : Int) ∈ keep then a :: keptF keep (i + 1) A else keptF keep (i + 1) A) := h
    split at h'
    · rcases List.mem_cons.1 h' with rfl | h2
      · exact List.mem_cons_self ..
      · exact List.mem_cons_of_mem _ (keptF_mem keep A (i + 1) x h2)
    · exact List.mem_cons_of_mem _ (keptF_mem keep A (i + 1) x h')
/-- A disk: what is there, what lasts, what waits; the fuse. -/
structure DS where
  now : List Ent
  lasts : List Ent
  waits : List Chg
  quota : Int
  off : Bool
  left : Int
  keep : List Int
  torn : Int
  count : Int
def foldC (X : List Ent) (W : List Chg) (torn : Int) : List Ent := W.foldl (fun X c => (chE X (tearC c torn)).1) X
theorem foldC_good {torn : Int} : ∀ (W : List Chg) {X : List Ent}, goodP X = true → goodP (foldC X W torn) = true
  | [], _, h => h
  | _ :: W, _, h => foldC_good W (chE_good h _)
theorem foldC_era {torn : Int} : ∀ (W : List Chg) {X : List Ent}, era X = X → era (foldC X W torn) = foldC X W torn
  | [], _, h => h
  | _ :: W, _, _ => foldC_era W (chE_era _ _)
theorem foldC_add (X : List Ent) (W : List Chg) (c : Chg) (torn : Int) : foldC X (W ++ [c]) torn = (chE (foldC X W torn) (tearC c torn)).1 := by
  unfold foldC; rw [List.foldl_append]; rfl
def crashS (S : DS) (keep : List Int) (torn : Int) : DS :=
  if S.off = true then S else { S with now := foldC S.lasts (keptF keep 0 S.waits) torn, lasts := foldC S.lasts (keptF keep 0 S.waits) torn, waits := [], off := true, left := 0, keep := [], torn := 0 }
def powerS (S : DS) : DS := if 0 < S.left then (if S.left = 1 then crashS { S with left := 0 } S.keep S.torn else { S with left := S.left - 1 }) else S
def doS (S : DS) (c : Chg) : DS × Int :=
  if (powerS S).off = true then (powerS S, 15) else
  if (chE (powerS S).now c).2 ≠ 0 then (powerS S, (chE (powerS S).now c).2) else
  if S.quota < (bytesT (chE (powerS S).now c).1 : Int) ∧ bytesT (powerS S).now < bytesT (chE (powerS S).now c).1 then (powerS S, 9) else
  ({ powerS S with now := (chE (powerS S).now c).1, waits := (powerS S).waits ++ [c], count := S.count + 1 }, 0)
def syncS (S : DS) : DS × Int :=
  if (powerS S).off = true then (powerS S, 15) else ({ powerS S with lasts := (powerS S).now, waits := [], count := S.count + 1 }, 0)
def fuseS (S : DS) (n : Int) (keep : List Int) (torn : Int) : DS :=
  if S.off = true then S else if 0 < n then { S with left := n, keep := keep, torn := torn } else { S with left := 0, keep := [], torn := 0 }
/-- Its trees may be, and their bytes lie nowhere. -/
structure DS.Ok (S : DS) : Prop where
  now : goodP S.now = true
  lasts : goodP S.lasts = true
  nowE : era S.now = S.now
  lastsE : era S.lasts = S.lasts
theorem crash_ok {S : DS} (h : S.Ok) (keep : List Int) (torn : Int) : (crashS S keep torn).Ok := by
  unfold crashS
  split
  · exact h
  · exact ⟨foldC_good _ h.lasts, foldC_good _ h.lasts, foldC_era _ h.lastsE, foldC_era _ h.lastsE⟩
theorem power_ok {S : DS} (h : S.Ok) : (powerS S).Ok := by
  unfold powerS
  split
  · split
    · exact crash_ok (S := { S with left := 0 }) ⟨h.now, h.lasts, h.nowE, h.lastsE⟩ _ _
    · exact ⟨h.now, h.lasts, h.nowE, h.lastsE⟩
  · exact h
theorem crash_count (S : DS) (keep : List Int) (torn : Int) : (crashS S keep torn).count = S.count ∧ (crashS S keep torn).quota = S.quota := by
  unfold crashS; split <;> exact ⟨rfl, rfl⟩
theorem power_count (S : DS) : (powerS S).count = S.count ∧ (powerS S).quota = S.quota := by
  unfold powerS
  split
  · split
    · exact crash_count _ _ _
    · exact ⟨rfl, rfl⟩
  · exact ⟨rfl, rfl⟩
theorem do_ok {S : DS} (h : S.Ok) (c : Chg) : (doS S c).1.Ok := by
  have hp := power_ok h
  unfold doS
  split
  · exact hp
  · split
    · exact hp
    · split
      · exact hp
      · exact ⟨chE_good hp.now c, hp.lasts, chE_era _ c, hp.lastsE⟩
theorem sync_ok {S : DS} (h : S.Ok) : (syncS S).1.Ok := by
  have hp := power_ok h
  unfold syncS
  split
  · exact hp
  · exact ⟨hp.now, hp.now, hp.nowE, hp.nowE⟩
theorem fuse_ok {S : DS} (h : S.Ok) (n : Int) (keep : List Int) (torn : Int) : (fuseS S n keep torn).Ok := by
  unfold fuseS
  split
  · exact h
  · split <;> exact ⟨h.now, h.lasts, h.nowE, h.lastsE⟩
end Go.Proofs.YtefamkckoikeoaaDoor
/- A disk as it lies in memory: its block, the rows that it holds; what keeps them. No condition. -/
namespace Go.Proofs.YtefamkckoikeoaaDoor
open Go.RowKit
/-- All blocks but those of X stay; new ones beside. -/
structure Fr (X : Nat → Prop) (w w' : World) : Prop where
  os : w'.os = w.os
  tape : w'.tape = w.tape
  output : w'.output = w.output
  size : w.heap.size ≤ w'.heap.size
  block : ∀ k, k < w.heap.size → ¬ X k → w'.heap[k]? = w.heap[k]?
namespace Fr
variable {X Y : Nat → Prop} {a b c : World}
theorem refl (X : Nat → Prop) (w : World) : Fr X w w := ⟨rfl, rfl, rfl, Nat.le_refl _, fun _ _ _ => rfl⟩
theorem trans (h : Fr X a b) (k : Fr Y b c) (hxy : ∀ i, i < a.heap.size → Y i → X i) : Fr X a c :=
  ⟨k.os.trans h.os, k.tape.trans h.tape, k.output.trans h.output, Nat.le_trans h.size k.size, fun i hi hx => (k.block i (Nat.lt_of_lt_of_le hi h.size) fun hy => hx (hxy i hi hy)).trans (h.block i hi hx)⟩
theorem of_below (h : Below a.heap.size a b) : Fr X a b := ⟨h.os, h.tape, h.output, h.size, fun k hk _ => h.block k hk⟩
theorem of_below2 {n : Nat} (h : Below n a b) (hx : ∀ k, n ≤ k → k < a.heap.size → X k) : Fr X a b :=
  ⟨h.os, h.tape, h.output, h.size, fun k hk hn => h.block k (Nat.lt_of_not_le fun h2 => hn (hx k h2 hk))⟩
theorem mono (h : Fr X a b) (hxy : ∀ i, i < a.heap.size → X i → Y i) : Fr Y a b := ⟨h.os, h.tape, h.output, h.size, fun k hk hn => h.block k hk fun hx => hn (hxy k hk hx)⟩
theorem then_below (h : Fr X a b) (k : Below b.heap.size b c) : Fr X a c := h.trans (Fr.of_below (X := X) k) fun _ _ hx => hx
theorem set (h : Fr X a b) {p : Addr} (hp : p.block < a.heap.size → X p.block) (u : Value) : Fr X a (b.setCell p u) :=
  ⟨h.os, h.tape, h.output, by rw [size_set]; exact h.size, fun k hk hn => (Below.heap_setCell b p u k (fun e => hn (by rw [e]; exact hp (by omega)))).trans (h.block k hk hn)⟩
theorem below {n : Nat} (h : Fr X a b) (hx : ∀ k, k < n → ¬ X k) (hn : n ≤ a.heap.size) : Below n a b := ⟨h.os, h.tape, h.output, h.size, fun k hk => h.block k (by omega) (hx k hk)⟩
theorem has (h : Fr X a b) {k : Nat} {t : TypeId} {l : List Value} (hk : ¬ X k) (hh : Has a k t l) : Has b k t l := (h.block k hh.lt hk).trans hh
end Fr
/-- In none of the blocks of X does a row of l lie: some of its values stands in none of their cells. -/
def Lacks (w : World) (X : Nat → Prop) (l : List Value) : Prop := ∀ k, k < w.heap.size → X k → ∃ (t : TypeId) (cs : List Value), Has w k t cs ∧ ∃ (j : Nat) (u : Value), l[j]? = some u ∧ u ∉ cs
theorem Sees.fr {X : Nat → Prop} {w w' : World} {b : Nat} {q : Option Addr} {l : List Value} (h : Sees w b q l) (hb : b ≤ w.heap.size) (hf : Fr X w w') (hl : Lacks w X l) : Sees w' b q l := fun h0 => by
  obtain ⟨a, e, ha, hc⟩ := h h0
  have hn : ¬ X a.block := fun hx => by
    obtain ⟨t, cs, hh, j, u, hj, hu⟩ := hl _ (Nat.lt_of_lt_of_le ha hb) hx
    have h1 := hc j u hj
    rcases a with ⟨ab, ao, am⟩
    have h3 : am = none ∨ am ≠ none := by cases am <;> simp
    rcases h3 with rfl | h3
    · have e2 : (Addr.add ⟨ab, ao, none⟩ j) = ⟨ab, ao + j, none⟩ := by unfold Addr.add; split <;> simp_all
      rw [e2, hh.cell] at h1
      exact hu (List.mem_of_getElem? h1)
    · have hh' : w.heap[ab]? = some (.cells cs.toArray t (0, 0)) := hh
      have e3 : ((⟨ab, ao, am⟩ : Addr).add j).block = ab := add_block _ _
      unfold World.cell? at h1
      rw [e3, hh'] at h1
      simp only [] at h1
      split at h1
      · cases h1
      · exact hu (by have := Array.mem_of_getElem? h1; simpa using this)
  refine ⟨a, e, ha, fun j u hu => (World.cell?_of_block ?_).trans (hc j u hu)⟩
  rw [add_block]
  exact hf.block _ (Nat.lt_of_lt_of_le ha hb) hn
theorem Sees.fr2 {X : Nat → Prop} {w w' : World} {q : Option Addr} {l : List Value} (h : Sees w w.heap.size q l) (hf : Fr X w w') (hl : Lacks w X l) : Sees w' w'.heap.size q l :=
  (h.fr (Nat.le_refl _) hf hl).more hf.size
/-- No cell holds a text or a byte; none a truth value or a byte. -/
def NoS (u : Value) : Prop := (∀ s, u ≠ .string s) ∧ ∀ i, u ≠ .int .u8 i
def NoT (u : Value) : Prop := (∀ s, u ≠ .bool s) ∧ ∀ i, u ≠ .int .u8 i
/-- A block of a disk, or of a row of changes. -/
def Boxy (w : World) (k : Nat) : Prop := ∃ t cs, Has w k t cs ∧ ((∀ u ∈ cs, NoS u) ∨ ∀ u ∈ cs, NoT u)
def Noty (w : World) (k : Nat) : Prop := ∃ t cs, Has w k t cs ∧ ∀ u ∈ cs, NoT u
theorem Noty.boxy {w : World} {k : Nat} (h : Noty w k) : Boxy w k := by
  obtain ⟨t, cs, h1, h2⟩ := h
  exact ⟨t, cs, h1, .inr h2⟩
theorem lacks_ent {w : World} {X : Nat → Prop} (h : ∀ k, k < w.heap.size → X k → Boxy w k) {C : List Ent} (hC : C ≠ []) : Lacks w X (rowC C) := fun k hk hx => by
  obtain ⟨t, cs, hh, hu⟩ := h k hk hx
  cases C with
  | nil => exact absurd rfl hC
  | cons e C =>
    rcases hu with hu | hu
    · exact ⟨t, cs, hh, 0, .string e.1, rfl, fun h => (hu _ h).1 _ rfl⟩
    · exact ⟨t, cs, hh, 1, .bool e.2.1, rfl, fun h => (hu _ h).1 _ rfl⟩
theorem lacks_by {w : World} {X : Nat → Prop} (h : ∀ k, k < w.heap.size → X k → Boxy w k) {b : List (BitVec 8)} (hb : b ≠ []) : Lacks w X (b.map u8v) := fun k hk hx => by
  obtain ⟨t, cs, hh, hu⟩ := h k hk hx
  cases b with
  | nil => exact absurd rfl hb
  | cons x b =>
    refine ⟨t, cs, hh, 0, u8v x, rfl, fun h => ?_⟩
    rcases hu with hu | hu
    · exact (hu _ h).2 _ rfl
    · exact (hu _ h).2 _ rfl
theorem Sees.frC {w w' : World} {X : Nat → Prop} {q : Option Addr} {C : List Ent} (h : Sees w w.heap.size q (rowC C)) (hf : Fr X w w') (hX : ∀ k, k < w.heap.size → X k → Boxy w k) : Sees w' w'.heap.size q (rowC C) := by
  by_cases h0 : C = []
  · subst h0; exact Sees.nil _ _ _
  · exact h.fr2 hf (lacks_ent hX h0)
theorem Bs.fr {w w' : World} {X : Nat → Prop} {v : Value} {b : List (BitVec 8)} (h : Bs w v b) (hf : Fr X w w') (hX : ∀ k, k < w.heap.size → X k → Boxy w k) : Bs w' v b := by
  obtain ⟨q, c, h1, h2, h3, h4⟩ := h
  refine ⟨q, c, h1, h2, h3, ?_⟩
  by_cases h0 : b = []
  · subst h0; exact Sees.nil _ _ _
  · exact h4.fr2 hf (lacks_by hX h0)
/-- A value reads as a tree whose bytes lie wherever. -/
def RdT (w : World) (v : Value) (X : List Ent) : Prop := ∃ C, era C = X ∧ TrV w v C ∧ Ents w C
theorem RdT.fr {w w' : World} {X : Nat → Prop} {v : Value} {Y : List Ent} (h : RdT w v Y) (hf : Fr X w w') (hX : ∀ k, k < w.heap.size → X k → Boxy w k) : RdT w' v Y := by
  obtain ⟨C, e, ⟨q, c, h1, h2, h3, h4⟩, h5⟩ := h
  exact ⟨C, e, ⟨q, c, h1, h2, h3, h4.frC hf hX⟩, fun e he => (h5 e he).fr hf hX⟩
theorem RdT.keep {w w' : World} {v : Value} {Y : List Ent} (h : RdT w v Y) (hf : Below w.heap.size w w') : RdT w' v Y :=
  h.fr (X := fun _ => False) (Fr.of_below hf) fun _ _ h => h.elim
/-- A value reads as these changes. -/
def ChgRow (w : World) (n : Nat) (t : TypeId) (v : Value) (W : List Chg) : Prop :=
  ∃ L : List ActE, L.map strip = W ∧ w.ownsRow n t 4 v L.length (rowA L) ∧ (∀ e ∈ L, Bs w e.2.2.2.1 e.2.2.2.2) ∧ ∀ b, v.ownBlock = some b → Noty w b
/-- Its block, as a choice. -/
def KeepAt (w : World) (n : Nat) (B : Option Nat) (v : Value) (K : List Int) : Prop :=
  ∃ q c, v = .slice q K.length c ∧ Sees w w.heap.size q (K.map (Value.int .i64)) ∧ ∀ a, q = some a → K ≠ [] → n ≤ a.block ∧ some a.block ≠ B ∧ ∃ l, Has w a.block 3 l
def boxL (S : DS) (vn vl vw vk : Value) : List Value := [vn, vl, vw, .int .i64 S.quota, .bool S.off, .int .i64 S.left, vk, .int .i64 S.torn, .int .i64 S.count]
theorem RdT.slice {w : World} {v : Value} {X : List Ent} (h : RdT w v X) : ∃ q n c, v = .slice q n c := by
  obtain ⟨C, _, ⟨q, c, h1, _⟩, _⟩ := h
  exact ⟨q, _, c, h1⟩
theorem ChgRow.slice {w : World} {n : Nat} {t : TypeId} {v : Value} {W : List Chg} (h : ChgRow w n t v W) : ∃ q k c, v = .slice q k c := by
  obtain ⟨L, _, h1, _⟩ := h
  rcases h1.2 with ⟨h, _⟩ | ⟨g, cap, cur, h, _⟩
  · exact ⟨_, _, _, h⟩
  · exact ⟨_, _, _, h⟩
theorem KeepAt.slice {w : World} {n : Nat} {B : Option Nat} {v : Value} {K : List Int} (h : KeepAt w n B v K) : ∃ q k c, v = .slice q k c := by
  obtain ⟨q, c, h1, _⟩ := h
  exact ⟨q, _, c, h1⟩
theorem KeepAt.nil (w : World) (n : Nat) (B : Option Nat) : KeepAt w n B (.slice none 0 0) [] := ⟨none, 0, rfl, Sees.nil _ _ _, fun _ h => (by cases h)⟩
theorem ChgRow.nil (w : World) (n : Nat) (t : TypeId) : ChgRow w n t (.slice none 0 0) [] := ⟨[], rfl, World.ownsRow_nil w n t 4, fun _ h => (by cases h), fun _ h => (by cases h)⟩
/-- The disk lies at block g; its rows (of what waits: block B; of what the fuse keeps) at n and above. -/
def DiskAt (w : World) (g n : Nat) (B : Option Nat) (S : DS) : Prop :=
  g < n ∧ n ≤ w.heap.size ∧ S.Ok ∧ ∃ vn vl vw vk, Has w g 100 (boxL S vn vl vw vk) ∧ RdT w vn S.now ∧ RdT w vl S.lasts ∧ B = vw.ownBlock ∧ ChgRow w n 47 vw S.waits ∧ KeepAt w n B vk S.keep
theorem box_noS {S : DS} {vn vl vw vk : Value} (h1 : ∃ q n c, vn = .slice q n c) (h2 : ∃ q n c, vl = .slice q n c) (h3 : ∃ q n c, vw = .slice q n c) (h4 : ∃ q n c, vk = .slice q n c) : ∀ u ∈ boxL S vn vl vw vk, NoS u := by
  obtain ⟨_, _, _, rfl⟩ := h1
  obtain ⟨_, _, _, rfl⟩ := h2
  obtain ⟨_, _, _, rfl⟩ := h3
  obtain ⟨_, _, _, rfl⟩ := h4
  intro u hu
  simp only [boxL, List.mem_cons, List.mem_nil_iff, or_false] at hu
  rcases hu with rfl | rfl | rfl | rfl | rfl | rfl | rfl | rfl | rfl <;> exact ⟨fun _ h => (by cases h), fun _ h => (by cases h)⟩
theorem DiskAt.boxy {w : World} {g n : Nat} {B : Option Nat} {S : DS} (h : DiskAt w g n B S) : Boxy w g := by
  obtain ⟨_, _, _, vn, vl, vw, vk, h1, h2, h3, _, h4, h5⟩ := h
  exact ⟨_, _, h1, .inl (box_noS h2.slice h3.slice h4.slice h5.slice)⟩
theorem DiskAt.boxyB {w : World} {g n : Nat} {B : Option Nat} {S : DS} (h : DiskAt w g n B S) {b : Nat} (hb : B = some b) : Boxy w b ∧ n ≤ b ∧ b < w.heap.size := by
  obtain ⟨_, _, _, vn, vl, vw, vk, h1, h2, h3, e, ⟨L, _, h4, _, h5⟩, _⟩ := h
  have e' : vw.ownBlock = some b := e.symm.trans hb
  exact ⟨(h5 b e').boxy, h4.lt b e'⟩
/-- Blocks that are neither the disk's own nor that of what waits nor of the fuse's row: they may be written. -/
theorem DiskAt.fr {w w' : World} {g n : Nat} {B : Option Nat} {S : DS} {X : Nat → Prop} (h : DiskAt w g n B S) (hf : Fr X w w') (hX : ∀ k, k < w.heap.size → X k → Boxy w k) (hn : ∀ k, X k → k < n ∨ w.heap.size ≤ k) (hg : ¬ X g) : DiskAt w' g n B S := by
  obtain ⟨h1, h2, h3, vn, vl, vw, vk, h4, h5, h6, e, ⟨L, h7, h8, h9, h10⟩, q, c, h11, h12, h13⟩ := h
  refine ⟨h1, Nat.le_trans h2 hf.size, h3, vn, vl, vw, vk, hf.has hg h4, h5.fr hf hX, h6.fr hf hX, e, ⟨L, h7, ?_, fun e he => (h9 e he).fr hf hX, ?_⟩, q, c, h11, ?_, fun a ha hk => ?_⟩
  · refine ⟨h8.1, ?_⟩
    rcases h8.2 with ⟨a, b⟩ | ⟨g', cap, cur, a, b, d, r⟩
    · exact .inl ⟨a, b⟩
    · refine .inr ⟨g', cap, cur, a, b, ?_, r⟩
      have hl : g' < w.heap.size := (Array.getElem?_eq_some_iff.1 d).1
      exact (hf.block g' hl fun hx => by have := hn g' hx; omega).trans d
  · intro b hb
    obtain ⟨t, cs, hh, hu⟩ := h10 b hb
    have hl := h8.lt b hb
    exact ⟨t, cs, hf.has (fun hx => by have := hn b hx; omega) hh, hu⟩
  · intro hl
    obtain ⟨a, ea, hb, hc⟩ := h12 hl
    have hk : S.keep ≠ [] := fun h0 => by rw [h0] at hl; simp at hl
    have := h13 a ea hk
    refine ⟨a, ea, Nat.lt_of_lt_of_le hb hf.size, fun j u hu => (World.cell?_of_block ?_).trans (hc j u hu)⟩
    rw [add_block]
    exact hf.block _ hb fun hx => by have := hn _ hx; omega
  · obtain ⟨x, y, l, z⟩ := h13 a ha hk
    exact ⟨x, y, l, hf.has (fun hx => by have := hn _ hx; have := z.lt; omega) z⟩
theorem DiskAt.keep {w w' : World} {g n : Nat} {B : Option Nat} {S : DS} (h : DiskAt w g n B S) (hf : Below w.heap.size w w') : DiskAt w' g n B S :=
  h.fr (X := fun _ => False) (Fr.of_below hf) (fun _ _ h => h.elim) (fun _ h => h.elim) fun h => h
theorem DiskAt.lt {w : World} {g n : Nat} {B : Option Nat} {S : DS} (h : DiskAt w g n B S) : g < w.heap.size := by
  obtain ⟨h1, h2, _⟩ := h; omega
/-- Where no row of changes and no fuse's row lies, any place above serves. -/
theorem DiskAt.rebase {w : World} {g n m : Nat} {S : DS} (h : DiskAt w g n none S) (hk : S.keep = []) (h1 : g < m) (h2 : m ≤ w.heap.size) : DiskAt w g m none S := by
  obtain ⟨_, _, h3, vn, vl, vw, vk, h4, h5, h6, e, ⟨L, h7, h8, h9, h10⟩, q, c, h11, h12, _⟩ := h
  refine ⟨h1, h2, h3, vn, vl, vw, vk, h4, h5, h6, e, ⟨L, h7, ?_, h9, h10⟩, q, c, h11, h12, fun _ _ h => absurd hk h⟩
  refine ⟨h8.1, ?_⟩
  rcases h8.2 with h | ⟨g', cap, cur, a, _⟩
  · exact .inl h
  · subst a; cases e
/-- What a call leaves: the row of what waits stays where it was, or is gone, or is new. -/
def Nx (w : World) (B B' : Option Nat) : Prop := B' = B ∨ B' = none ∨ ∃ b, B' = some b ∧ w.heap.size ≤ b
def Own (g : Nat) (B : Option Nat) (k : Nat) : Prop := k = g ∨ some k = B
def After (w : World) (g n : Nat) (B : Option Nat) (S : DS) (w' : World) : Prop := ∃ B', DiskAt w' g n B' S ∧ Nx w B B' ∧ Fr (Own g B) w w'
theorem After.trans {w w' w2 : World} {g n : Nat} {B B' : Option Nat} {S : DS} (h : Nx w B B') (hf : Fr (Own g B) w w') (h2 : After w' g n B' S w2) : After w g n B S w2 := by
  obtain ⟨B2, a, b, c⟩ := h2
  refine ⟨B2, a, ?_, hf.trans c fun k hk hx => ?_⟩
  · rcases b with rfl | rfl | ⟨b, rfl, hb⟩
    · exact h
    · exact .inr (.inl rfl)
    · exact .inr (.inr ⟨b, rfl, Nat.le_trans hf.size hb⟩)
  · rcases hx with rfl | hx
    · exact .inl rfl
    · rcases h with rfl | rfl | ⟨b, rfl, hb⟩
      · exact .inr hx
      · cases hx
      · cases hx; omega
theorem After.refl {w : World} {g n : Nat} {B : Option Nat} {S : DS} (h : DiskAt w g n B S) : After w g n B S w := ⟨B, h, .inl rfl, Fr.refl _ _⟩
theorem After.below {w w' : World} {g n : Nat} {B : Option Nat} {S S' : DS} (h : DiskAt w g n B S) (h2 : After w g n B S' w') {m : Nat} (hg : m ≤ g) : Below m w w' := by
  obtain ⟨_, _, _, hf⟩ := h2
  have hl := h.lt
  have hgn := h.1
  refine hf.below (fun k hk hx => ?_) (by omega)
  rcases hx with rfl | hx
  · omega
  · have := (h.boxyB hx.symm).2.1; omega
end Go.Proofs.YtefamkckoikeoaaDoor
/- A disk's block written anew. No condition. -/
namespace Go.Proofs.YtefamkckoikeoaaDoor
open Go.RowKit
theorem ChgRow.fr {w w' : World} {n : Nat} {t : TypeId} {v : Value} {W : List Chg} {X : Nat → Prop} (h : ChgRow w n t v W) (hf : Fr X w w') (hX : ∀ k, k < w.heap.size → X k → Boxy w k) (hn : ∀ k, X k → k < n ∨ w.heap.size ≤ k) : ChgRow w' n t v W := by
  obtain ⟨L, h7, h8, h9, h10⟩ := h
  refine ⟨L, h7, ⟨h8.1, ?_⟩, fun e he => (h9 e he).fr hf hX, ?_⟩
  · rcases h8.2 with ⟨a, b⟩ | ⟨g', cap, cur, a, b, d, r⟩
    · exact .inl ⟨a, b⟩
    · refine .inr ⟨g', cap, cur, a, b, ?_, r⟩
      have hl : g' < w.heap.size := (Array.getElem?_eq_some_iff.1 d).1
      exact (hf.block g' hl fun hx => by have := hn g' hx; omega).trans d
  · intro b hb
    obtain ⟨t, cs, hh, hu⟩ := h10 b hb
    have hl := h8.lt b hb
    exact ⟨t, cs, hf.has (fun hx => by have := hn b hx; omega) hh, hu⟩
theorem ChgRow.fr2 {w w' : World} {n : Nat} {t : TypeId} {v : Value} {W : List Chg} {X : Nat → Prop} (h : ChgRow w n t v W) (hf : Fr X w w') (hX : ∀ k, k < w.heap.size → X k → Boxy w k) (hn : ∀ b, v.ownBlock = some b → ¬ X b) : ChgRow w' n t v W := by
  obtain ⟨L, h7, h8, h9, h10⟩ := h
  refine ⟨L, h7, ⟨h8.1, ?_⟩, fun e he => (h9 e he).fr hf hX, ?_⟩
  · rcases h8.2 with ⟨a, b⟩ | ⟨g', cap, cur, a, b, d, r⟩
    · exact .inl ⟨a, b⟩
    · refine .inr ⟨g', cap, cur, a, b, ?_, r⟩
      have hl : g' < w.heap.size := (Array.getElem?_eq_some_iff.1 d).1
      exact (hf.block g' hl (hn g' (by rw [a]; rfl))).trans d
  · intro b hb
    obtain ⟨t, cs, hh, hu⟩ := h10 b hb
    exact ⟨t, cs, hf.has (hn b hb) hh, hu⟩
theorem KeepAt.fr {w w' : World} {n : Nat} {B : Option Nat} {v : Value} {K : List Int} {X : Nat → Prop} (h : KeepAt w n B v K) (hf : Fr X w w') (hn : ∀ k, X k → k < n ∨ some k = B ∨ w.heap.size ≤ k ∨ ∃ t l, Has w k t l ∧ t ≠ 3) : KeepAt w' n B v K := by
  obtain ⟨q, c, h11, h12, h13⟩ := h
  have key : ∀ a, q = some a → K ≠ [] → ¬ X a.block := fun a ea hk hx => by
    have h1 := h13 a ea hk
    obtain ⟨_, _, l, z⟩ := id h1
    rcases hn _ hx with h | h | h | ⟨t, l2, h, h2⟩
    · omega
    · exact h1.2.1 h
    · have := z.lt; omega
    · exact (h.apart z h2) rfl
  refine ⟨q, c, h11, ?_, fun a ea hk => ?_⟩
  · intro hl
    obtain ⟨a, ea, hb, hc⟩ := h12 hl
    have hk : K ≠ [] := fun h0 => by rw [h0] at hl; simp at hl
    refine ⟨a, ea, Nat.lt_of_lt_of_le hb hf.size, fun j u hu => (World.cell?_of_block ?_).trans (hc j u hu)⟩
    rw [add_block]
    exact hf.block _ hb (key a ea hk)
  · obtain ⟨x, y, l, z⟩ := h13 a ea hk
    exact ⟨x, y, l, hf.has (key a ea hk) z⟩
theorem disk_put {w w' : World} {g n : Nat} {B : Option Nat} {S : DS} (h : DiskAt w g n B S) (hf : Fr (fun k => k = g) w w') {S' : DS} (hok : S'.Ok) {vn vl vw vk : Value} (hh : Has w' g 100 (boxL S' vn vl vw vk)) (h1 : RdT w vn S'.now) (h2 : RdT w vl S'.lasts) {B' : Option Nat} (e : B' = vw.ownBlock) (h3 : ChgRow w n 47 vw S'.waits) (h4 : KeepAt w n B' vk S'.keep) : DiskAt w' g n B' S' := by
  have hb : ∀ k, k < w.heap.size → k = g → Boxy w k := fun k _ hk => hk ▸ h.boxy
  have hg := h.1
  exact ⟨hg, Nat.le_trans h.2.1 hf.size, hok, vn, vl, vw, vk, hh, h1.fr hf hb, h2.fr hf hb, e, h3.fr hf hb fun k hk => by omega, h4.fr hf fun k hk => .inl (by omega)⟩
theorem after_put {w w' : World} {g n : Nat} {B : Option Nat} {S : DS} (h : DiskAt w g n B S) (hf : Fr (fun k => k = g) w w') {S' : DS} (hok : S'.Ok) {vn vl vw vk : Value} (hh : Has w' g 100 (boxL S' vn vl vw vk)) (h1 : RdT w vn S'.now) (h2 : RdT w vl S'.lasts) {B' : Option Nat} (e : B' = vw.ownBlock) (h3 : ChgRow w n 47 vw S'.waits) (h4 : KeepAt w n B' vk S'.keep) (hx : Nx w B B') : After w g n B S' w' :=
  ⟨B', disk_put h hf hok hh h1 h2 e h3 h4, hx, hf.mono fun _ _ hk => .inl hk⟩
theorem Fr.set1 {g : Nat} {w w' : World} (h : Fr (fun k => k = g) w w') (i : Nat) (u : Value) : Fr (fun k => k = g) w (w'.setCell ⟨g, i, none⟩ u) := h.set (fun _ => rfl) u
end Go.Proofs.YtefamkckoikeoaaDoor
/- Contract: package disk's kept. Conditions: at most 10^6 changes, 2^60 places. -/
namespace Go.Proofs.YtefamkckoikeoaaDoor
open Go.RowKit
theorem chg_info : (Tryd.prog.info? 47).map (fun i => (i.zero, i.size, i.bytes)) = some (some (.agg #[.int .i64 0, .string ⟨#[]⟩, .string ⟨#[]⟩, .slice none 0 0]), 4, 64) := by kernel_rfl
theorem bool_info : (Tryd.prog.info? 4).map (fun i => (i.zero, i.size, i.bytes)) = some (some (.bool false), 1, 1) := by kernel_rfl
/-- A row of changes of the call's own. -/
def OwnC (w : World) (base : Nat) (v : Value) (L : List ActE) : Prop := w.ownsRow base 47 4 v L.length (rowA L)
theorem OwnC.nil (w : World) (base : Nat) : OwnC w base (.slice none 0 0) [] := World.ownsRow_nil w base 47 4
theorem own_baseN {w : World} {base n k : Nat} {e : TypeId} {v : Value} {xs : List Value} (h : w.ownsRow base e k v n xs) : ∀ j, Value.ownBlock v = some j → base ≤ j := fun j hj => (h.lt j hj).1
theorem own_belowN {w w' : World} {base n k : Nat} {e : TypeId} {v : Value} {xs : List Value} (h : w.ownsRow base e k v n xs) (hb : Below w.heap.size w w') : w'.ownsRow base e k v n xs := by
  rcases h.2 with ⟨rfl, h0⟩ | ⟨g', cap, cur, rfl, hb', hg', h1, h2, h3, h4⟩
  · exact ⟨h.1, .inl ⟨rfl, h0⟩⟩
  · exact ⟨h.1, .inr ⟨g', cap, cur, rfl, hb', (hb.block g' (Array.getElem?_eq_some_iff.1 hg').1).trans hg', h1, h2, h3, h4⟩⟩
theorem World.ownsRow.less2 {w : World} {b base n k : Nat} {e : TypeId} {v : Value} {xs : List Value} (h : w.ownsRow base e k v n xs) (hb : b ≤ base) : w.ownsRow b e k v n xs := by
  rcases h.2 with ⟨rfl, h0⟩ | ⟨g', cap, cur, rfl, hb', r⟩
  · exact ⟨h.1, .inl ⟨rfl, h0⟩⟩
  · exact ⟨h.1, .inr ⟨g', cap, cur, rfl, by omega, r⟩⟩
theorem rowA_add (L : List ActE) (e : ActE) : rowA (L ++ [e]) = rowA L ++ actC e := by
  unfold rowA; rw [List.flatMap_append]; simp
theorem rowA_app (L M : List ActE) : rowA (L ++ M) = rowA L ++ rowA M := by unfold rowA; rw [List.flatMap_append]
theorem wp_addC {ops : Array Oper} {rest : List Oper} {o : Oper} {a : Act} {Q : Exit → Act → World → Prop}
    (hgd : o.guard = none) (sl x : Operand) (ho : o.op = .call { callee := .builtin .append, args := #[sl, x], argTypes := #[48, 48] }) {w : World} {base : Nat} {v : Value} {C : List ActE} (R : OwnC w base v C) (hbase : base ≤ w.heap.size)
    (hs : a.eval sl = v) (g : Nat) (e : ActE) (hx : a.eval x = .slice (some ⟨g, 0, none⟩) 1 1) (hc : Has w g 47 (actC e)) (h1 : e.2.2.2.1.oneCell' = true) (hn : C.length ≤ 1000000)
    (h : ∀ v' w', OwnC w' base v' (C ++ [e]) → Below base w w' → wpList Tryd.prog ops Q rest (a.put o.dst v') w') : wpList Tryd.prog ops Q (o :: rest) a w := by
  obtain ⟨i0, hi, hz0, hz1, hz2⟩ := info_parts chg_info
  refine wpList_append_own _ hgd sl x 48 ho base 47 i0 _ 4 64 Tryd.underlying48 hi hz0 hz1 hz2 rfl (by decide) v C.length (rowA C) hs R ⟨g, 0, none⟩ 1 1 (actC e) hx rfl ?_ ?_ (by unfold maxLen; omega) ?_ hbase
    fun v' w' ho' hg' _ => h v' w' (by unfold OwnC; rw [rowA_add, List.length_append]; exact ho') ((Below.refl base w).grown hg' hbase (fun k hk => own_baseN R k hk))
  · intro j u hj
    have e2 : (Addr.add ⟨g, 0, none⟩ j) = ⟨g, j, none⟩ := by unfold Addr.add; split <;> simp_all
    rw [e2]; exact hc.cellv hj
  · intro u hu
    simp only [actC, List.mem_cons, List.mem_nil_iff, or_false] at hu
    rcases hu with rfl | rfl | rfl | rfl
    · rfl
    · rfl
    · rfl
    · exact h1
  · exact Nat.le_trans (Nat.mul_le_mul (show C.length + 1 ≤ 1000001 by omega) (Nat.le_refl 64)) (by decide)
def markL (n : Nat) (K : List Int) : List Bool := (List.range n).map fun (k : Nat) => decide ((k : Int) ∈ K)
theorem mark_len (n : Nat) (K : List Int) : (markL n K).length = n := by unfold markL; simp
theorem mark_get (n : Nat) (K : List Int) (k : Nat) (h : k < n) : ((markL n K).map Value.bool)[k]? = some (.bool (decide ((k : Int) ∈ K))) := by unfold markL; simp [h]
theorem mark_nil (n : Nat) : (markL n []).map Value.bool = List.replicate n (Value.bool false) := by
  unfold markL
  refine List.ext_getElem (by simp) fun i h1 h2 => by simp
theorem mark_out (n : Nat) (K : List Int) (x : Int) (h : ¬ (0 ≤ x ∧ x < (n : Int))) : markL n (K ++ [x]) = markL n K := by
  unfold markL
  refine List.map_congr_left fun k hk => ?_
  have hk' : k < n := List.mem_range.1 hk
  have : (k : Int) ≠ x := fun e => h ⟨by omega, by omega⟩
  simp [this]
theorem mark_in (n : Nat) (K : List Int) (x : Nat) : ((markL n K).map Value.bool).set x (.bool true) = (markL n (K ++ [(x : Int)])).map Value.bool := by
  unfold markL
  refine List.ext_getElem (by simp) fun i h1 h2 => ?_
  simp only [List.getElem_set, List.getElem_map, List.getElem_range]
  by_cases hx : x = i
  · subst hx; simp
  · have : (i : Int) ≠ (x : Int) := by omega
    simp [hx, this]
set_option maxHeartbeats 16000000 in
set_option maxRecDepth 100000 in
theorem kept_any (L : List ActE) (q : Option Addr) (c : Nat) (K : List Int) (qk : Option Addr) (ck : Nat) (hm : L.length ≤ 1000000) (hk : K.length ≤ 1152921504606846976) (h1 : ∀ e ∈ L, ∃ x n c, e.2.2.2.1 = .slice x n c) (w : World) (hs : Sees w w.heap.size q (rowA L)) (ht : Sees w w.heap.size qk (K.map (Value.int .i64))) :
    Calls Tryd.prog 62 #[.slice q L.length c, .slice qk K.length ck] w fun e w' => (∃ v, e = .returned v ∧ OwnC w' w.heap.size v (keptF K 0 L)) ∧ Below w.heap.size w w' := by
  have HS := Lib.hid hs
  have HT := Lib.hid ht
  have H1 := Lib.hid h1
  obtain ⟨i0, hi, hz0, hz1, hz2⟩ := info_parts bool_info
  have hmk := run_make (P := Tryd.prog) w 123 4 i0 (.bool false) Tryd.underlying123 hi hz0 .i64 .i64 L.length L.length (by omega) (by omega) (by rw [hz2]; omega) (by omega)
  simp only [Int.toNat_natCast] at hmk
  rw [hz1, Nat.mul_one, show (Value.bool false).cells = #[Value.bool false] from rfl] at hmk
  have HX : Hid (Has (w.alloc (.cells (madeCells #[Value.bool false] L.length) 4)) w.heap.size 4 ((markL L.length []).map Value.bool)) := Lib.hid (by
    have h := Has.made w 4 (madeCells #[Value.bool false] L.length)
    rw [toList_madeCells_one, ← mark_nil] at h
    exact h)
  have HB0 : Hid (Below w.heap.size w (w.alloc (.cells (madeCells #[Value.bool false] L.length) 4))) := Lib.hid ((Below.refl _ _).alloc (Nat.le_refl _) _)
  clear hs ht h1
  go_enter Tryd.func62, Tryd.ntmps62
  go_wp2_with fail
  generalize w.alloc (.cells (madeCells #[Value.bool false] L.length) 4) = w0 at *
  clear hmk hi hz0 hz1 hz2
  go_loopw [7, 16] (fun _ vi wr => ∃ j : Nat, j ≤ K.length ∧ vi = .int .i64 j ∧ Has wr w.heap.size 4 ((markL L.length (K.take j)).map Value.bool) ∧ Below w.heap.size w wr) (fun _ vi _ => K.length - (intOf vi).toNat)
  case atStart => exact ⟨0, by omega, rfl, HX.out, HB0.out⟩
  case round =>
    rename_i wr
    clear HX HB0
    obtain ⟨j, hj, rfl, hX, hB⟩ := hrel
    have HX := Lib.hid hX
    have HB := Lib.hid hB
    clear hX hB
    by_cases hlt : j < K.length
    · have kk : (j : Int) < (K.length : Int) := by omega
      obtain ⟨a, rfl, ha, hc⟩ := HT.out.get (by simpa using (show 0 < K.length by omega))
      have cx : wr.cell? (a.add j) = some (.int .i64 K[j]) := (HB.out.cell (by rw [add_block]; exact ha)).trans (hc j _ (by simp [hlt]))
      have htk : K.take (j + 1) = K.take j ++ [K[j]] := by rw [List.take_add_one, List.getElem?_eq_getElem hlt]; rfl
      generalize K[j] = x at *
      have HTK := Lib.hid htk
      clear htk ha hc
      have kwi : IntKind.i64.wrap ((j : Int) + 1) = (j : Int) + 1 := by rw [IntWalk.i64_in _ (by omega)]
      by_cases hx : 0 ≤ x ∧ x < (L.length : Int)
      · obtain ⟨m, rfl⟩ := Int.eq_ofNat_of_zero_le hx.1
        have hml : m < L.length := by omega
        have k1 : (0 : Int) ≤ (m : Int) := by omega
        have k2 : (m : Int) < (L.length : Int) := by omega
        have cm := HX.out.cellv (mark_get L.length (K.take j) m hml)
        have fm := HX.out.free m
        have HXN : Hid (Has (wr.setCell ⟨w.heap.size, m, none⟩ (.bool true)) w.heap.size 4 ((markL L.length (K.take (j + 1))).map Value.bool)) := Lib.hid (by
          have h := HX.out.put m (.bool true)
          rw [mark_in _ _ _, ← HTK.out] at h; exact h)
        have HBN : Hid (Below w.heap.size w (wr.setCell ⟨w.heap.size, m, none⟩ (.bool true))) := Lib.hid (HB.out.setCell (p := ⟨w.heap.size, m, none⟩) (Nat.le_refl _) _)
        clear hx
        go_wp2_with fail
        go_roundw
        case rel => exact ⟨j + 1, by omega, by go_num, HXN.out, HBN.out⟩
        case measure => simp [intOf]; omega
      · rw [← mark_out _ _ _ hx, ← HTK.out] at HX
        by_cases h0 : 0 ≤ x
        · have k2 : ¬ x < (L.length : Int) := fun h => hx ⟨h0, h⟩
          clear hx
          go_wp2_with fail
          go_roundw
          case rel => exact ⟨j + 1, by omega, by go_num, HX.out, HB.out⟩
          case measure => simp [intOf]; omega
        · clear hx
          go_wp2_with fail
          go_roundw
          case rel => exact ⟨j + 1, by omega, by go_num, HX.out, HB.out⟩
          case measure => simp [intOf]; omega
    · have hjl : j = K.length := by omega
      subst hjl
      have k0 : ¬ (K.length : Int) < (K.length : Int) := by omega
      rw [List.take_length] at HX
      clear hlt HT hj
      rename World => wk
      have HNIL := Lib.hid (OwnC.nil wk wk.heap.size)
      have HWR := Lib.hid HB.out.size
      go_wp2_with fail
      go_loopw [8, 9, 10, 34] (fun v _ _ vi wq => ∃ i : Nat, i ≤ L.length ∧ vi = .int .i64 i ∧ OwnC wq wk.heap.size v (keptF K 0 (L.take i)) ∧ Below wk.heap.size wk wq) (fun _ _ _ vi _ => L.length - (intOf vi).toNat)
      case atStart => exact ⟨0, by omega, rfl, HNIL.out, Below.refl _ _⟩
      case round =>
        rename World => wq
        obtain ⟨i, hi, rfl, hrow, hB⟩ := hrel
        have HROW := Lib.hid hrow
        have HBQ := Lib.hid hB
        clear hrow hB
        by_cases hlt : i < L.length
        · have kk : (i : Int) < (L.length : Int) := by omega
          obtain ⟨a, rfl, ha, hc⟩ := HS.out.act hlt
          obtain ⟨c0, c1, c2, c3⟩ := hc wq (HB.out.trans (HBQ.out.mono HB.out.size))
          have h1 := H1.out L[i] (List.getElem_mem hlt)
          have HTK := Lib.hid (keptF_take K L hlt)
          have hlen : (keptF K 0 (L.take i)).length ≤ 1000000 := by have := keptF_len K (L.take i) 0; rw [List.length_take] at this; omega
          have HLEN := Lib.hid hlen
          have HXQ := Lib.hid (HX.out.keep HBQ.out HX.out.lt)
          have HBA : Hid (Below wk.heap.size wk (wq.alloc (.cells #[.int .i64 L[i].1, .string L[i].2.1, .string L[i].2.2.1, L[i].2.2.2.1] 47))) := Lib.hid (HBQ.out.alloc HBQ.out.size _)
          have HBA2 : Hid (Below wk.heap.size wk ((wq.alloc (.cells #[.int .i64 L[i].1, .string L[i].2.1, .string L[i].2.2.1, L[i].2.2.2.1] 47)).alloc (.cells #[.int .i64 L[i].1, .string L[i].2.1, .string L[i].2.2.1, L[i].2.2.2.1] 47))) := Lib.hid (HBA.out.alloc HBA.out.size _)
          have kwi : IntKind.i64.wrap ((i : Int) + 1) = (i : Int) + 1 := by rw [IntWalk.i64_in _ (by omega)]
          have HOA : Hid (OwnC ((wq.alloc (.cells #[.int .i64 L[i].1, .string L[i].2.1, .string L[i].2.2.1, L[i].2.2.2.1] 47)).alloc (.cells #[.int .i64 L[i].1, .string L[i].2.1, .string L[i].2.2.1, L[i].2.2.2.1] 47)) wk.heap.size u8 (keptF K 0 (L.take i))) := Lib.hid (World.ownsRow.alloc (World.ownsRow.alloc HROW.out _) _)
          clear hc ha hlen
          obtain ⟨e, he⟩ : ∃ e, L[i] = e := ⟨_, rfl⟩
          rw [he] at c0 c1 c2 c3 h1 HTK HBA HBA2 HOA
          obtain ⟨op, p, t, bv, bb⟩ := e
          simp only [] at c0 c1 c2 c3 h1 HBA HBA2 HOA
          obtain ⟨xb, nb, cb, rfl⟩ := h1
          clear he
          have cm := (HXQ.out.alloc (.cells #[.int .i64 op, .string p, .string t, .slice xb nb cb] 47)).cellv (mark_get L.length K i hlt)
          by_cases hin : (i : Int) ∈ K
          · have HNX : Hid (keptF K 0 (L.take (i + 1)) = keptF K 0 (L.take i) ++ [(op, p, t, .slice xb nb cb, bb)]) := Lib.hid (by rw [HTK.out, if_pos hin])
            rw [show decide ((i : Int) ∈ K) = true from decide_eq_true hin] at cm
            clear hin HTK
            go_wp2_with (refine wp_addC rfl (.tmp 43) (.tmp 45) rfl (base := wk.heap.size) HOA.out HBA2.out.size rfl (wq.heap.size + 1) (op, p, t, .slice xb nb cb, bb) rfl (Has.made1 wq _ 47 #[.int .i64 op, .string p, .string t, .slice xb nb cb] _ rfl) rfl HLEN.out ?_; intro v3 w3 ho3 hb3; have HROW2 := Lib.hid ho3; have HB5 := Lib.hid (HBA2.out.trans hb3); clear ho3 hb3 HROW)
            go_roundw
            case rel => exact ⟨i + 1, by omega, by go_num, by rw [HNX.out]; exact HROW2.out, HB5.out⟩
            case measure => simp [intOf]; omega
          · have HNX : Hid (keptF K 0 (L.take (i + 1)) = keptF K 0 (L.take i)) := Lib.hid (by rw [HTK.out, if_neg hin, List.append_nil])
            rw [show decide ((i : Int) ∈ K) = false from decide_eq_false hin] at cm
            clear hin HTK
            go_wp2_with fail
            go_roundw
            case rel => exact ⟨i + 1, by omega, by go_num, by rw [HNX.out]; exact World.ownsRow.alloc HROW.out _, HBA.out⟩
            case measure => simp [intOf]; omega
        · have hil : i = L.length := by omega
          subst hil
          have k1 : ¬ (L.length : Int) < (L.length : Int) := by omega
          rw [List.take_length] at HROW
          have HF := Lib.hid (World.ownsRow.less2 HROW.out HWR.out)
          have HBF := Lib.hid (HB.out.trans (HBQ.out.mono HB.out.size))
          clear hlt HROW
          go_wp2_with fail
          go_ret
          exact ⟨⟨_, rfl, HF.out⟩, HBF.out⟩
end Go.Proofs.YtefamkckoikeoaaDoor
/- Contract: package disk's changed: a change made of a tree by tree's call. Conditions: the tree may be; paths shorter than 2^61 bytes. -/
namespace Go.Proofs.YtefamkckoikeoaaDoor
open Go.RowKit
theorem RdT.offC {w : World} {g : Nat} {q : Option Addr} {n c : Nat} {t : TypeId} {v x : Value} {C : List Ent} (h : RdT w v C) (hg : Has w g t [.slice q n c]) : RdT (w.setCell ⟨g, 0, none⟩ x) v C := by
  obtain ⟨D, e, h1, h2⟩ := h
  exact ⟨D, e, h1.offC hg, h2.offC hg⟩
theorem rdt_of {C D : List Ent} {w : World} {v : Value} (h1 : TrV w v D) (h2 : Ents w D) (h : era D = C) : RdT w v C := ⟨D, h, h1, h2⟩
set_option maxHeartbeats 16000000 in
set_option maxRecDepth 100000 in
theorem changed_any (C : List Ent) (q : Option Addr) (c : Nat) (hcap : C.length ≤ c) (hq : q = none → c = 0) (hg : goodP C = true) (op : Int) (p t : ByteArray) (bb : List (BitVec 8)) (qb : Option Addr) (cb : Nat) (hqb : qb = none → cb = 0) (hp : p.size < 2305843009213693952) (ht : t.size < 2305843009213693952) (hbl : bb.length ≤ 9223372036854775807)
    (w : World) (hs : Sees w w.heap.size q (rowC C)) (hE : Ents w C) (hsb : Sees w w.heap.size qb (bb.map u8v)) :
    Calls Tryd.prog 60 #[.agg #[.slice q C.length c], .agg #[.int .i64 op, .string p, .string t, .slice qb bb.length cb]] w fun e w' => (∃ v, e = .returned (.tuple #[.agg #[v], .int .i64 (chE (era C) (op, p, t, bb)).2]) ∧ RdT w' v (chE (era C) (op, p, t, bb)).1) ∧ Below w.heap.size w w' := by
  obtain ⟨hm, hby, hna⟩ := good_small8 hg
  have hnn : ∀ e ∈ C, e.1.size < 9223372036854775808 := fun e he => by have := hna e he; omega
  have hTR : ∀ w', Below w.heap.size w w' → TrV w' (.slice q C.length c) C ∧ Ents w' C := fun w' h => ⟨⟨q, c, rfl, hcap, hq, (hs.keep h).more h.size⟩, hE.keep h⟩
  have HPU : Hid (op = 1 → ∀ w1, Below w.heap.size w w1 → Calls Tryd.prog 11 #[.agg #[.slice q C.length c], .string p, .slice qb bb.length cb] w1 fun e w' => (∃ v, e = .returned (.tuple #[.agg #[v], .int .i64 (chE (era C) (op, p, t, bb)).2]) ∧ RdT w' v (chE (era C) (op, p, t, bb)).1) ∧ Below w1.heap.size w1 w') := Lib.hid (fun h1 w1 h => by
    subst h1
    refine (tput_any C q c p bb qb cb (by omega) hcap hq (by omega) hnn hp hqb hbl w1 ((hs.keep h).more h.size) (hE.keep h) ((hsb.keep h).more h.size)).mono ?_
    rintro e w2 ⟨⟨v, v5, rfl, hR⟩, hb⟩
    obtain ⟨a, b⟩ := chE_of (C := C) rfl (1, p, t, bb) v5
    rw [chP_put] at a b
    rw [b] at *
    have h2 := hTR w2 (h.trans (hb.mono h.size))
    obtain ⟨x, y⟩ := hR.tr h2.1 h2.2
    exact ⟨⟨v, rfl, rdt_of x y a⟩, hb⟩)
  have HMK : Hid (op = 2 → ∀ w1, Below w.heap.size w w1 → Calls Tryd.prog 10 #[.agg #[.slice q C.length c], .string p] w1 fun e w' => (∃ v, e = .returned (.tuple #[.agg #[v], .int .i64 (chE (era C) (op, p, t, bb)).2]) ∧ RdT w' v (chE (era C) (op, p, t, bb)).1) ∧ Below w1.heap.size w1 w') := Lib.hid (fun h1 w1 h => by
    subst h1
    refine (tmake_any C q c p (by omega) hcap hq (by omega) hnn hp w1 ((hs.keep h).more h.size) (hE.keep h)).mono ?_
    rintro e w2 ⟨⟨v, rfl, hR⟩, hb⟩
    obtain ⟨a, b⟩ := chE_of (C := C) rfl (2, p, t, bb) undef
    rw [chP_make] at a b
    rw [b] at *
    have h2 := hTR w2 (h.trans (hb.mono h.size))
    obtain ⟨x, y⟩ := hR.tr h2.1 h2.2
    exact ⟨⟨v, rfl, rdt_of x y a⟩, hb⟩)
  have HRM : Hid (op = 3 → ∀ w1, Below w.heap.size w w1 → Calls Tryd.prog 13 #[.agg #[.slice q C.length c], .string p] w1 fun e w' => (∃ v, e = .returned (.tuple #[.agg #[v], .int .i64 (chE (era C) (op, p, t, bb)).2]) ∧ RdT w' v (chE (era C) (op, p, t, bb)).1) ∧ Below w1.heap.size w1 w') := Lib.hid (fun h1 w1 h => by
    subst h1
    refine (tremove_any C q c p (by omega) hcap hq (by omega) hnn hp w1 ((hs.keep h).more h.size) (hE.keep h)).mono ?_
    rintro e w2 ⟨⟨v, rfl, hR⟩, hb⟩
    obtain ⟨a, b⟩ := chE_of (C := C) rfl (3, p, t, bb) undef
    rw [chP_remove] at a b
    rw [b] at *
    have h2 := hTR w2 (h.trans (hb.mono h.size))
    obtain ⟨x, y⟩ := hR.tr h2.1 h2.2
    exact ⟨⟨v, rfl, rdt_of x y a⟩, hb⟩)
  have HMV : Hid (op = 4 → ∀ w1, Below w.heap.size w w1 → Calls Tryd.prog 14 #[.agg #[.slice q C.length c], .string p, .string t] w1 fun e w' => (∃ v, e = .returned (.tuple #[.agg #[v], .int .i64 (chE (era C) (op, p, t, bb)).2]) ∧ RdT w' v (chE (era C) (op, p, t, bb)).1) ∧ Below w1.heap.size w1 w') := Lib.hid (fun h1 w1 h => by
    subst h1
    refine (tmove_any C q c p t (by omega) hcap hq (by omega) hnn hp ht w1 ((hs.keep h).more h.size) (hE.keep h)).mono ?_
    rintro e w2 ⟨⟨v, v5, rfl, x, y⟩, hb⟩
    obtain ⟨a, b⟩ := chE_of (C := C) rfl (4, p, t, bb) v5
    rw [chP_move] at a b
    rw [b] at *
    exact ⟨⟨v, rfl, rdt_of x y a⟩, hb⟩)
  have HEL : Hid (op ≠ 1 → op ≠ 2 → op ≠ 3 → op ≠ 4 → (chE (era C) (op, p, t, bb)).2 = 1 ∧ ∀ w', Below w.heap.size w w' → RdT w' (.slice q C.length c) (chE (era C) (op, p, t, bb)).1) := Lib.hid (fun h1 h2 h3 h4 => by
    unfold chE
    rw [chP_else _ _ _ _ _ _ h1 h2 h3 h4]
    exact ⟨rfl, fun w' h => rdt_of (hTR w' h).1 (hTR w' h).2 (era_era C).symm⟩)
  have HB : Hid (Below w.heap.size w (((w.alloc (.cells #[.slice q C.length c] 25)).alloc (.cells #[.int .i64 op, .string p, .string t, .slice qb bb.length cb] 47)).alloc (.cells #[.slice none 0 0] 25))) := Lib.hid ((((Below.refl _ _).alloc (Nat.le_refl _) _).alloc (by simp) _).alloc (by simp; omega) _)
  have HX : Hid (Has (((w.alloc (.cells #[.slice q C.length c] 25)).alloc (.cells #[.int .i64 op, .string p, .string t, .slice qb bb.length cb] 47)).alloc (.cells #[.slice none 0 0] 25)) w.heap.size 25 [.slice q C.length c]) := Lib.hid (((Has.made w _ _).alloc _).alloc _)
  have HA : Hid (Has (((w.alloc (.cells #[.slice q C.length c] 25)).alloc (.cells #[.int .i64 op, .string p, .string t, .slice qb bb.length cb] 47)).alloc (.cells #[.slice none 0 0] 25)) (w.heap.size + 1) 47 [.int .i64 op, .string p, .string t, .slice qb bb.length cb]) := Lib.hid ((Has.made1 w _ _ _ _ rfl).alloc _)
  have HY : Hid (Has (((w.alloc (.cells #[.slice q C.length c] 25)).alloc (.cells #[.int .i64 op, .string p, .string t, .slice qb bb.length cb] 47)).alloc (.cells #[.slice none 0 0] 25)) (w.heap.size + 2) 25 [.slice none 0 0]) := Lib.hid (by have h := Has.made1 (w.alloc (.cells #[.slice q C.length c] 25)) (.cells #[.int .i64 op, .string p, .string t, .slice qb bb.length cb] 47) 25 #[.slice none 0 0] _ rfl; simpa using h)
  clear hs hE hsb hTR hnn hna hby hm hg hq hqb hp ht hbl hcap
  have cx := HX.out.cellv (i := 0) (v := .slice q C.length c) rfl
  have a0 := HA.out.cellv (i := 0) (v := .int .i64 op) rfl
  have a1 := HA.out.cellv (i := 1) (v := .string p) rfl
  have a2 := HA.out.cellv (i := 2) (v := .string t) rfl
  have a3 := HA.out.cellv (i := 3) (v := .slice qb bb.length cb) rfl
  have hle : w.heap.size ≤ w.heap.size + 2 := by omega
  by_cases h1 : op = 1
  · subst h1
    have H0 := Lib.hid (HPU.out rfl)
    clear HPU HMK HRM HMV HEL
    generalize chE (era C) (1, p, t, bb) = R at *
    obtain ⟨Y, E⟩ := R
    simp only [] at H0 ⊢
    go_enter Tryd.func60, Tryd.ntmps60
    go_wp2_with fail
    clear cx a0 a1 a2 a3
    generalize ((w.alloc (.cells #[.slice q C.length c] 25)).alloc (.cells #[.int .i64 1, .string p, .string t, .slice qb bb.length cb] 47)).alloc (.cells #[.slice none 0 0] 25) = w0 at *
    refine (H0.out _ HB.out).mono ?_
    rintro e w1 ⟨⟨v, rfl, hR⟩, hb1⟩
    obtain ⟨x2, n2, c2, rfl⟩ := hR.slice
    replace HY := Lib.hid (HY.out.keep hb1 HY.out.lt)
    replace HB := Lib.hid (HB.out.trans (hb1.mono HB.out.size))
    have HR : Hid (RdT (w1.setCell ⟨w.heap.size + 2, 0, none⟩ (.slice x2 n2 c2)) (.slice x2 n2 c2) Y) := Lib.hid (hR.offC HY.out)
    have cy := HY.out.cellv (i := 0) (v := .slice none 0 0) rfl
    have fy := HY.out.free 0
    have hbz := Lib.hid (HB.out.setCell (p := ⟨w.heap.size + 2, 0, none⟩) hle (.slice x2 n2 c2))
    clear hb1 hR HX HA H0
    go_wp2_with fail
    have cz : (w1.setCell ⟨w.heap.size + 2, 0, none⟩ (.slice x2 n2 c2)).cell? ⟨w.heap.size + 2, 0, none⟩ = some (.slice x2 n2 c2) := World.cell?_setCell_same' _ _ _ (by rw [cy]; rfl)
    refine bodyPost_ret (by simp [results, Tryd.results60, go_sem, cz]; try rfl) rfl ?_
    exact ⟨⟨_, rfl, HR.out⟩, hbz.out⟩
  have kb1 : (op == 1) = false := by simpa using h1
  by_cases h2 : op = 2
  · subst h2
    have H0 := Lib.hid (HMK.out rfl)
    clear HPU HMK HRM HMV HEL
    generalize chE (era C) (2, p, t, bb) = R at *
    obtain ⟨Y, E⟩ := R
    simp only [] at H0 ⊢
    go_enter Tryd.func60, Tryd.ntmps60
    go_wp2_with fail
    clear cx a0 a1 a2 a3
    generalize ((w.alloc (.cells #[.slice q C.length c] 25)).alloc (.cells #[.int .i64 2, .string p, .string t, .slice qb bb.length cb] 47)).alloc (.cells #[.slice none 0 0] 25) = w0 at *
    refine (H0.out _ HB.out).mono ?_
    rintro e w1 ⟨⟨v, rfl, hR⟩, hb1⟩
    obtain ⟨x2, n2, c2, rfl⟩ := hR.slice
    replace HY := Lib.hid (HY.out.keep hb1 HY.out.lt)
    replace HB := Lib.hid (HB.out.trans (hb1.mono HB.out.size))
    have HR : Hid (RdT (w1.setCell ⟨w.heap.size + 2, 0, none⟩ (.slice x2 n2 c2)) (.slice x2 n2 c2) Y) := Lib.hid (hR.offC HY.out)
    have cy := HY.out.cellv (i := 0) (v := .slice none 0 0) rfl
    have fy := HY.out.free 0
    have hbz := Lib.hid (HB.out.setCell (p := ⟨w.heap.size + 2, 0, none⟩) hle (.slice x2 n2 c2))
    clear hb1 hR HX HA H0
    go_wp2_with fail
    have cz : (w1.setCell ⟨w.heap.size + 2, 0, none⟩ (.slice x2 n2 c2)).cell? ⟨w.heap.size + 2, 0, none⟩ = some (.slice x2 n2 c2) := World.cell?_setCell_same' _ _ _ (by rw [cy]; rfl)
    refine bodyPost_ret (by simp [results, Tryd.results60, go_sem, cz]; try rfl) rfl ?_
    exact ⟨⟨_, rfl, HR.out⟩, hbz.out⟩
  have kb2 : (op == 2) = false := by simpa using h2
  by_cases h3 : op = 3
  · subst h3
    have H0 := Lib.hid (HRM.out rfl)
    clear HPU HMK HRM HMV HEL
    generalize chE (era C) (3, p, t, bb) = R at *
    obtain ⟨Y, E⟩ := R
    simp only [] at H0 ⊢
    go_enter Tryd.func60, Tryd.ntmps60
    go_wp2_with fail
    clear cx a0 a1 a2 a3
    generalize ((w.alloc (.cells #[.slice q C.length c] 25)).alloc (.cells #[.int .i64 3, .string p, .string t, .slice qb bb.length cb] 47)).alloc (.cells #[.slice none 0 0] 25) = w0 at *
    refine (H0.out _ HB.out).mono ?_
    rintro e w1 ⟨⟨v, rfl, hR⟩, hb1⟩
    obtain ⟨x2, n2, c2, rfl⟩ := hR.slice
    replace HY := Lib.hid (HY.out.keep hb1 HY.out.lt)
    replace HB := Lib.hid (HB.out.trans (hb1.mono HB.out.size))
    have HR : Hid (RdT (w1.setCell ⟨w.heap.size + 2, 0, none⟩ (.slice x2 n2 c2)) (.slice x2 n2 c2) Y) := Lib.hid (hR.offC HY.out)
    have cy := HY.out.cellv (i := 0) (v := .slice none 0 0) rfl
    have fy := HY.out.free 0
    have hbz := Lib.hid (HB.out.setCell (p := ⟨w.heap.size + 2, 0, none⟩) hle (.slice x2 n2 c2))
    clear hb1 hR HX HA H0
    go_wp2_with fail
    have cz : (w1.setCell ⟨w.heap.size + 2, 0, none⟩ (.slice x2 n2 c2)).cell? ⟨w.heap.size + 2, 0, none⟩ = some (.slice x2 n2 c2) := World.cell?_setCell_same' _ _ _ (by rw [cy]; rfl)
    refine bodyPost_ret (by simp [results, Tryd.results60, go_sem, cz]; try rfl) rfl ?_
    exact ⟨⟨_, rfl, HR.out⟩, hbz.out⟩
  have kb3 : (op == 3) = false := by simpa using h3
  by_cases h4 : op = 4
  · subst h4
    have H0 := Lib.hid (HMV.out rfl)
    clear HPU HMK HRM HMV HEL
    generalize chE (era C) (4, p, t, bb) = R at *
    obtain ⟨Y, E⟩ := R
    simp only [] at H0 ⊢
    go_enter Tryd.func60, Tryd.ntmps60
    go_wp2_with fail
    clear cx a0 a1 a2 a3
    generalize ((w.alloc (.cells #[.slice q C.length c] 25)).alloc (.cells #[.int .i64 4, .string p, .string t, .slice qb bb.length cb] 47)).alloc (.cells #[.slice none 0 0] 25) = w0 at *
    refine (H0.out _ HB.out).mono ?_
    rintro e w1 ⟨⟨v, rfl, hR⟩, hb1⟩
    obtain ⟨x2, n2, c2, rfl⟩ := hR.slice
    replace HY := Lib.hid (HY.out.keep hb1 HY.out.lt)
    replace HB := Lib.hid (HB.out.trans (hb1.mono HB.out.size))
    have HR : Hid (RdT (w1.setCell ⟨w.heap.size + 2, 0, none⟩ (.slice x2 n2 c2)) (.slice x2 n2 c2) Y) := Lib.hid (hR.offC HY.out)
    have cy := HY.out.cellv (i := 0) (v := .slice none 0 0) rfl
    have fy := HY.out.free 0
    have hbz := Lib.hid (HB.out.setCell (p := ⟨w.heap.size + 2, 0, none⟩) hle (.slice x2 n2 c2))
    clear hb1 hR HX HA H0
    go_wp2_with fail
    have cz : (w1.setCell ⟨w.heap.size + 2, 0, none⟩ (.slice x2 n2 c2)).cell? ⟨w.heap.size + 2, 0, none⟩ = some (.slice x2 n2 c2) := World.cell?_setCell_same' _ _ _ (by rw [cy]; rfl)
    refine bodyPost_ret (by simp [results, Tryd.results60, go_sem, cz]; try rfl) rfl ?_
    exact ⟨⟨_, rfl, HR.out⟩, hbz.out⟩
  have kb4 : (op == 4) = false := by simpa using h4
  obtain ⟨hE1, hR⟩ := HEL.out h1 h2 h3 h4
  have HBF : Hid (Below w.heap.size w (((w.alloc (.cells #[.slice q C.length c] 25)).alloc (.cells #[.int .i64 op, .string p, .string t, .slice qb bb.length cb] 47)).alloc (.cells #[.slice q C.length c] 25))) := Lib.hid ((((Below.refl _ _).alloc (Nat.le_refl _) _).alloc (by simp) _).alloc (by simp; omega) _)
  have HR := Lib.hid (hR _ HBF.out)
  clear HPU HMK HRM HMV HEL hR
  generalize chE (era C) (op, p, t, bb) = R at *
  obtain ⟨Y, E⟩ := R
  simp only [] at HR hE1 ⊢
  subst hE1
  go_enter Tryd.func60, Tryd.ntmps60
  go_wp2_with fail
  refine bodyPost_ret (by simp [results, Tryd.results60, go_sem]; try rfl) rfl ?_
  exact ⟨⟨_, rfl, HR.out⟩, HBF.out⟩
end Go.Proofs.YtefamkckoikeoaaDoor
/- Contract: package disk's tear. Condition: fewer than 2^63 bytes. -/
namespace Go.Proofs.YtefamkckoikeoaaDoor
open Go.RowKit
set_option maxHeartbeats 4000000 in
set_option maxRecDepth 100000 in
theorem tear_any (op : Int) (p t : ByteArray) (bb : List (BitVec 8)) (qb : Option Addr) (cb : Nat) (hcb : bb.length ≤ cb) (hqb : qb = none → cb = 0) (torn : Int) (w : World) (hsb : Sees w w.heap.size qb (bb.map u8v)) :
    Calls Tryd.prog 63 #[.agg #[.int .i64 op, .string p, .string t, .slice qb bb.length cb], .int .i64 torn] w fun e w' => (∃ v, e = .returned (.agg #[.int .i64 op, .string p, .string t, v]) ∧ Bs w' v (tearC (op, p, t, bb) torn).2.2.2) ∧ Below w.heap.size w w' := by
  have HBB : Hid (∀ w', Below w.heap.size w w' → Bs w' (.slice qb bb.length cb) bb) := Lib.hid (fun w' h => ⟨qb, cb, rfl, hcb, hqb, (hsb.keep h).more h.size⟩)
  by_cases hc : 0 ≤ torn ∧ torn < (bb.length : Int)
  · obtain ⟨k, rfl⟩ := Int.eq_ofNat_of_zero_le hc.1
    have hk : k < bb.length := by omega
    have HT : Hid (∀ w', Below w.heap.size w w' → Bs w' (.slice qb k cb) (tearC (op, p, t, bb) k).2.2.2) := Lib.hid (fun w' h => by
      have e : (tearC (op, p, t, bb) k).2.2.2 = bb.take k := by unfold tearC; rw [if_pos hc]; rfl
      have el : (bb.take k).length = k := by rw [List.length_take]; omega
      rw [e]
      refine ⟨qb, cb, by rw [el], by omega, hqb, ?_⟩
      have := ((hsb.keep h).more h.size).head k
      rwa [← List.map_take] at this)
    have k1 : (0 : Int) ≤ (k : Int) := by omega
    have k2 : (k : Int) < (bb.length : Int) := by omega
    have k3 : (k : Int) ≤ (cb : Int) := by omega
    have hct := cut_to qb bb.length cb k (by omega)
    rw [cutQ_zero] at hct
    clear hc hsb hqb HBB
    go_enter Tryd.func63, Tryd.ntmps63
    go_wp2_with fail
    have hb : Below w.heap.size w ((w.alloc (.cells #[.int .i64 op, .string p, .string t, .slice qb k cb] 47)).alloc (.cells #[.int .i64 op, .string p, .string t, .slice qb k cb] 47)) := (((Below.refl _ _).alloc (Nat.le_refl _) _).alloc (by simp) _)
    refine bodyPost_ret (by simp [results, Tryd.results63, go_sem]; try rfl) rfl ?_
    exact ⟨⟨_, rfl, HT.out _ hb⟩, hb⟩
  · have HT : Hid (∀ w', Below w.heap.size w w' → Bs w' (.slice qb bb.length cb) (tearC (op, p, t, bb) torn).2.2.2) := Lib.hid (fun w' h => by
      have e : (tearC (op, p, t, bb) torn).2.2.2 = bb := by unfold tearC; rw [if_neg hc]
      rw [e]; exact HBB.out w' h)
    clear HBB hsb hqb
    by_cases h1 : 0 ≤ torn
    · have k2 : ¬ torn < (bb.length : Int) := fun h => hc ⟨h1, h⟩
      clear hc
      go_enter Tryd.func63, Tryd.ntmps63
      go_wp2_with fail
      have hb : Below w.heap.size w ((w.alloc (.cells #[.int .i64 op, .string p, .string t, .slice qb bb.length cb] 47)).alloc (.cells #[.int .i64 op, .string p, .string t, .slice qb bb.length cb] 47)) := (((Below.refl _ _).alloc (Nat.le_refl _) _).alloc (by simp) _)
      refine bodyPost_ret (by simp [results, Tryd.results63, go_sem]; try rfl) rfl ?_
      exact ⟨⟨_, rfl, HT.out _ hb⟩, hb⟩
    · clear hc
      go_enter Tryd.func63, Tryd.ntmps63
      go_wp2_with fail
      have hb : Below w.heap.size w ((w.alloc (.cells #[.int .i64 op, .string p, .string t, .slice qb bb.length cb] 47)).alloc (.cells #[.int .i64 op, .string p, .string t, .slice qb bb.length cb] 47)) := (((Below.refl _ _).alloc (Nat.le_refl _) _).alloc (by simp) _)
      refine bodyPost_ret (by simp [results, Tryd.results63, go_sem]; try rfl) rfl ?_
      exact ⟨⟨_, rfl, HT.out _ hb⟩, hb⟩
end Go.Proofs.YtefamkckoikeoaaDoor
/- A region that draws its order, walked in one named order in which two neighbours may stand either way round: both ways are walked, and joined in what both leave. The condition on the memory follows the world. No condition. -/
namespace Go.Proofs.YtefamkckoikeoaaDoor
open Go.RowKit
/-- A step of an order: one operation (whether it may be taken first), or two of them either way round. -/
abbrev Stp := Sum (Nat × Bool) (Nat × Nat)
abbrev StpL := Sum (Oper × Bool) (Oper × Oper)
def otB (md : Region.Mode) (ops : Array Oper) : List Stp → Array Bool → Bool
  | [], listed => (Region.ready md ops listed).isEmpty
  | .inl (i, true) :: r, listed => Region.free md ops listed i && ((Region.ready md ops listed).contains i && otB md ops r (listed.setIfInBounds i true))
  | .inl (i, false) :: r, listed => decide (Region.ready md ops listed = [i]) && otB md ops r (listed.setIfInBounds i true)
  | .inr (i, j) :: r, listed => (decide (Region.ready md ops listed = [i, j]) && decide (i ≠ j)) && ((decide (Region.ready md ops (listed.setIfInBounds i true) = [j]) && decide (Region.ready md ops (listed.setIfInBounds j true) = [i])) && otB md ops r ((listed.setIfInBounds i true).setIfInBounds j true))
def fewer : List Stp → Nat
  | [] => 0
  | .inl (_, _) :: r => fewer r + 1
  | .inr (_, _) :: r => fewer r + 2
def inB (n : Nat) : Stp → Bool
  | .inl (i, _) => decide (i < n)
  | .inr (i, j) => decide (i < n) && decide (j < n)
section
variable {P : Program} {md : Region.Mode} {ops : Array Oper} {Q : Exit → Act → World → Prop}
def wpOt (P : Program) (ops : Array Oper) (Q : Exit → Act → World → Prop) : List Stp → Act → World → Prop
  | [], a, w => Q .normal a w
  | .inl (i, true) :: r, a, w => ∃ o v, ops[i]? = some o ∧ YieldsIf P ops (Ext w) o v a ∧ wpOt P ops Q r (a.put o.dst v) w
  | .inl (i, false) :: r, a, w => wpOp P ops Q i (fun a' w' => Ext w w' ∧ wpOt P ops Q r a' w') a w
  | .inr (i, j) :: r, a, w => ∃ R : Act → World → Prop,
      (wpOp P ops Q i (fun a1 w1 => Ext w w1 ∧ wpOp P ops Q j (fun a2 w2 => Ext w1 w2 ∧ R a2 w2) a1 w1) a w ∧
       wpOp P ops Q j (fun a1 w1 => Ext w w1 ∧ wpOp P ops Q i (fun a2 w2 => Ext w1 w2 ∧ R a2 w2) a1 w1) a w) ∧ ∀ a' w', R a' w' → wpOt P ops Q r a' w'
theorem set_comm2 (l : Array Bool) (i j : Nat) (h : i ≠ j) : (l.setIfInBounds j true).setIfInBounds i true = (l.setIfInBounds i true).setIfInBounds j true := by
  exact Array.setIfInBounds_comm _ _ (Ne.symm h)
theorem wpAnyH_of_ot (hs : Region.noSelect ops = true) (hQ : ∀ c a d v w, Q (.panic c) (a.put d v) w → Q (.panic c) a w) :
    ∀ (l : List Stp) (fuel : Nat) (listed : Array Bool) (a : Act) (w : World), fewer l ≤ fuel → otB md ops l listed = true → wpOt P ops Q l a w →
      wpAnyH P md ops Q (Ext w) fuel listed a w
  | [], fuel, listed, a, w, _, hB, h => wpAnyH_done (by simpa [otB] using hB) h fuel
  | .inl (i, b) :: r, 0, _, _, _, hl, _, _ => absurd hl (by simp [fewer])
  | .inr (i, j) :: r, 0, _, _, _, hl, _, _ => absurd hl (by simp [fewer])
  | .inr (i, j) :: r, 1, _, _, _, hl, _, _ => absurd hl (by simp [fewer])
  | .inl (i, true) :: r, fuel + 1, listed, a, w, hl, hB, h => by
    obtain ⟨o, v, ho, hy, hr⟩ := h
    simp only [otB, Bool.and_eq_true] at hB
    exact wpAnyH_take ho hs hB.1 hB.2.1 (fun c a w => hQ c a _ v w) hy (Ext.refl w) (wpAnyH_of_ot hs hQ r fuel _ _ _ (by simpa [fewer] using hl) hB.2.2 hr)
  | .inl (i, false) :: r, fuel + 1, listed, a, w, hl, hB, h => by
    simp only [otB, Bool.and_eq_true, decide_eq_true_eq] at hB
    refine wpAnyH_all hB.1 (by simp) (fun j hj => ?_)
    have hj : j = i := by simpa using hj
    subst hj
    exact wpOp_mono (fun a' w' h' => ⟨h'.1, wpAnyH_mono (fun x hx => Ext.trans h'.1 hx) _ _ _ _ (wpAnyH_of_ot hs hQ r fuel _ _ _ (by simpa [fewer] using hl) hB.2 h'.2)⟩) h
  | .inr (i, j) :: r, fuel + 2, listed, a, w, hl, hB, h => by
    obtain ⟨R, ⟨h1, h2⟩, h3⟩ := h
    simp only [otB, Bool.and_eq_true, decide_eq_true_eq] at hB
    obtain ⟨⟨b1, bn⟩, ⟨b2, b3⟩, b4⟩ := hB
    have hf : fewer r ≤ fuel := by simp only [fewer] at hl; omega
    refine wpAnyH_all b1 (by simp) (fun k hk => ?_)
    rcases (show k = i ∨ k = j by simpa using hk) with rfl | rfl
    · refine wpOp_mono (fun a1 w1 h' => ⟨h'.1, wpAnyH_mono (fun x hx => Ext.trans h'.1 hx) _ _ _ _ (wpAnyH_all b2 (by simp) (fun k' hk' => ?_))⟩) h1
      have hk' : k' = j := by simpa using hk'
      subst hk'
      exact wpOp_mono (fun a2 w2 h'' => ⟨h''.1, wpAnyH_mono (fun x hx => Ext.trans h''.1 hx) _ _ _ _ (wpAnyH_of_ot hs hQ r fuel _ _ _ hf b4 (h3 _ _ h''.2))⟩) h'.2
    · refine wpOp_mono (fun a1 w1 h' => ⟨h'.1, wpAnyH_mono (fun x hx => Ext.trans h'.1 hx) _ _ _ _ (wpAnyH_all b3 (by simp) (fun k' hk' => ?_))⟩) h2
      have hk' : k' = i := by simpa using hk'
      subst hk'
      rw [set_comm2 listed k' k bn]
      exact wpOp_mono (fun a2 w2 h'' => ⟨h''.1, wpAnyH_mono (fun x hx => Ext.trans h''.1 hx) _ _ _ _ (wpAnyH_of_ot hs hQ r fuel _ _ _ hf b4 (h3 _ _ h''.2))⟩) h'.2
/-- One operation, wanted or passed over. -/
def stepL (P : Program) (ops : Array Oper) (Q : Exit → Act → World → Prop) (o : Oper) (K : Act → World → Prop) (a : Act) (w : World) : Prop :=
  if Region.wanted o (yielded ops a.tmps) then o.wp P a w K Q ∨ (o.asks P a w ∧ LetsOut Q) else K (a.put o.dst undef) w
theorem wpOp_step {i : Nat} {o : Oper} {K : Act → World → Prop} {a : Act} {w : World} (ho : ops[i]? = some o) (h : stepL P ops Q o K a w) : wpOp P ops Q i K a w := by
  unfold wpOp; rw [ho]; exact h
def wpOtL (P : Program) (ops : Array Oper) (Q : Exit → Act → World → Prop) : List StpL → Act → World → Prop
  | [], a, w => Q .normal a w
  | .inl (o, true) :: r, a, w => ∃ v, YieldsIf P ops (Ext w) o v a ∧ wpOtL P ops Q r (a.put o.dst v) w
  | .inl (o, false) :: r, a, w => ∃ R : Act → World → Prop, stepL P ops Q o (fun a' w' => Ext w w' ∧ R a' w') a w ∧ ∀ a' w', R a' w' → wpOtL P ops Q r a' w'
  | .inr (o, p) :: r, a, w => ∃ R : Act → World → Prop,
      (∃ R1 R2 : Act → World → Prop, (stepL P ops Q o (fun a1 w1 => Ext w w1 ∧ R1 a1 w1) a w ∧ ∀ a1 w1, R1 a1 w1 → stepL P ops Q p (fun a2 w2 => Ext w1 w2 ∧ R a2 w2) a1 w1) ∧
       (stepL P ops Q p (fun a1 w1 => Ext w w1 ∧ R2 a1 w1) a w ∧ ∀ a1 w1, R2 a1 w1 → stepL P ops Q o (fun a2 w2 => Ext w1 w2 ∧ R a2 w2) a1 w1)) ∧ ∀ a' w', R a' w' → wpOtL P ops Q r a' w'
def pickOt (l : List Oper) : List Stp → List StpL
  | [] => []
  | .inl (i, b) :: r => match l[i]? with
    | some o => .inl (o, b) :: pickOt l r
    | none => pickOt l r
  | .inr (i, j) :: r => match l[i]?, l[j]? with
    | some o, some p => .inr (o, p) :: pickOt l r
    | _, _ => pickOt l r
theorem wpOt_of_L (ops : Array Oper) : ∀ (l : List Stp) (a : Act) (w : World), (l.all (inB ops.size)) = true → wpOtL P ops Q (pickOt ops.toList l) a w → wpOt P ops Q l a w
  | [], _, _, _, h => h
  | .inl (i, b) :: r, a, w, hl, h => by
    simp only [List.all_cons, Bool.and_eq_true, inB, decide_eq_true_eq] at hl
    have ho : ops.toList[i]? = some ops[i] := by simp [hl.1]
    have ho' : ops[i]? = some ops[i] := by simp [hl.1]
    rw [pickOt, ho] at h
    cases b with
    | true =>
      obtain ⟨v, hy, hr⟩ := h
      exact ⟨_, v, ho', hy, wpOt_of_L ops r _ _ hl.2 hr⟩
    | false =>
      obtain ⟨R, h1, h2⟩ := h
      exact wpOp_mono (fun a' w' h' => ⟨h'.1, wpOt_of_L ops r _ _ hl.2 (h2 _ _ h'.2)⟩) (wpOp_step ho' h1)
  | .inr (i, j) :: r, a, w, hl, h => by
    simp only [List.all_cons, Bool.and_eq_true, inB, decide_eq_true_eq] at hl
    obtain ⟨⟨li, lj⟩, hl2⟩ := hl
    have ho : ops.toList[i]? = some ops[i] := by simp [li]
    have ho' : ops[i]? = some ops[i] := by simp [li]
    have hp : ops.toList[j]? = some ops[j] := by simp [lj]
    have hp' : ops[j]? = some ops[j] := by simp [lj]
    rw [pickOt, ho, hp] at h
    obtain ⟨R, ⟨R1, R2, ⟨h1, h2⟩, h3, h4⟩, h5⟩ := h
    exact ⟨R, ⟨wpOp_mono (fun a1 w1 h' => ⟨h'.1, wpOp_step hp' (h2 _ _ h'.2)⟩) (wpOp_step ho' h1), wpOp_mono (fun a1 w1 h' => ⟨h'.1, wpOp_step ho' (h4 _ _ h'.2)⟩) (wpOp_step hp' h3)⟩, fun a' w' hr => wpOt_of_L ops r _ _ hl2 (h5 _ _ hr)⟩
theorem ot_pure {o : Oper} {r : List StpL} {a : Act} {w : World} {v : Value} (hw : Region.wanted o (yielded ops a.tmps) = true)
    (hy : ∀ w', Ext w w' → (execOp a.eval o).run P w' = .ok (.value v) w') (h : wpOtL P ops Q r (a.put o.dst v) w) : wpOtL P ops Q (.inl (o, true) :: r) a w :=
  ⟨v, .inl ⟨hw, hy⟩, h⟩
theorem ot_skip {o : Oper} {r : List StpL} {a : Act} {w : World} (hw : Region.wanted o (yielded ops a.tmps) = false)
    (h : wpOtL P ops Q r (a.put o.dst undef) w) : wpOtL P ops Q (.inl (o, true) :: r) a w :=
  ⟨undef, .inr ⟨hw, rfl⟩, h⟩
theorem step_wp {o : Oper} {K : Act → World → Prop} {a : Act} {w : World} (hw : Region.wanted o (yielded ops a.tmps) = true) (h : o.wp P a w K Q) : stepL P ops Q o K a w := by
  unfold stepL; rw [if_pos hw]; exact .inl h
theorem ot_step {o : Oper} {r : List StpL} {a : Act} {w : World} (hw : Region.wanted o (yielded ops a.tmps) = true)
    (h : ∀ K : Act → World → Prop, (∀ a w', Ext w w' ∧ wpOtL P ops Q r a w' → K a w') → o.wp P a w K Q) : wpOtL P ops Q (.inl (o, false) :: r) a w :=
  ⟨_, step_wp hw (h _ fun _ _ h => h), fun _ _ h => h⟩
theorem ot_two {o p : Oper} {r : List StpL} {a : Act} {w : World} (F : Value → Value → World → Prop)
    (hw1 : Region.wanted o (yielded ops a.tmps) = true) (hw2 : Region.wanted p (yielded ops a.tmps) = true)
    (hw3 : ∀ v, Region.wanted p (yielded ops (a.put o.dst v).tmps) = true) (hw4 : ∀ v, Region.wanted o (yielded ops (a.put p.dst v).tmps) = true)
    (R1 R2 : Value → World → Prop)
    (h1 : ∀ K : Act → World → Prop, (∀ v w1, Ext w w1 ∧ R1 v w1 → K (a.put o.dst v) w1) → o.wp P a w K Q)
    (h2 : ∀ v w1, R1 v w1 → ∀ K : Act → World → Prop, (∀ u w2, Ext w1 w2 ∧ F v u w2 → K ((a.put o.dst v).put p.dst u) w2) → p.wp P (a.put o.dst v) w1 K Q)
    (h3 : ∀ K : Act → World → Prop, (∀ u w1, Ext w w1 ∧ R2 u w1 → K (a.put p.dst u) w1) → p.wp P a w K Q)
    (h4 : ∀ u w1, R2 u w1 → ∀ K : Act → World → Prop, (∀ v w2, Ext w1 w2 ∧ F v u w2 → K ((a.put p.dst u).put o.dst v) w2) → o.wp P (a.put p.dst u) w1 K Q)
    (hc : ∀ v u, (a.put p.dst u).put o.dst v = (a.put o.dst v).put p.dst u)
    (h : ∀ v u w', F v u w' → wpOtL P ops Q r ((a.put o.dst v).put p.dst u) w') : wpOtL P ops Q (.inr (o, p) :: r) a w := by
  refine ⟨fun a' w' => ∃ v u, a' = (a.put o.dst v).put p.dst u ∧ F v u w', ⟨fun a' w' => ∃ v, a' = a.put o.dst v ∧ R1 v w', fun a' w' => ∃ u, a' = a.put p.dst u ∧ R2 u w', ⟨?_, ?_⟩, ?_, ?_⟩, ?_⟩
  · exact step_wp hw1 (h1 _ fun v w1 hr => ⟨hr.1, v, rfl, hr.2⟩)
  · rintro a1 w1 ⟨v, rfl, hr⟩
    exact step_wp (hw3 v) (h2 v w1 hr _ fun u w2 hf => ⟨hf.1, v, u, rfl, hf.2⟩)
  · exact step_wp hw2 (h3 _ fun u w1 hr => ⟨hr.1, u, rfl, hr.2⟩)
  · rintro a1 w1 ⟨u, rfl, hr⟩
    exact step_wp (hw4 u) (h4 u w1 hr _ fun v w2 hf => ⟨hf.1, v, u, hc v u, hf.2⟩)
  · rintro a' w' ⟨v, u, rfl, hf⟩
    exact h v u w' hf
theorem ot_nil {a : Act} {w : World} (h : Q .normal a w) : wpOtL P ops (NoPanic Q) [] a w := h
end
/-- The check of an order, for a theorem of its own. -/
def otcB (l : List Stp) (q : Array Oper) : Bool :=
  decide (fewer l ≤ q.size) && (otB .any q l (Array.replicate q.size false) && l.all (inB q.size))
theorem wp_region_ot {P : Program} {Q : Exit → Act → World → Prop} {id : Nat} {a : Act} {w : World} {lo : List Oper} (l : List Stp) (q : Array Oper) (hq : otcB l q = true) (he : lo.toArray = q) (hm : P.follows .mixedOrders = true) (hs : Region.noSelect lo.toArray = true)
    (h : wpOtL P lo.toArray (NoPanic Q) (pickOt lo l) a w.drew) : (Code.region id lo.toArray true).wp P Q a w := by
  rw [← he] at hq
  unfold otcB at hq
  simp only [Bool.and_eq_true, decide_eq_true_eq] at hq
  exact wp_region_noPanic (wp_region_held_drew (S := Ext w.drew) hm (Ext.refl _) fun _ => wpAnyH_of_ot hs (fun _ _ _ _ _ h => h) l _ _ _ _ hq.1 hq.2.1 (wpOt_of_L _ _ _ _ hq.2.2 h))
end Go.Proofs.YtefamkckoikeoaaDoor
/- A region that draws its order, walked in one named order in which two neighbours may stand either way round, under a condition on the memory that is kept throughout (so that what is loaded and then written again stands in the order itself). No condition. -/
namespace Go.Proofs.YtefamkckoikeoaaDoor
open Go.RowKit
section
variable {P : Program} {md : Region.Mode} {ops : Array Oper} {S : World → Prop} {Q : Exit → Act → World → Prop}
def wpOs (P : Program) (ops : Array Oper) (S : World → Prop) (Q : Exit → Act → World → Prop) : List Stp → Act → World → Prop
  | [], a, w => Q .normal a w
  | .inl (i, true) :: r, a, w => ∃ o v, ops[i]? = some o ∧ YieldsIf P ops S o v a ∧ wpOs P ops S Q r (a.put o.dst v) w
  | .inl (i, false) :: r, a, w => wpOp P ops Q i (fun a' w' => S w' ∧ wpOs P ops S Q r a' w') a w
  | .inr (i, j) :: r, a, w => ∃ R : Act → World → Prop,
      (wpOp P ops Q i (fun a1 w1 => S w1 ∧ wpOp P ops Q j (fun a2 w2 => S w2 ∧ R a2 w2) a1 w1) a w ∧
       wpOp P ops Q j (fun a1 w1 => S w1 ∧ wpOp P ops Q i (fun a2 w2 => S w2 ∧ R a2 w2) a1 w1) a w) ∧ ∀ a' w', R a' w' → wpOs P ops S Q r a' w'
theorem wpAnyH_of_os (hs : Region.noSelect ops = true) (hQ : ∀ c a d v w, Q (.panic c) (a.put d v) w → Q (.panic c) a w) :
    ∀ (l : List Stp) (fuel : Nat) (listed : Array Bool) (a : Act) (w : World), fewer l ≤ fuel → otB md ops l listed = true → S w → wpOs P ops S Q l a w →
      wpAnyH P md ops Q S fuel listed a w
  | [], fuel, listed, a, w, _, hB, _, h => wpAnyH_done (by simpa [otB] using hB) h fuel
  | .inl (i, b) :: r, 0, _, _, _, hl, _, _, _ => absurd hl (by simp [fewer])
  | .inr (i, j) :: r, 0, _, _, _, hl, _, _, _ => absurd hl (by simp [fewer])
  | .inr (i, j) :: r, 1, _, _, _, hl, _, _, _ => absurd hl (by simp [fewer])
  | .inl (i, true) :: r, fuel + 1, listed, a, w, hl, hB, hS, h => by
    obtain ⟨o, v, ho, hy, hr⟩ := h
    simp only [otB, Bool.and_eq_true] at hB
    exact wpAnyH_take ho hs hB.1 hB.2.1 (fun c a w => hQ c a _ v w) hy hS (wpAnyH_of_os hs hQ r fuel _ _ _ (by simpa [fewer] using hl) hB.2.2 hS hr)
  | .inl (i, false) :: r, fuel + 1, listed, a, w, hl, hB, hS, h => by
    simp only [otB, Bool.and_eq_true, decide_eq_true_eq] at hB
    refine wpAnyH_all hB.1 (by simp) (fun j hj => ?_)
    have hj : j = i := by simpa using hj
    subst hj
    exact wpOp_mono (fun a' w' h' => ⟨h'.1, wpAnyH_of_os hs hQ r fuel _ _ _ (by simpa [fewer] using hl) hB.2 h'.1 h'.2⟩) h
  | .inr (i, j) :: r, fuel + 2, listed, a, w, hl, hB, hS, h => by
    obtain ⟨R, ⟨h1, h2⟩, h3⟩ := h
    simp only [otB, Bool.and_eq_true, decide_eq_true_eq] at hB
    obtain ⟨⟨b1, bn⟩, ⟨b2, b3⟩, b4⟩ := hB
    have hf : fewer r ≤ fuel := by simp only [fewer] at hl; omega
    refine wpAnyH_all b1 (by simp) (fun k hk => ?_)
    rcases (show k = i ∨ k = j by simpa using hk) with rfl | rfl
    · refine wpOp_mono (fun a1 w1 h' => ⟨h'.1, wpAnyH_all b2 (by simp) (fun k' hk' => ?_)⟩) h1
      have hk' : k' = j := by simpa using hk'
      subst hk'
      exact wpOp_mono (fun a2 w2 h'' => ⟨h''.1, wpAnyH_of_os hs hQ r fuel _ _ _ hf b4 h''.1 (h3 _ _ h''.2)⟩) h'.2
    · refine wpOp_mono (fun a1 w1 h' => ⟨h'.1, wpAnyH_all b3 (by simp) (fun k' hk' => ?_)⟩) h2
      have hk' : k' = i := by simpa using hk'
      subst hk'
      rw [set_comm2 listed k' k bn]
      exact wpOp_mono (fun a2 w2 h'' => ⟨h''.1, wpAnyH_of_os hs hQ r fuel _ _ _ hf b4 h''.1 (h3 _ _ h''.2)⟩) h'.2
def wpOsL (P : Program) (ops : Array Oper) (S : World → Prop) (Q : Exit → Act → World → Prop) : List StpL → Act → World → Prop
  | [], a, w => Q .normal a w
  | .inl (o, true) :: r, a, w => ∃ v, YieldsIf P ops S o v a ∧ wpOsL P ops S Q r (a.put o.dst v) w
  | .inl (o, false) :: r, a, w => ∃ R : Act → World → Prop, stepL P ops Q o (fun a' w' => S w' ∧ R a' w') a w ∧ ∀ a' w', R a' w' → wpOsL P ops S Q r a' w'
  | .inr (o, p) :: r, a, w => ∃ R : Act → World → Prop,
      (∃ R1 R2 : Act → World → Prop, (stepL P ops Q o (fun a1 w1 => S w1 ∧ R1 a1 w1) a w ∧ ∀ a1 w1, R1 a1 w1 → stepL P ops Q p (fun a2 w2 => S w2 ∧ R a2 w2) a1 w1) ∧
       (stepL P ops Q p (fun a1 w1 => S w1 ∧ R2 a1 w1) a w ∧ ∀ a1 w1, R2 a1 w1 → stepL P ops Q o (fun a2 w2 => S w2 ∧ R a2 w2) a1 w1)) ∧ ∀ a' w', R a' w' → wpOsL P ops S Q r a' w'
theorem wpOs_of_L (ops : Array Oper) : ∀ (l : List Stp) (a : Act) (w : World), (l.all (inB ops.size)) = true → wpOsL P ops S Q (pickOt ops.toList l) a w → wpOs P ops S Q l a w
  | [], _, _, _, h => h
  | .inl (i, b) :: r, a, w, hl, h => by
    simp only [List.all_cons, Bool.and_eq_true, inB, decide_eq_true_eq] at hl
    have ho : ops.toList[i]? = some ops[i] := by simp [hl.1]
    have ho' : ops[i]? = some ops[i] := by simp [hl.1]
    rw [pickOt, ho] at h
    cases b with
    | true =>
      obtain ⟨v, hy, hr⟩ := h
      exact ⟨_, v, ho', hy, wpOs_of_L ops r _ _ hl.2 hr⟩
    | false =>
      obtain ⟨R, h1, h2⟩ := h
      exact wpOp_mono (fun a' w' h' => ⟨h'.1, wpOs_of_L ops r _ _ hl.2 (h2 _ _ h'.2)⟩) (wpOp_step ho' h1)
  | .inr (i, j) :: r, a, w, hl, h => by
    simp only [List.all_cons, Bool.and_eq_true, inB, decide_eq_true_eq] at hl
    obtain ⟨⟨li, lj⟩, hl2⟩ := hl
    have ho : ops.toList[i]? = some ops[i] := by simp [li]
    have ho' : ops[i]? = some ops[i] := by simp [li]
    have hp : ops.toList[j]? = some ops[j] := by simp [lj]
    have hp' : ops[j]? = some ops[j] := by simp [lj]
    rw [pickOt, ho, hp] at h
    obtain ⟨R, ⟨R1, R2, ⟨h1, h2⟩, h3, h4⟩, h5⟩ := h
    exact ⟨R, ⟨wpOp_mono (fun a1 w1 h' => ⟨h'.1, wpOp_step hp' (h2 _ _ h'.2)⟩) (wpOp_step ho' h1), wpOp_mono (fun a1 w1 h' => ⟨h'.1, wpOp_step ho' (h4 _ _ h'.2)⟩) (wpOp_step hp' h3)⟩, fun a' w' hr => wpOs_of_L ops r _ _ hl2 (h5 _ _ hr)⟩
theorem os_pure {o : Oper} {r : List StpL} {a : Act} {w : World} {v : Value} (hw : Region.wanted o (yielded ops a.tmps) = true)
    (hy : ∀ w', S w' → (execOp a.eval o).run P w' = .ok (.value v) w') (h : wpOsL P ops S Q r (a.put o.dst v) w) : wpOsL P ops S Q (.inl (o, true) :: r) a w :=
  ⟨v, .inl ⟨hw, hy⟩, h⟩
theorem os_skip {o : Oper} {r : List StpL} {a : Act} {w : World} (hw : Region.wanted o (yielded ops a.tmps) = false)
    (h : wpOsL P ops S Q r (a.put o.dst undef) w) : wpOsL P ops S Q (.inl (o, true) :: r) a w :=
  ⟨undef, .inr ⟨hw, rfl⟩, h⟩
theorem os_step {o : Oper} {r : List StpL} {a : Act} {w : World} (hw : Region.wanted o (yielded ops a.tmps) = true)
    (h : ∀ K : Act → World → Prop, (∀ a w', S w' ∧ wpOsL P ops S Q r a w' → K a w') → o.wp P a w K Q) : wpOsL P ops S Q (.inl (o, false) :: r) a w :=
  ⟨_, step_wp hw (h _ fun _ _ h => h), fun _ _ h => h⟩
theorem os_two {o p : Oper} {r : List StpL} {a : Act} {w : World} (F : Value → Value → World → Prop)
    (hw1 : Region.wanted o (yielded ops a.tmps) = true) (hw2 : Region.wanted p (yielded ops a.tmps) = true)
    (hw3 : ∀ v, Region.wanted p (yielded ops (a.put o.dst v).tmps) = true) (hw4 : ∀ v, Region.wanted o (yielded ops (a.put p.dst v).tmps) = true)
    (R1 R2 : Value → World → Prop)
    (h1 : ∀ K : Act → World → Prop, (∀ v w1, S w1 ∧ R1 v w1 → K (a.put o.dst v) w1) → o.wp P a w K Q)
    (h2 : ∀ v w1, R1 v w1 → ∀ K : Act → World → Prop, (∀ u w2, S w2 ∧ F v u w2 → K ((a.put o.dst v).put p.dst u) w2) → p.wp P (a.put o.dst v) w1 K Q)
    (h3 : ∀ K : Act → World → Prop, (∀ u w1, S w1 ∧ R2 u w1 → K (a.put p.dst u) w1) → p.wp P a w K Q)
    (h4 : ∀ u w1, R2 u w1 → ∀ K : Act → World → Prop, (∀ v w2, S w2 ∧ F v u w2 → K ((a.put p.dst u).put o.dst v) w2) → o.wp P (a.put p.dst u) w1 K Q)
    (hc : ∀ v u, (a.put p.dst u).put o.dst v = (a.put o.dst v).put p.dst u)
    (h : ∀ v u w', F v u w' → wpOsL P ops S Q r ((a.put o.dst v).put p.dst u) w') : wpOsL P ops S Q (.inr (o, p) :: r) a w := by
  refine ⟨fun a' w' => ∃ v u, a' = (a.put o.dst v).put p.dst u ∧ F v u w', ⟨fun a' w' => ∃ v, a' = a.put o.dst v ∧ R1 v w', fun a' w' => ∃ u, a' = a.put p.dst u ∧ R2 u w', ⟨?_, ?_⟩, ?_, ?_⟩, ?_⟩
  · exact step_wp hw1 (h1 _ fun v w1 hr => ⟨hr.1, v, rfl, hr.2⟩)
  · rintro a1 w1 ⟨v, rfl, hr⟩
    exact step_wp (hw3 v) (h2 v w1 hr _ fun u w2 hf => ⟨hf.1, v, u, rfl, hf.2⟩)
  · exact step_wp hw2 (h3 _ fun u w1 hr => ⟨hr.1, u, rfl, hr.2⟩)
  · rintro a1 w1 ⟨u, rfl, hr⟩
    exact step_wp (hw4 u) (h4 u w1 hr _ fun v w2 hf => ⟨hf.1, v, u, hc v u, hf.2⟩)
  · rintro a' w' ⟨v, u, rfl, hf⟩
    exact h v u w' hf
theorem os_nil {a : Act} {w : World} (h : Q .normal a w) : wpOsL P ops S (NoPanic Q) [] a w := h
theorem wp_val {o : Oper} {a : Act} {w : World} {v : Value} {K : Act → World → Prop} (h : (execOp a.eval o).run P w = .ok (.value v) w) (hk : K (a.put o.dst v) w) : o.wp P a w K Q := by
  unfold Oper.wp; rw [h]; exact hk
end
theorem wp_region_os {P : Program} {Q : Exit → Act → World → Prop} {id : Nat} {a : Act} {w : World} {lo : List Oper} (l : List Stp) (q : Array Oper) (hq : otcB l q = true) (he : lo.toArray = q) (hm : P.follows .mixedOrders = true) (hs : Region.noSelect lo.toArray = true) (S : World → Prop) (hS : S w.drew)
    (h : wpOsL P lo.toArray S (NoPanic Q) (pickOt lo l) a w.drew) : (Code.region id lo.toArray true).wp P Q a w := by
  rw [← he] at hq
  unfold otcB at hq
  simp only [Bool.and_eq_true, decide_eq_true_eq] at hq
  exact wp_region_noPanic (wp_region_held_drew (S := S) hm hS fun _ => wpAnyH_of_os hs (fun _ _ _ _ _ h => h) l _ _ _ _ hq.1 hq.2.1 hS (wpOs_of_L _ _ _ _ hq.2.2 h))
end Go.Proofs.YtefamkckoikeoaaDoor
/- A disk's small promises: what waits is not large; a row of changes as it is seen. No condition. -/
namespace Go.Proofs.YtefamkckoikeoaaDoor
open Go.RowKit
theorem load_at {P : Program} {o : Oper} {ev : Operand → Value} (T : TypeId) (x : Operand) (ho : o.op = .load T x) (g : Nat) (hx : ev x = .pointer (some ⟨g, 0, none⟩)) (t : TypeId) (l : List Value) (w : World)
    (hS : Has w g t l) (d : TypeDesc) (hu : P.underlying T = some d) (hd : (match d with | .struct _ | .array _ _ => true | _ => false) = true) (hi : (P.info? T).map (·.size) = some l.toArray.size) :
    (execOp ev o).run P w = .ok (.value (.agg l.toArray)) w := by
  unfold execOp
  simp only [ho, hx, Instr.loadAt, Instr.sureAddr, Sem.run_bind, Sem.run_pure, Result.andThen_ok, run_loadVar_row w g t T l.toArray (0, 0) d hS hu hd hi]
/-- What waits, what the fuse keeps, is not large. -/
def Sm (S : DS) : Prop := S.waits.length ≤ 100000 ∧ (∀ c ∈ S.waits, c.2.1.size < 2305843009213693952 ∧ c.2.2.1.size < 2305843009213693952 ∧ c.2.2.2.length ≤ 140737488355328) ∧ S.keep.length ≤ 1152921504606846976 ∧ S.left ≤ 9223372036854775807
theorem crash_sm {S : DS} (h : Sm S) (K : List Int) (torn : Int) : Sm (crashS S K torn) := by
  unfold crashS
  split
  · exact h
  · exact ⟨Nat.zero_le _, fun _ h => (by cases h), Nat.zero_le _, (show (0 : Int) ≤ 9223372036854775807 by decide)⟩
theorem power_sm {S : DS} (h : Sm S) : Sm (powerS S) := by
  unfold powerS
  split
  · split
    · exact crash_sm (S := { S with left := 0 }) ⟨h.1, h.2.1, h.2.2.1, (show (0 : Int) ≤ 9223372036854775807 by decide)⟩ _ _
    · exact ⟨h.1, h.2.1, h.2.2.1, by have := h.2.2.2; simp only; omega⟩
  · exact h
theorem do_sm {S : DS} (h : Sm S) (c : Chg) (hc : c.2.1.size < 2305843009213693952 ∧ c.2.2.1.size < 2305843009213693952 ∧ c.2.2.2.length ≤ 140737488355328) (hl : S.waits.length < 100000) : Sm (doS S c).1 := by
  have hp := power_sm h
  have hl2 : (powerS S).waits.length < 100000 := by
    unfold powerS
    split
    · split
      · unfold crashS; split
        · exact hl
        · simp
      · exact hl
    · exact hl
  unfold doS
  split
  · exact hp
  · split
    · exact hp
    · split
      · exact hp
      · refine ⟨?_, fun x hx => ?_, hp.2.2⟩
        · simp only [List.length_append, List.length_singleton]; omega
        · rcases List.mem_append.1 hx with h | h
          · exact hp.2.1 x h
          · rw [List.mem_singleton.1 h]; exact hc
theorem sync_sm {S : DS} (h : Sm S) : Sm (syncS S).1 := by
  have hp := power_sm h
  unfold syncS
  split
  · exact hp
  · exact ⟨Nat.zero_le _, fun _ h => (by cases h), hp.2.2⟩
theorem fuse_sm {S : DS} (h : Sm S) (n : Int) (K : List Int) (torn : Int) (hn : n ≤ 9223372036854775807) (hk : K.length ≤ 1152921504606846976) : Sm (fuseS S n K torn) := by
  unfold fuseS
  split
  · exact h
  · split
    · exact ⟨h.1, h.2.1, hk, hn⟩
    · exact ⟨h.1, h.2.1, Nat.zero_le _, (show (0 : Int) ≤ 9223372036854775807 by decide)⟩
theorem own_seesC {w : World} {n : Nat} {v : Value} {L : List ActE} (h : w.ownsRow n 47 4 v L.length (rowA L)) : ∃ q c, v = .slice q L.length c ∧ L.length ≤ c ∧ (q = none → c = 0) ∧ Sees w w.heap.size q (rowA L) := by
  rcases h.2 with ⟨rfl, h0⟩ | ⟨g, cap, cur, rfl, hb, hg, h1, _⟩
  · have : L = [] := List.eq_nil_of_length_eq_zero h0
    subst this
    exact ⟨none, 0, rfl, Nat.le_refl _, fun _ => rfl, Sees.nil _ _ _⟩
  · refine ⟨_, cap, rfl, h1, fun e => (by cases e), fun _ => ⟨_, rfl, (Array.getElem?_eq_some_iff.1 hg).1, ?_⟩⟩
    exact World.ownsRow.cells h (g := g) rfl
theorem own_fr {w w' : World} {base n k : Nat} {e : TypeId} {v : Value} {xs : List Value} {X : Nat → Prop} (h : w.ownsRow base e k v n xs) (hf : Fr X w w') (hx : ∀ b, X b → b < base) : w'.ownsRow base e k v n xs := by
  rcases h.2 with ⟨rfl, h0⟩ | ⟨g', cap, cur, rfl, hb', hg', h1, h2, h3, h4⟩
  · exact ⟨h.1, .inl ⟨rfl, h0⟩⟩
  · exact ⟨h.1, .inr ⟨g', cap, cur, rfl, hb', (hf.block g' (Array.getElem?_eq_some_iff.1 hg').1 fun hx' => by have := hx _ hx'; omega).trans hg', h1, h2, h3, h4⟩⟩
theorem strip_eq (op : Int) (p t : ByteArray) (v : Value) (b : List (BitVec 8)) : strip (op, p, t, v, b) = (op, p, t, b) := rfl
end Go.Proofs.YtefamkckoikeoaaDoor
/- Contract: package disk's Crash. Conditions: what waits is not large. -/
namespace Go.Proofs.YtefamkckoikeoaaDoor
open Go.RowKit
noncomputable def chkCr : Array Oper := regOf Tryd.f24.body 4
set_option maxRecDepth 100000 in
theorem chkCr_ok : otcB [.inl (0, true), .inl (1, true), .inl (2, true), .inl (3, true), .inl (5, true), .inl (6, true), .inr (4, 7), .inl (8, false), .inl (9, true), .inl (10, true), .inl (11, true), .inl (12, true), .inl (13, true), .inl (14, false)] chkCr = true := by kernel_rfl
set_option maxHeartbeats 16000000 in
set_option maxRecDepth 100000 in
theorem crash_any (g n : Nat) (B : Option Nat) (S : DS) (K : List Int) (qk : Option Addr) (ck : Nat) (torn : Int) (hK : K.length ≤ 1152921504606846976) (hsm : Sm S) (w : World) (hD : DiskAt w g n B S) (ht : Sees w w.heap.size qk (K.map (Value.int .i64))) :
    Calls Tryd.prog 24 #[.pointer (some ⟨g, 0, none⟩), .slice qk K.length ck, .int .i64 torn] w fun e w' => e = .returned (.tuple #[]) ∧ After w g n B (crashS S K torn) w' := by
  have HD := Lib.hid hD
  have HSM := Lib.hid hsm
  have hD0 := hD
  obtain ⟨hgn, hnw, hok, vn, vl, vw, vk, hh, h1, h2, h3, ⟨L, hL, h4, hBs, _⟩, h5⟩ := hD
  have c4 := hh.cellv (i := 4) (v := .bool S.off) rfl
  by_cases hoff : S.off = true
  · have HA : Hid (After w g n B (crashS S K torn) w) := Lib.hid (by unfold crashS; rw [if_pos hoff]; exact After.refl hD0)
    rw [hoff] at c4
    clear hh h1 h2 h3 h4 h5 hBs hD0 hok ht
    go_enter Tryd.func24, Tryd.ntmps24
    go_wp2_with fail
    refine bodyPost_ret (v := .tuple #[]) (by simp [results, Tryd.results24, go_sem]; try rfl) rfl ?_
    exact ⟨rfl, HA.out⟩
  have hoff' : S.off = false := by simpa using hoff
  rw [hoff'] at c4
  obtain ⟨qw, cw, rfl, hcw, hqw, hsw⟩ := own_seesC h4
  have c2 := hh.cellv (i := 2) (v := .slice qw L.length cw) rfl
  have hLl : L.length = S.waits.length := by rw [← hL, List.length_map]
  have HBL := Lib.hid hBs
  have HKP := Lib.hid (kept_any L qw cw K qk ck (by have := hsm.1; omega) hK (fun e he => by obtain ⟨q, c, h, _⟩ := hBs e he; exact ⟨q, _, c, h⟩) w hsw ht)
  have HL := Lib.hid hL
  have HOFF := Lib.hid hoff'
  have HGN := Lib.hid (And.intro hgn hnw)
  clear hh h1 h2 h3 h4 h5 hBs hD0 hok ht hsw hoff hoff' hgn hnw hqw hcw hLl hL hsm
  go_enter Tryd.func24, Tryd.ntmps24
  go_wp2_with fail
  refine HKP.out.mono ?_
  rintro e w1 ⟨⟨v1, rfl, hO1⟩, hb1⟩
  have HD1 := Lib.hid (HD.out.keep hb1)
  have HB1 := Lib.hid hb1
  have HBM : Hid (∀ e ∈ keptF K 0 L, Bs w1 e.2.2.2.1 e.2.2.2.2) := Lib.hid (fun e he => (HBL.out e (keptF_mem K L 0 e he)).keep hb1)
  have HMS : Hid (∀ e ∈ keptF K 0 L, (e.2.1.size < 2305843009213693952 ∧ e.2.2.1.size < 2305843009213693952) ∧ e.2.2.2.2.length ≤ 140737488355328) := Lib.hid (fun e he => by
    have hm : strip e ∈ S.waits := by rw [← HL.out]; exact List.mem_map_of_mem (keptF_mem K L 0 e he)
    have := HSM.out.2.1 _ hm
    exact ⟨⟨this.1, this.2.1⟩, this.2.2⟩)
  have HKF : Hid ((keptF K 0 L).map strip = keptF K 0 S.waits) := Lib.hid (by rw [keptF_map, HL.out])
  have HML : Hid ((keptF K 0 L).length ≤ 100000) := Lib.hid (by have := keptF_len K L 0; have h2 := HSM.out.1; rw [← HL.out, List.length_map] at h2; omega)
  generalize keptF K 0 L = M at *
  obtain ⟨qv, cv, rfl, hcv, hqv, -⟩ := own_seesC hO1
  have HO1 := Lib.hid hO1
  clear hb1 hO1 HBL HKP HL c4 c2
  go_wp2_with fail
  go_loopw [7, 19] (fun _ vi wr => ∃ i : Nat, i ≤ M.length ∧ vi = .int .i64 i ∧ DiskAt wr g n B { S with lasts := foldC S.lasts ((M.map strip).take i) torn } ∧ Fr (fun k => k = g) w1 wr) (fun _ vi _ => M.length - (intOf vi).toNat)
  case atStart => exact ⟨0, by omega, rfl, HD1.out, Fr.refl _ _⟩
  case round =>
    rename World => wr
    obtain ⟨i, hi, rfl, hD, hF⟩ := hrel
    have HDR := Lib.hid hD
    have HFR := Lib.hid hF
    clear hD hF HD1
    by_cases hlt : i < M.length
    · have kk : (i : Int) < (M.length : Int) := by omega
      obtain ⟨e, he⟩ : ∃ e, M[i] = e := ⟨_, rfl⟩
      have hem : e ∈ M := he ▸ List.getElem_mem hlt
      obtain ⟨⟨hp, ht⟩, hbl⟩ := HMS.out e hem
      have HTK : Hid ((M.map strip).take (i + 1) = (M.map strip).take i ++ [strip e]) := Lib.hid (by rw [List.take_add_one, List.getElem?_map, List.getElem?_eq_getElem hlt, he]; rfl)
      obtain ⟨q', c', hqe, -, -, hsv⟩ := own_seesC (own_fr HO1.out HFR.out (fun b hb => by have := HGN.out; omega))
      cases hqe
      obtain ⟨a, rfl, ha, hc⟩ := hsv.act hlt
      obtain ⟨c0, c1, c2, c3⟩ := hc wr (Below.refl _ _)
      have hbs := (HBM.out e hem).fr HFR.out (fun k _ hk => hk ▸ (HD.out.keep HB1.out).boxy)
      rw [he] at c0 c1 c2 c3
      obtain ⟨op, p, t, bv, bb⟩ := e
      obtain ⟨qb, cb, hv, hcb, hqb, hsb⟩ := hbs
      have hv' : bv = .slice qb (List.length bb) cb := hv
      subst hv'
      simp only [] at c0 c1 c2 c3 hp ht hbl hcb hsb
      have HPT : Hid ((p.size < 2305843009213693952 ∧ t.size < 2305843009213693952) ∧ bb.length ≤ 140737488355328) := Lib.hid ⟨⟨hp, ht⟩, hbl⟩
      have HQB : Hid (bb.length ≤ cb ∧ (qb = none → cb = 0)) := Lib.hid ⟨hcb, hqb⟩
      have hb := (Below.refl _ wr).alloc (Nat.le_refl _) (.cells #[.int .i64 op, .string p, .string t, .slice qb bb.length cb] 47)
      have HA : Hid (Has (wr.alloc (.cells #[.int .i64 op, .string p, .string t, .slice qb bb.length cb] 47)) wr.heap.size 47 [.int .i64 op, .string p, .string t, .slice qb bb.length cb]) := Lib.hid (Has.made wr _ _)
      have HDA := Lib.hid (HDR.out.keep hb)
      have HFA := Lib.hid (HFR.out.then_below hb)
      have HSB := Lib.hid ((hsb.keep hb).more hb.size)
      have hgx : g ≠ wr.heap.size := Nat.ne_of_lt HDR.out.lt
      clear hv hcb hqb hsb hc ha hsv hb he hem hp ht hbl
      go_wp2_with fail
      generalize wr.alloc (.cells #[.int .i64 op, .string p, .string t, .slice qb bb.length cb] 47) = wA at *
      generalize wr.heap.size = BX at *
      clear c0 c1 c2 c3 HDR HFR
      refine wp_region_os [.inl (0, true), .inl (1, true), .inl (2, true), .inl (3, true), .inl (5, true), .inl (6, true), .inr (4, 7), .inl (8, false), .inl (9, true), .inl (10, true), .inl (11, true), .inl (12, true), .inl (13, true), .inl (14, false)] _ chkCr_ok rfl (by kernel_rfl) (by kernel_rfl) (fun w' => Has w' BX 47 [.int .i64 op, .string p, .string t, .slice qb bb.length cb]) HA.out.drew ?_
      replace HDA : Hid (DiskAt wA.drew g n B _) := Lib.hid (HDA.out.keep (Below.refl _ wA).drew)
      replace HFA : Hid (Fr (fun k => k = g) w1 wA.drew) := Lib.hid (HFA.out.then_below (Below.refl _ wA).drew)
      replace HSB : Hid (Sees wA.drew wA.drew.heap.size qb (bb.map u8v)) := HSB
      replace HA : Hid (Has wA.drew BX 47 [.int .i64 op, .string p, .string t, .slice qb bb.length cb]) := HA
      generalize wA.drew = wd at *
      obtain ⟨_, _, hok, vn, vl, vw, vk, hh, hn, ⟨C, hC, ⟨ql, cl, rfl, hcl, hql, hsl⟩, hEl⟩, hB, hW, hKp⟩ := HDA.out
      have hg : goodP C = true := by rw [← era_good, hC]; exact hok.lasts
      have HTE := Lib.hid (fun w2 (h : Below wd.heap.size wd w2) => tear_any op p t bb qb cb HQB.out.1 HQB.out.2 torn w2 ((HSB.out.keep h).more h.size))
      have HCL : Hid ((tearC (op, p, t, bb) torn).1 = op ∧ (tearC (op, p, t, bb) torn).2.1 = p ∧ (tearC (op, p, t, bb) torn).2.2.1 = t ∧ (tearC (op, p, t, bb) torn).2.2.2.length ≤ bb.length) := Lib.hid (by
        unfold tearC; split
        · refine ⟨rfl, rfl, rfl, ?_⟩; simp only [List.length_take]; omega
        · exact ⟨rfl, rfl, rfl, Nat.le_refl _⟩)
      have HCH : Hid (∀ w2 v', Below wd.heap.size wd w2 → Bs w2 v' (tearC (op, p, t, bb) torn).2.2.2 → Calls Tryd.prog 60 #[.agg #[.slice ql C.length cl], .agg #[.int .i64 op, .string p, .string t, v']] w2 fun e w' => (∃ v, e = .returned (.tuple #[.agg #[v], .int .i64 (chE (era C) (tearC (op, p, t, bb) torn)).2]) ∧ RdT w' v (chE (era C) (tearC (op, p, t, bb) torn)).1) ∧ Below w2.heap.size w2 w') := Lib.hid (fun w2 v' h hb => by
        obtain ⟨q2, c2, rfl, h1, h2, h3⟩ := hb
        have e4 := HCL.out
        obtain ⟨⟨hp, ht⟩, hbl⟩ := HPT.out
        have h5 : (tearC (op, p, t, bb) torn) = (op, p, t, (tearC (op, p, t, bb) torn).2.2.2) := by
          refine Prod.ext e4.1 (Prod.ext e4.2.1 (Prod.ext e4.2.2.1 rfl))
        have h6 := changed_any C ql cl hcl hql hg op p t (tearC (op, p, t, bb) torn).2.2.2 q2 c2 h2 hp ht (by omega) w2 ((hsl.keep h).more h.size) (hEl.keep h) h3
        rw [← h5] at h6
        exact h6)
      rw [hC] at HCH
      have cg1 := hh.cellv (i := 1) (v := .slice ql C.length cl) rfl
      have HHH := Lib.hid hh
      have HOK : Hid (DS.Ok { S with lasts := (chE (foldC S.lasts ((M.map strip).take i) torn) (tearC (op, p, t, bb) torn)).1 }) := Lib.hid ⟨hok.now, chE_good hok.lasts _, hok.nowE, chE_era _ _⟩
      have HNX : Hid (foldC S.lasts ((M.map strip).take (i + 1)) torn = (chE (foldC S.lasts ((M.map strip).take i) torn) (tearC (op, p, t, bb) torn)).1) := Lib.hid (by rw [HTK.out, foldC_add]; rfl)
      generalize foldC S.lasts ((M.map strip).take i) torn = FL at *
      generalize chE FL (tearC (op, p, t, bb) torn) = RR at *
      obtain ⟨Y, EE⟩ := RR
      generalize (tearC (op, p, t, bb) torn).2.2.2 = bt at *
      simp only [] at HCH HOK HNX
      have HRN := Lib.hid hn
      have HRW := Lib.hid hW
      have HRK := Lib.hid hKp
      have HRB := Lib.hid hB
      clear hok hh hn hcl hql hsl hEl hB hW hKp hg hC HTK HCL HPT HQB HSB
      simp only [pickOt, List.getElem?_cons_zero, List.getElem?_cons_succ]
      refine os_pure (v := ?_) (by kernel_rfl) ?_ ?_
      rotate_left
      · intro w' hv; clear hv; go_simp; try with_reducible rfl
      try simp only [Act.put, List.setIfInBounds_toArray, List.set_cons_zero, List.set_cons_succ]
      refine os_pure (v := ?_) (by kernel_rfl) ?_ ?_
      rotate_left
      · intro w' hv; clear hv; go_simp; try with_reducible rfl
      try simp only [Act.put, List.setIfInBounds_toArray, List.set_cons_zero, List.set_cons_succ]
      refine os_pure (v := ?_) (by kernel_rfl) ?_ ?_
      rotate_left
      · intro w' hv; clear hv; go_simp; try with_reducible rfl
      try simp only [Act.put, List.setIfInBounds_toArray, List.set_cons_zero, List.set_cons_succ]
      refine os_pure (v := ?_) (by kernel_rfl) ?_ ?_
      rotate_left
      · intro w' hv; clear hv; go_simp; try with_reducible rfl
      try simp only [Act.put, List.setIfInBounds_toArray, List.set_cons_zero, List.set_cons_succ]
      refine os_pure (by kernel_rfl) (fun w' hv => load_at 47 (.tmp 7) rfl BX rfl 47 _ w' hv _ Tryd.underlying47 rfl (by kernel_rfl)) ?_
      try simp only [Act.put, List.setIfInBounds_toArray, List.set_cons_zero, List.set_cons_succ]
      refine os_pure (v := ?_) (by kernel_rfl) ?_ ?_
      rotate_left
      · intro w' hv; clear hv; go_simp; try with_reducible rfl
      try simp only [Act.put, List.setIfInBounds_toArray, List.set_cons_zero, List.set_cons_succ]
      refine os_two (fun v u w' => v = .agg #[.slice ql C.length cl] ∧ (∃ v', u = .agg #[.int .i64 op, .string p, .string t, v'] ∧ Bs w' v' bt) ∧ Below wd.heap.size wd w') (by kernel_rfl) (by kernel_rfl) (fun v => by kernel_rfl) (fun v => by kernel_rfl)
        (fun v w' => v = .agg #[.slice ql C.length cl] ∧ w' = wd) (fun u w' => (∃ v', u = .agg #[.int .i64 op, .string p, .string t, v'] ∧ Bs w' v' bt) ∧ Below wd.heap.size wd w') ?_ ?_ ?_ ?_ (fun v u => rfl) ?_
      · intro K hK
        go_wp2_with fail
        exact HA.out
      · rintro v w2 ⟨rfl, rfl⟩ K hK
        go_wp2_with fail
        refine (HTE.out _ (Below.refl _ _)).mono ?_
        rintro e w3 ⟨⟨v', rfl, hbs⟩, hb⟩
        have hx := HA.out.keep hb HA.out.lt
        go_wp2_with fail
        exact ⟨hx, trivial, ⟨_, rfl, hbs⟩, hb⟩
      · intro K hK
        go_wp2_with fail
        refine (HTE.out _ (Below.refl _ _)).mono ?_
        rintro e w3 ⟨⟨v', rfl, hbs⟩, hb⟩
        have hx := HA.out.keep hb HA.out.lt
        go_wp2_with fail
        exact ⟨hx, ⟨_, rfl, hbs⟩, hb⟩
      · rintro u w2 ⟨⟨v', rfl, hbs⟩, hb⟩ K hK
        have cg := (HHH.out.keep hb HHH.out.lt).cellv (i := 1) (v := .slice ql C.length cl) rfl
        have hx := HA.out.keep hb HA.out.lt
        go_wp2_with fail
      · rintro v u w2 ⟨rfl, ⟨v', rfl, hbs⟩, hb⟩
        obtain ⟨qz, cz, rfl, _, _, _⟩ := id hbs
        have HBS2 := Lib.hid hbs
        have HB2 := Lib.hid hb
        clear hbs hb cg1
        try simp only [Act.put, List.setIfInBounds_toArray, List.set_cons_zero, List.set_cons_succ]
        refine os_step (by kernel_rfl) (fun K hK => ?_)
        go_wp2_with fail
        refine (HCH.out _ _ HB2.out HBS2.out).mono ?_
        rintro e w3 ⟨⟨v, rfl, hR⟩, hb⟩
        obtain ⟨qy, ny, cy, rfl⟩ := hR.slice
        replace HB2 := Lib.hid (HB2.out.trans (hb.mono HB2.out.size))
        have HA3 := Lib.hid (HA.out.keep HB2.out HA.out.lt)
        have HHH3 := Lib.hid (HHH.out.keep HB2.out HHH.out.lt)
        have HD3 := Lib.hid (HDA.out.keep HB2.out)
        have HR3 := Lib.hid hR
        have HRN3 := Lib.hid (HRN.out.keep HB2.out)
        have HRW3 := Lib.hid (HRW.out.fr (X := fun _ => False) (Fr.of_below HB2.out) (fun _ _ h => h.elim) (fun _ h => h.elim))
        have HRK3 := Lib.hid (HRK.out.fr (X := fun _ => False) (Fr.of_below HB2.out) (fun _ h => h.elim))
        have HF3 := Lib.hid (HFA.out.then_below HB2.out)
        clear hb hR HCH HTE HBS2 HRN HRW HRK HDA HHH HA HFA
        go_wp2_with fail
        refine ⟨HA3.out, ?_⟩
        clear hK
        refine os_pure (v := ?_) (by kernel_rfl) ?_ ?_
        rotate_left
        · intro w' hv; clear hv; go_simp; try with_reducible rfl
        try simp only [Act.put, List.setIfInBounds_toArray, List.set_cons_zero, List.set_cons_succ]
        refine os_pure (v := ?_) (by kernel_rfl) ?_ ?_
        rotate_left
        · intro w' hv; clear hv; go_simp; try with_reducible rfl
        try simp only [Act.put, List.setIfInBounds_toArray, List.set_cons_zero, List.set_cons_succ]
        refine os_pure (v := ?_) (by kernel_rfl) ?_ ?_
        rotate_left
        · intro w' hv; clear hv; go_simp; try with_reducible rfl
        try simp only [Act.put, List.setIfInBounds_toArray, List.set_cons_zero, List.set_cons_succ]
        refine os_pure (v := ?_) (by kernel_rfl) ?_ ?_
        rotate_left
        · intro w' hv; clear hv; go_simp; try with_reducible rfl
        try simp only [Act.put, List.setIfInBounds_toArray, List.set_cons_zero, List.set_cons_succ]
        refine os_pure (v := ?_) (by kernel_rfl) ?_ ?_
        rotate_left
        · intro w' hv; clear hv; go_simp; try with_reducible rfl
        try simp only [Act.put, List.setIfInBounds_toArray, List.set_cons_zero, List.set_cons_succ]
        have cg := HHH3.out.cellv (i := 1) (v := .slice ql C.length cl) rfl
        have fg := HHH3.out.free 1
        have HDN : Hid (DiskAt (w3.setCell ⟨g, 1, none⟩ (.slice qy ny cy)) g n B { S with lasts := Y }) := Lib.hid (disk_put HD3.out ((Fr.refl _ w3).set1 1 _) HOK.out (HHH3.out.put 1 (.slice qy ny cy)) HRN3.out HR3.out HRB.out HRW3.out HRK3.out)
        have HFN : Hid (Fr (fun k => k = g) w1 (w3.setCell ⟨g, 1, none⟩ (.slice qy ny cy))) := Lib.hid (HF3.out.set1 1 _)
        have HAN : Hid (Has (w3.setCell ⟨g, 1, none⟩ (.slice qy ny cy)) BX 47 [.int .i64 op, .string p, .string t, .slice qb bb.length cb]) := Lib.hid (HA3.out.off (p := ⟨g, 1, none⟩) (Ne.symm hgx) _)
        refine os_step (by kernel_rfl) (fun K hK => ?_)
        go_wp2_with fail
        refine ⟨HAN.out, ?_⟩
        clear cg fg
        try simp only [Act.put, List.setIfInBounds_toArray, List.set_cons_zero, List.set_cons_succ]
        refine os_nil (P := Tryd.prog) (ops := #[]) (S := fun _ => True) ?_
        have kwi : IntKind.i64.wrap ((i : Int) + 1) = (i : Int) + 1 := by rw [IntWalk.i64_in _ (by have := HML.out; omega)]
        go_wp2_with fail
        go_roundw
        case rel => exact ⟨i + 1, by omega, by go_num, by rw [HNX.out]; exact HDN.out, HFN.out⟩
        case measure => simp [intOf]; omega
    · have hil : i = M.length := by omega
      subst hil
      have k0 : ¬ (M.length : Int) < (M.length : Int) := by omega
      rw [List.take_of_length_le (by rw [List.length_map]; exact Nat.le_refl _), HKF.out] at HDR
      obtain ⟨_, _, hok, vn, vl, vw, vk, hh, hn, hl, hB, hW, hKp⟩ := HDR.out
      obtain ⟨ql, nl, cl, rfl⟩ := hl.slice
      obtain ⟨qn, nn, cn, rfl⟩ := hn.slice
      obtain ⟨qw2, nw2, cw2, rfl⟩ := hW.slice
      obtain ⟨qk2, nk2, ck2, rfl⟩ := hKp.slice
      have c0 := hh.cellv (i := 0) (v := .slice qn nn cn) rfl
      have c1 := hh.cellv (i := 1) (v := .slice ql nl cl) rfl
      have c2 := hh.cellv (i := 2) (v := .slice qw2 nw2 cw2) rfl
      have c4 := hh.cellv (i := 4) (v := .bool S.off) rfl
      have c5 := hh.cellv (i := 5) (v := .int .i64 S.left) rfl
      have c6 := hh.cellv (i := 6) (v := .slice qk2 nk2 ck2) rfl
      have c7 := hh.cellv (i := 7) (v := .int .i64 S.torn) rfl
      have f0 := hh.free 0
      have f2 := hh.free 2
      have f4 := hh.free 4
      have f5 := hh.free 5
      have f6 := hh.free 6
      have f7 := hh.free 7
      have HHH := Lib.hid hh
      have HHL := Lib.hid hl
      have HOK := Lib.hid hok
      have HAF : Hid (After w g n B (crashS S K torn) ((((((wr.setCell ⟨g, 0, none⟩ (.slice ql nl cl)).setCell ⟨g, 2, none⟩ (.slice none 0 0)).setCell ⟨g, 5, none⟩ (.int .i64 0)).setCell ⟨g, 6, none⟩ (.slice none 0 0)).setCell ⟨g, 7, none⟩ (.int .i64 0)).setCell ⟨g, 4, none⟩ (.bool true))) := Lib.hid (by
        have e : crashS S K torn = { S with now := foldC S.lasts (keptF K 0 S.waits) torn, lasts := foldC S.lasts (keptF K 0 S.waits) torn, waits := [], off := true, left := 0, keep := [], torn := 0 } := by
          unfold crashS; rw [if_neg (by rw [HOFF.out]; simp)]
        rw [e]
        refine After.trans (B' := B) (.inl rfl) (((Fr.of_below (X := Own g B) HB1.out)).trans (HFR.out.mono (Y := Own g B) fun _ _ hk => .inl hk) fun _ _ hk => hk) ?_
        exact after_put HDR.out ((((((( Fr.refl _ wr).set1 0 _).set1 2 _).set1 5 _).set1 6 _).set1 7 _).set1 4 _) ⟨hok.lasts, hok.lasts, hok.lastsE, hok.lastsE⟩ ((((((hh.put 0 _).put 2 _).put 5 _).put 6 _).put 7 _).put 4 _) hl hl (B' := none) rfl (ChgRow.nil _ _ _) (KeepAt.nil _ _ _) (.inr (.inl rfl)))
      clear hh hn hl hB hW hKp hok hlt HDR HFR
      go_wp2_with fail
      refine bodyPost_end (v := .tuple #[]) (by simp [results, Tryd.results24, go_sem]; try rfl) rfl ?_
      exact ⟨rfl, HAF.out⟩
end Go.Proofs.YtefamkckoikeoaaDoor
