/- A drawn region in which one operation that is no read (memory made) may come up anywhere along a chain of others (calls, pure ones ahead), and one named order behind. No condition. -/
import Derived.Test.YthpendoblgndcaaDoorBase5
import Derived.Test.YthpendoblgndcaaDoorExt1
namespace Go.Proofs.YthpendoblgndcaaDoor
open Go.RowKit
section
variable {P : Program} {md : Region.Mode} {ops : Array Oper} {S : World → Prop} {Q : Exit → Act → World → Prop}
/-- The floating one: wherever along the chain; behind both the tail. -/
def wpFl (P : Program) (ops : Array Oper) (S : World → Prop) (Q : Exit → Act → World → Prop) (ok : Oper) (tail : List (Oper × Bool)) : List (Oper × Bool) → Act → World → Prop
  | [], a, w => ok.wp P a w (fun a' w' => S w' ∧ wpOrsL P ops S Q tail a' w') Q
  | (o, true) :: r, a, w => ∃ v, YieldsIf P ops S o v a ∧ wpFl P ops S Q ok tail r (a.put o.dst v) w
  | (o, false) :: r, a, w => o.guard = none ∧ o.wp P a w (fun a' w' => S w' ∧ wpFl P ops S Q ok tail r a' w') Q ∧
      ok.wp P a w (fun a' w' => S w' ∧ wpOrsL P ops S Q ((o, false) :: r ++ tail) a' w') Q
def flB (md : Region.Mode) (ops : Array Oper) (k : Nat) (tail : List (Nat × Bool)) : List (Nat × Bool) → Array Bool → Bool
  | [], listed => decide (Region.ready md ops listed = [k]) && orsB md ops tail (listed.setIfInBounds k true)
  | (i, true) :: r, listed => Region.free md ops listed i && ((Region.ready md ops listed).contains i && flB md ops k tail r (listed.setIfInBounds i true))
  | (i, false) :: r, listed => (decide (Region.ready md ops listed = [i, k]) || decide (Region.ready md ops listed = [k, i])) && (flB md ops k tail r (listed.setIfInBounds i true) && orsB md ops ((i, false) :: r ++ tail) (listed.setIfInBounds k true))
theorem pickOrs_app (l : List Oper) : ∀ (A B : List (Nat × Bool)), pickOrs l (A ++ B) = pickOrs l A ++ pickOrs l B
  | [], _ => rfl
  | (i, b) :: A, B => by
    show pickOrs l ((i, b) :: (A ++ B)) = _
    rw [pickOrs, pickOrs, pickOrs_app l A B]
    cases l[i]? <;> rfl
theorem wpAnyH_of_fl (hs : Region.noSelect ops = true) (hQ : ∀ c a d v w, Q (.panic c) (a.put d v) w → Q (.panic c) a w) (k : Nat) (ok : Oper) (hk : ops[k]? = some ok) (gk : ok.guard = none)
    (tail : List (Nat × Bool)) (ht : (tail.all fun x => decide (x.1 < ops.size)) = true) :
    ∀ (l : List (Nat × Bool)) (fuel : Nat) (listed : Array Bool) (a : Act) (w : World), l.length + 1 + tail.length ≤ fuel → flB md ops k tail l listed = true → (l.all fun x => decide (x.1 < ops.size)) = true → S w →
      wpFl P ops S Q ok (pickOrs ops.toList tail) (pickOrs ops.toList l) a w → wpAnyH P md ops Q S fuel listed a w
  | [], 0, _, _, _, hl, _, _, _, _ => absurd hl (by simp)
  | [], fuel + 1, listed, a, w, hl, hB, _, hS, h => by
    simp only [flB, Bool.and_eq_true, decide_eq_true_eq] at hB
    refine wpAnyH_all hB.1 (by simp) fun x hx => ?_
    obtain rfl : x = k := by simpa using hx
    exact wpOp_mono (fun a' w' h' => ⟨h'.1, wpAnyH_of_ors hs hQ tail fuel _ _ _ (by simp at hl; omega) hB.2 h'.1 (wpOrs_of_L _ _ _ _ ht h'.2)⟩) (wpOp_plain2 hk gk h)
  | (i, b) :: r, 0, _, _, _, hl, _, _, _, _ => absurd hl (by simp)
  | (i, true) :: r, fuel + 1, listed, a, w, hl, hB, ha, hS, h => by
    simp only [List.all_cons, Bool.and_eq_true, decide_eq_true_eq] at ha
    have ho : ops.toList[i]? = some ops[i] := by simp [ha.1]
    have ho' : ops[i]? = some ops[i] := by simp [ha.1]
    rw [pickOrs, ho] at h
    obtain ⟨v, hy, hr⟩ := h
    simp only [flB, Bool.and_eq_true] at hB
    exact wpAnyH_take ho' hs hB.1 hB.2.1 (fun c a w => hQ c a _ v w) hy hS (wpAnyH_of_fl hs hQ k ok hk gk tail ht r fuel _ _ _ (by simp at hl; omega) hB.2.2 ha.2 hS hr)
  | (i, false) :: r, fuel + 1, listed, a, w, hl, hB, ha, hS, h => by
    have ha0 := ha
    simp only [List.all_cons, Bool.and_eq_true, decide_eq_true_eq] at ha
    have ho : ops.toList[i]? = some ops[i] := by simp [ha.1]
    have ho' : ops[i]? = some ops[i] := by simp [ha.1]
    have hpk : pickOrs ops.toList ((i, false) :: r ++ tail) = (ops[i], false) :: pickOrs ops.toList r ++ pickOrs ops.toList tail := by
      rw [pickOrs_app, pickOrs, ho]
    rw [pickOrs, ho] at h
    obtain ⟨hg, h1, h2⟩ := h
    simp only [flB, Bool.and_eq_true, Bool.or_eq_true, decide_eq_true_eq] at hB
    have step : ∀ x, (x = i ∨ x = k) → wpOp P ops Q x (fun a' w' => S w' ∧ wpAnyH P md ops Q S fuel (listed.setIfInBounds x true) a' w') a w := fun x hx => by
      rcases hx with rfl | rfl
      · exact wpOp_mono (fun a' w' h' => ⟨h'.1, wpAnyH_of_fl hs hQ k ok hk gk tail ht r fuel _ _ _ (by simp at hl; omega) hB.2.1 ha.2 h'.1 h'.2⟩) (wpOp_plain2 ho' hg h1)
      · refine wpOp_mono (fun a' w' h' => ⟨h'.1, wpAnyH_of_ors hs hQ ((i, false) :: r ++ tail) fuel _ _ _ (by simp at hl ⊢; omega) hB.2.2 h'.1 (wpOrs_of_L _ _ _ _ (by rw [List.all_append, ha0, ht]; rfl) (by rw [hpk]; exact h'.2))⟩) (wpOp_plain2 hk gk h2)
    rcases hB.1 with hr | hr
    · exact wpAnyH_all hr (by simp) fun x hx => step x (by simpa using hx)
    · exact wpAnyH_all hr (by simp) fun x hx => step x (by simpa [or_comm] using hx)
theorem fl_pure {ok o : Oper} {tail r : List (Oper × Bool)} {a : Act} {w : World} {v : Value} (hw : Region.wanted o (yielded ops a.tmps) = true)
    (hy : ∀ w', S w' → (execOp a.eval o).run P w' = .ok (.value v) w') (h : wpFl P ops S Q ok tail r (a.put o.dst v) w) : wpFl P ops S Q ok tail ((o, true) :: r) a w := ⟨v, .inl ⟨hw, hy⟩, h⟩
theorem fl_step {ok o : Oper} {tail r : List (Oper × Bool)} {a : Act} {w : World} (hg : o.guard = none)
    (h1 : ∀ K : Act → World → Prop, (∀ a' w', S w' ∧ wpFl P ops S Q ok tail r a' w' → K a' w') → o.wp P a w K Q)
    (h2 : ∀ K : Act → World → Prop, (∀ a' w', S w' ∧ wpOrsL P ops S Q ((o, false) :: r ++ tail) a' w' → K a' w') → ok.wp P a w K Q) : wpFl P ops S Q ok tail ((o, false) :: r) a w :=
  ⟨hg, h1 _ fun _ _ h => h, h2 _ fun _ _ h => h⟩
theorem fl_nil {ok : Oper} {tail : List (Oper × Bool)} {a : Act} {w : World}
    (h : ∀ K : Act → World → Prop, (∀ a' w', S w' ∧ wpOrsL P ops S Q tail a' w' → K a' w') → ok.wp P a w K Q) : wpFl P ops S Q ok tail [] a w := h _ fun _ _ h => h
end
/-- The check of a chain, for a theorem of its own. -/
def flOk (l : List (Nat × Bool)) (k : Nat) (tail : List (Nat × Bool)) (q : Array Oper) : Bool :=
  (decide (l.length + 1 + tail.length ≤ q.size) && flB .any q k tail l (Array.replicate q.size false)) && ((tail.all fun x => decide (x.1 < q.size)) && l.all fun x => decide (x.1 < q.size))
theorem wp_region_fl {P : Program} {Q : Exit → Act → World → Prop} {id : Nat} {a : Act} {w : World} {lo : List Oper} (l : List (Nat × Bool)) (k : Nat) (tail : List (Nat × Bool)) (ok : Oper) (hk : lo[k]? = some ok) (gk : ok.guard = none)
    (hm : P.follows .mixedOrders = true) (hs : Region.noSelect lo.toArray = true) (q : Array Oper) (hB : flOk l k tail q = true) (hq : lo.toArray = q) (S : World → Prop) (hS : S w.drew)
    (h : wpFl P lo.toArray S (NoPanic Q) ok (pickOrs lo tail) (pickOrs lo l) a w.drew) : (Code.region id lo.toArray true).wp P Q a w := by
  subst hq
  unfold flOk at hB
  simp only [Bool.and_eq_true, decide_eq_true_eq] at hB
  obtain ⟨⟨b0, b1⟩, b2, b3⟩ := hB
  refine wp_region_noPanic (wp_region_held_drew (S := S) hm hS fun _ => ?_)
  have hk' : lo.toArray[k]? = some ok := by simpa using hk
  exact wpAnyH_of_fl hs (fun _ _ _ _ _ h => h) k ok hk' gk tail b2 l _ _ _ _ b0 b1 b3 hS h
end Go.Proofs.YthpendoblgndcaaDoor
/- Contract: package tree's Move. Conditions: at most 900 entries, all bytes together at most 2^61, paths shorter than 2^61 bytes. -/
namespace Go.Proofs.YthpendoblgndcaaDoor
open Go.RowKit
def outI (C : List Ent) (i : Nat) : List Ent := C.take i ++ C.drop (i + 1)
def byT (C : List Ent) (k : Nat) : List (BitVec 8) := ((C[k]?).map Ent.by).getD []
def valT (C : List Ent) (k : Nat) : Value := ((C[k]?).map Ent.val).getD undef
/-- Move, as the program reckons it: v is the value of the new entry's bytes. -/
def moveP (C : List Ent) (f t : ByteArray) (v : Value) : List Ent × Int :=
  if askT C [f, t] ≠ 0 then (C, askT C [f, t]) else if hasT C f.data.toList = false then (C, 5) else if dirT C (posT C f.data.toList) = true then (C, 7) else
  if f.data.toList = t.data.toList then (C, 0) else
  if (putP (outI C (posT C f.data.toList)) t (byT C (posT C f.data.toList)) v).2 ≠ 0 then (C, (putP (outI C (posT C f.data.toList)) t (byT C (posT C f.data.toList)) v).2)
  else ((putP (outI C (posT C f.data.toList)) t (byT C (posT C f.data.toList)) v).1, 0)
theorem split_at {C : List Ent} {i : Nat} (hi : i < C.length) : C = C.take i ++ C[i] :: C.drop (i + 1) := by
  conv => lhs; rw [← List.take_append_drop i C, List.drop_eq_getElem_cons hi]
theorem outI_mem {C : List Ent} {i : Nat} {e : Ent} (h : e ∈ outI C i) : e ∈ C := by
  rcases List.mem_append.1 h with h | h
  · exact List.mem_of_mem_take h
  · exact List.mem_of_mem_drop h
theorem outI_sub {C : List Ent} {i : Nat} (hi : i < C.length) : (outI C i).Sublist C := by
  conv => rhs; rw [split_at hi]
  exact (List.Sublist.refl _).append (List.sublist_cons_self _ _)
theorem outI_len {C : List Ent} {i : Nat} (hi : i < C.length) : (outI C i).length + 1 = C.length := by
  unfold outI
  rw [List.length_append, List.length_take, List.length_drop]; omega
theorem outI_bytes {C : List Ent} {i : Nat} (hi : i < C.length) : bytesT (outI C i) + C[i].by.length = bytesT C := by
  conv => rhs; rw [split_at hi]
  unfold outI
  rw [bytesT_app', bytesT_app', bytesT_cons]; omega
theorem dirT_at {C : List Ent} {i : Nat} (hi : i < C.length) : dirT C i = C[i].dir := by
  unfold dirT; rw [List.getElem?_eq_getElem hi]; rfl
theorem byT_at {C : List Ent} {i : Nat} (hi : i < C.length) : byT C i = C[i].by := by
  unfold byT; rw [List.getElem?_eq_getElem hi]; rfl
theorem valT_at {C : List Ent} {i : Nat} (hi : i < C.length) : valT C i = C[i].val := by
  unfold valT; rw [List.getElem?_eq_getElem hi]; rfl
theorem ResT.own {w : World} {b b0 : Nat} {old v : Value} {D X : List Ent} (h : ResT w b old D v X) (h0 : OwnT w b0 old D) (hb : b0 ≤ b) : OwnT w b0 v X := by
  rcases h.1 with ⟨rfl, rfl⟩ | h
  · exact h0
  · exact h.less hb
theorem ResT.ents {w : World} {b b0 : Nat} {old v : Value} {C D X : List Ent} (h : ResT w b old D v X) (hD : ∀ y ∈ D, y ∈ C) (hb : b0 ≤ b) : ∀ y ∈ X, y ∈ C ∨ OwnB w b0 y :=
  fun y hy => (h.2 y hy).imp (hD y) fun h => h.less hb
noncomputable def chkMv : Array Oper := regOf Tryd.f14.body 11
set_option maxRecDepth 100000 in
theorem chkMv_ok : flOk [(0, true), (1, true), (3, true), (4, true), (5, true), (6, true), (7, true), (8, true), (9, true), (2, false), (10, false), (11, true), (12, true), (13, true)] 14 [(15, false), (16, true)] chkMv = true := by kernel_rfl
set_option maxHeartbeats 16000000 in
set_option maxRecDepth 100000 in
theorem tmove_any (C : List Ent) (q : Option Addr) (c : Nat) (f t : ByteArray) (hm : C.length ≤ 900) (hcap : C.length ≤ c) (hq : q = none → c = 0) (hb : bytesT C ≤ 2305843009213693952) (hn : ∀ e ∈ C, e.1.size < 9223372036854775808) (hf : f.size < 2305843009213693952) (ht : t.size < 2305843009213693952)
    (w : World) (hs : Sees w w.heap.size q (rowC C)) (hE : Ents w C) :
    Calls Tryd.prog 14 #[.agg #[.slice q C.length c], .string f, .string t] w fun e w' => (∃ v v5, e = .returned (.tuple #[.agg #[v], .int .i64 (moveP C f t v5).2]) ∧ TrV w' v (moveP C f t v5).1 ∧ Ents w' (moveP C f t v5).1) ∧ Below w.heap.size w w' := by
  have HAK : Hid (∀ w1 (_ : Below w.heap.size w w1) q2 (_ : Sees w1 w1.heap.size q2 ([f, t].map Value.string)), Calls Tryd.prog 32 #[.agg #[.slice q C.length c], .slice q2 2 2] w1 fun e w' => e = .returned (.int .i64 (askT C [f, t])) ∧ Below w1.heap.size w1 w') :=
    Lib.hid (fun w1 h q2 h2 => tasked_any C q c [f, t] q2 2 (by omega) hcap (by omega) hn (by simp) (fun p hp => by
      rcases List.mem_cons.1 hp with rfl | hp
      · omega
      · rw [List.mem_singleton.1 hp]; omega) w1 ((hs.keep h).more h.size) (hE.keep h) h2)
  have HWH := Lib.hid (fun (hA : AscE C) w1 (h : Below w.heap.size w w1) => twhere_any C q c f (by omega) hn (by omega) (hA.up _) w1 ((hs.keep h).more h.size))
  have HWO : Hid (hasT C f.data.toList = true → ∀ w1, Below w.heap.size w w1 → Calls Tryd.prog 41 #[.agg #[.slice q C.length c], .int .i64 (posT C f.data.toList : Int)] w1 fun e w' => (∃ v, e = .returned (.agg #[v]) ∧ OwnT w' w1.heap.size v (outI C (posT C f.data.toList))) ∧ Below w1.heap.size w1 w') :=
    Lib.hid (fun hh w1 h => twithout_any C q c _ (hasT_lt hh) hm hq w1 ((hs.keep h).more h.size) (hE.keep h))
  have HPU : Hid (askT C [f, t] = 0 → hasT C f.data.toList = true → ∀ w1 vD b, Below w.heap.size w w1 → OwnT w1 b vD (outI C (posT C f.data.toList)) → Calls Tryd.prog 38 #[.agg #[vD], .string t, valT C (posT C f.data.toList)] w1 fun e w' =>
      (∃ v2 v5, e = .returned (.tuple #[.agg #[v2], .int .i64 (putP (outI C (posT C f.data.toList)) t (byT C (posT C f.data.toList)) v5).2]) ∧ ResT w' w1.heap.size vD (outI C (posT C f.data.toList)) v2 (putP (outI C (posT C f.data.toList)) t (byT C (posT C f.data.toList)) v5).1) ∧ Below w1.heap.size w1 w') :=
    Lib.hid (fun h0 hh w1 vD b hB hO => by
      have hl := hasT_lt hh
      have hg := (askT_good h0).1
      obtain ⟨qd, cd, rfl, h1, h2, h3⟩ := hO.tr
      obtain ⟨qb, cb, e, h4, h5, h6⟩ := (hE.keep hB) _ (List.getElem_mem hl)
      rw [valT_at hl, e, byT_at hl]
      have h7 := outI_len hl
      have h8 := outI_bytes hl
      exact tput0_any (outI C (posT C f.data.toList)) qd cd t C[posT C f.data.toList].by qb cb (by omega) h1 h2 (by omega) (fun e he => hn e (outI_mem he)) ((goodP_asc hg).sublist (outI_sub hl)) ht h5 (by omega) w1 h3 (fun e he => hE.keep hB e (outI_mem he)) h6)
  have HTR : Hid (∀ w', Below w.heap.size w w' → TrV w' (.slice q C.length c) C ∧ Ents w' C) := Lib.hid (fun w' h => ⟨⟨q, c, rfl, hcap, hq, (hs.keep h).more h.size⟩, hE.keep h⟩)
  have HB : Hid (Below w.heap.size w ((w.alloc (.cells #[.slice q C.length c] 25)).alloc (.cells #[.slice none 0 0] 25))) := Lib.hid (((Below.refl _ _).alloc (Nat.le_refl _) _).alloc (by simp) _)
  have HX : Hid (Has ((w.alloc (.cells #[.slice q C.length c] 25)).alloc (.cells #[.slice none 0 0] 25)) w.heap.size 25 [.slice q C.length c]) := Lib.hid ((Has.made w _ _).alloc _)
  have HY : Hid (Has ((w.alloc (.cells #[.slice q C.length c] 25)).alloc (.cells #[.slice none 0 0] 25)) (w.heap.size + 1) 25 [.slice none 0 0]) := Lib.hid (Has.made1 w _ _ _ _ rfl)
  have HS1 : Hid (Sees (((w.alloc (.cells #[.slice q C.length c] 25)).alloc (.cells #[.slice none 0 0] 25)).alloc (.cells #[.string f, .string t] 9)) (((w.alloc (.cells #[.slice q C.length c] 25)).alloc (.cells #[.slice none 0 0] 25)).alloc (.cells #[.string f, .string t] 9)).heap.size (some ⟨w.heap.size + 1 + 1, 0, none⟩) ([f, t].map Value.string)) := Lib.hid (has_sees (by have h := Has.made1 (w.alloc (.cells #[.slice q C.length c] 25)) (.cells #[.slice none 0 0] 25) 9 #[.string f, .string t] _ rfl; simpa using h))
  have HGD : Hid (askT C [f, t] = 0 → AscE C) := Lib.hid (fun h => goodP_asc (askT_good h).1)
  have HHL : Hid (hasT C f.data.toList = true → posT C f.data.toList < C.length) := Lib.hid (fun h => hasT_lt h)
  have HAT : Hid (∀ h : posT C f.data.toList < C.length, dirT C (posT C f.data.toList) = C[posT C f.data.toList].2.1 ∧ valT C (posT C f.data.toList) = C[posT C f.data.toList].2.2.1) := Lib.hid (fun h => ⟨dirT_at h, valT_at h⟩)
  have HOM : Hid (∀ y ∈ outI C (posT C f.data.toList), y ∈ C) := Lib.hid (fun y hy => outI_mem hy)
  have HSR := Lib.hid hs
  have HV : Hid (∀ v, moveP C f t v = if askT C [f, t] ≠ 0 then (C, askT C [f, t]) else if hasT C f.data.toList = false then (C, 5) else if dirT C (posT C f.data.toList) = true then (C, 7) else
    if f.data.toList = t.data.toList then (C, 0) else
    if (putP (outI C (posT C f.data.toList)) t (byT C (posT C f.data.toList)) v).2 ≠ 0 then (C, (putP (outI C (posT C f.data.toList)) t (byT C (posT C f.data.toList)) v).2)
    else ((putP (outI C (posT C f.data.toList)) t (byT C (posT C f.data.toList)) v).1, 0)) := Lib.hid (fun _ => rfl)
  generalize moveP C f t = MV at *
  generalize putP (outI C (posT C f.data.toList)) t (byT C (posT C f.data.toList)) = PP at *
  generalize outI C (posT C f.data.toList) = D at *
  generalize valT C (posT C f.data.toList) = BV at *
  generalize dirT C (posT C f.data.toList) = DI at *
  generalize askT C [f, t] = AK at *
  generalize hasT C f.data.toList = HS at *
  generalize posT C f.data.toList = PS at *
  clear hs hE hn hq
  go_enter Tryd.func14, Tryd.ntmps14
  go_wp2_with fail
  refine (HAK.out _ (HB.out.alloc HB.out.size _) _ HS1.out).mono ?_
  rintro e w1 ⟨rfl, hb1⟩
  replace HX := Lib.hid ((HX.out.alloc _).keep hb1 (HX.out.alloc _).lt)
  replace HY := Lib.hid ((HY.out.alloc _).keep hb1 (HY.out.alloc _).lt)
  replace HB := Lib.hid ((HB.out.alloc HB.out.size _).trans (hb1.mono (HB.out.alloc HB.out.size _).size))
  have hle : w.heap.size ≤ w.heap.size + 1 := by omega
  clear hb1 HS1 HAK
  by_cases hA : AK = 0
  · subst hA
    have HAS := Lib.hid (HGD.out rfl)
    replace HWH := Lib.hid (HWH.out HAS.out)
    have cx := HX.out.cellv (i := 0) (v := .slice q C.length c) rfl
    clear HGD
    go_wp2_with fail
    refine (HWH.out _ HB.out).mono ?_
    rintro e w2 ⟨rfl, hb1⟩
    replace HB := Lib.hid (HB.out.trans (hb1.mono HB.out.size))
    replace HX := Lib.hid (HX.out.keep hb1 HX.out.lt)
    replace HY := Lib.hid (HY.out.keep hb1 HY.out.lt)
    clear hb1 cx
    cases HS with
    | false =>
      have cx := HX.out.cellv (i := 0) (v := .slice q C.length c) rfl
      have cy := HY.out.cellv (i := 0) (v := .slice none 0 0) rfl
      have fy := HY.out.free 0
      have hv : MV undef = (C, 5) := by rw [HV.out]; simp
      go_wp2_with fail
      have cz : (w2.setCell ⟨w.heap.size + 1, 0, none⟩ (.slice q C.length c)).cell? ⟨w.heap.size + 1, 0, none⟩ = some (.slice q C.length c) := World.cell?_setCell_same' _ _ _ (by rw [cy]; rfl)
      refine bodyPost_ret (by simp [results, Tryd.results14, go_sem, cz]; try rfl) rfl ?_
      have hbz := HB.out.setCell (p := ⟨w.heap.size + 1, 0, none⟩) hle (.slice q C.length c)
      exact ⟨⟨.slice q C.length c, undef, by rw [hv], by rw [hv]; exact HTR.out _ hbz⟩, hbz⟩
    | true =>
      have hps := HHL.out rfl
      obtain ⟨a, rfl, ha, hc⟩ := HSR.out.ent hps
      obtain ⟨hdi, hva⟩ := HAT.out hps
      have kk : (PS : Int) < (C.length : Int) := by omega
      rw [← hdi] at hc
      have cx := HX.out.cellv (i := 0) (v := .slice (some a) C.length c) rfl
      have c2 := (hc w2 HB.out).2.1
      clear hdi HAT
      cases DI with
      | true =>
        clear cx
        have cx := HX.out.cellv (i := 0) (v := .slice (some a) C.length c) rfl
        have cy := HY.out.cellv (i := 0) (v := .slice none 0 0) rfl
        have fy := HY.out.free 0
        have hv : MV undef = (C, 7) := by rw [HV.out]; simp
        go_wp2_with fail
        have cz : (w2.setCell ⟨w.heap.size + 1, 0, none⟩ (.slice (some a) C.length c)).cell? ⟨w.heap.size + 1, 0, none⟩ = some (.slice (some a) C.length c) := World.cell?_setCell_same' _ _ _ (by rw [cy]; rfl)
        refine bodyPost_ret (by simp [results, Tryd.results14, go_sem, cz]; try rfl) rfl ?_
        have hbz := HB.out.setCell (p := ⟨w.heap.size + 1, 0, none⟩) hle (.slice (some a) C.length c)
        exact ⟨⟨.slice (some a) C.length c, undef, by rw [hv], by rw [hv]; exact HTR.out _ hbz⟩, hbz⟩
      | false =>
        by_cases heq : f.data.toList = t.data.toList
        · have kf : (f.toList == t.toList) = true := by rw [Lib.toList_data, Lib.toList_data, heq]; simp
          clear cx
          have cx := HX.out.cellv (i := 0) (v := .slice (some a) C.length c) rfl
          have cy := HY.out.cellv (i := 0) (v := .slice none 0 0) rfl
          have fy := HY.out.free 0
          have hv : MV undef = (C, 0) := by rw [HV.out]; simp [heq]
          go_wp2_with fail
          have cz : (w2.setCell ⟨w.heap.size + 1, 0, none⟩ (.slice (some a) C.length c)).cell? ⟨w.heap.size + 1, 0, none⟩ = some (.slice (some a) C.length c) := World.cell?_setCell_same' _ _ _ (by rw [cy]; rfl)
          refine bodyPost_ret (by simp [results, Tryd.results14, go_sem, cz]; try rfl) rfl ?_
          have hbz := HB.out.setCell (p := ⟨w.heap.size + 1, 0, none⟩) hle (.slice (some a) C.length c)
          exact ⟨⟨.slice (some a) C.length c, undef, by rw [hv], by rw [hv]; exact HTR.out _ hbz⟩, hbz⟩
        have kf : (f.toList == t.toList) = false := by rw [Lib.toList_data, Lib.toList_data]; simpa using heq
        replace HWO := Lib.hid (HWO.out rfl)
        replace HPU := Lib.hid (HPU.out (by simp) (by simp))
        rw [hva] at HPU
        go_wp2_with fail
        refine wp_region_fl [(0, true), (1, true), (3, true), (4, true), (5, true), (6, true), (7, true), (8, true), (9, true), (2, false), (10, false), (11, true), (12, true), (13, true)] 14 [(15, false), (16, true)] _ rfl rfl (by kernel_rfl) (by kernel_rfl) _ chkMv_ok rfl (fun w' => Below w.heap.size w w' ∧ Has w' w.heap.size 25 [.slice (some a) C.length c]) ⟨HB.out.drew, HX.out.drew⟩ ?_
        replace HB := Lib.hid HB.out.drew
        replace HX := Lib.hid HX.out.drew
        replace HY := Lib.hid HY.out.drew
        generalize w2.drew = wd at *
        have HYD := Lib.hid HY.out.lt
        simp only [pickOrs, List.getElem?_cons_zero, List.getElem?_cons_succ]
        refine fl_pure (v := ?_) (by kernel_rfl) ?_ ?_
        rotate_left
        · intro w' hv; have cx := hv.2.cellv (i := 0) (v := .slice (some a) C.length c) rfl; clear hv; go_simp; try with_reducible rfl
        try simp only [Act.put, List.setIfInBounds_toArray, List.set_cons_zero, List.set_cons_succ]
        refine fl_pure (v := ?_) (by kernel_rfl) ?_ ?_
        rotate_left
        · intro w' hv; clear hv; go_simp; try with_reducible rfl
        try simp only [Act.put, List.setIfInBounds_toArray, List.set_cons_zero, List.set_cons_succ]
        refine fl_pure (v := ?_) (by kernel_rfl) ?_ ?_
        rotate_left
        · intro w' hv; clear hv; go_simp; try with_reducible rfl
        try simp only [Act.put, List.setIfInBounds_toArray, List.set_cons_zero, List.set_cons_succ]
        refine fl_pure (v := ?_) (by kernel_rfl) ?_ ?_
        rotate_left
        · intro w' hv; clear hv; go_simp; try with_reducible rfl
        try simp only [Act.put, List.setIfInBounds_toArray, List.set_cons_zero, List.set_cons_succ]
        refine fl_pure (v := ?_) (by kernel_rfl) ?_ ?_
        rotate_left
        · intro w' hv; have cx := hv.2.cellv (i := 0) (v := .slice (some a) C.length c) rfl; clear hv; go_simp; try with_reducible rfl
        try simp only [Act.put, List.setIfInBounds_toArray, List.set_cons_zero, List.set_cons_succ]
        refine fl_pure (v := ?_) (by kernel_rfl) ?_ ?_
        rotate_left
        · intro w' hv; clear hv; go_simp; try with_reducible rfl
        try simp only [Act.put, List.setIfInBounds_toArray, List.set_cons_zero, List.set_cons_succ]
        refine fl_pure (v := ?_) (by kernel_rfl) ?_ ?_
        rotate_left
        · intro w' hv; clear hv; go_simp; try with_reducible rfl
        try simp only [Act.put, List.setIfInBounds_toArray, List.set_cons_zero, List.set_cons_succ]
        refine fl_pure (v := ?_) (by kernel_rfl) ?_ ?_
        rotate_left
        · intro w' hv; clear hv; go_simp; try with_reducible rfl
        try simp only [Act.put, List.setIfInBounds_toArray, List.set_cons_zero, List.set_cons_succ]
        refine fl_pure (v := ?_) (by kernel_rfl) ?_ ?_
        rotate_left
        · intro w' hv; have c2 := (hc w' hv.1).2.1; have c3 := (hc w' hv.1).2.2; clear hv; go_simp; try with_reducible rfl
        try simp only [Act.put, List.setIfInBounds_toArray, List.set_cons_zero, List.set_cons_succ]
        refine fl_step rfl (fun K hK => ?_) (fun K hK => ?_)
        · skip
          go_wp2_with fail
          refine (HWO.out _ HB.out).mono ?_
          rintro e w4 ⟨⟨vD, rfl, hO4⟩, hb1⟩
          replace HB := Lib.hid (HB.out.trans (hb1.mono HB.out.size))
          replace HX := Lib.hid (HX.out.keep hb1 HX.out.lt)
          replace HY := Lib.hid (HY.out.keep hb1 HY.out.lt)
          obtain ⟨xD, mD, kD, rfl⟩ := own_slice' hO4
          have HOD : Hid (OwnT w4 wd.heap.size (.slice xD mD kD) D) := Lib.hid (hO4.less (Nat.le_refl _))
          have HOE : Hid (OwnT w4 wd.heap.size (.slice xD mD kD) D) := Lib.hid hO4
          have HZ4 : Hid (wd.heap.size ≤ w4.heap.size) := Lib.hid (Nat.le_trans (Nat.le_refl _) hb1.size)
          have HZ5 : Hid (wd.heap.size ≤ w4.heap.size) := Lib.hid hb1.size
          refine hK _ _ ⟨⟨HB.out, HX.out⟩, ?_⟩
          clear hb1 hO4 hK
          try simp only [Act.put, List.setIfInBounds_toArray, List.set_cons_zero, List.set_cons_succ]
          refine fl_step rfl (fun K hK => ?_) (fun K hK => ?_)
          · skip
            go_wp2_with fail
            refine (HPU.out _ _ _ HB.out HOD.out).mono ?_
            rintro e w5 ⟨⟨v2, v5, rfl, hR5⟩, hb1⟩
            obtain ⟨x2, m2, k2, rfl⟩ := hR5.slice
            replace HB := Lib.hid (HB.out.trans (hb1.mono HB.out.size))
            replace HX := Lib.hid (HX.out.keep hb1 HX.out.lt)
            replace HY := Lib.hid (HY.out.keep hb1 HY.out.lt)
            have HOD2 : Hid (OwnT w5 wd.heap.size (.slice xD mD kD) D) := Lib.hid (HOD.out.keep hb1)
            have HRS : Hid (ResT w5 w4.heap.size (.slice xD mD kD) D (.slice x2 m2 k2) (PP v5).1) := Lib.hid hR5
            have HBP : Hid (Below w4.heap.size w4 w5) := Lib.hid hb1
            refine hK _ _ ⟨⟨HB.out, HX.out⟩, ?_⟩
            clear hb1 hR5 hK
            try simp only [Act.put, List.setIfInBounds_toArray, List.set_cons_zero, List.set_cons_succ]
            refine fl_pure (v := ?_) (by kernel_rfl) ?_ ?_
            rotate_left
            · intro w' hv; clear hv; go_simp; try with_reducible rfl
            try simp only [Act.put, List.setIfInBounds_toArray, List.set_cons_zero, List.set_cons_succ]
            refine fl_pure (v := ?_) (by kernel_rfl) ?_ ?_
            rotate_left
            · intro w' hv; clear hv; go_simp; try with_reducible rfl
            try simp only [Act.put, List.setIfInBounds_toArray, List.set_cons_zero, List.set_cons_succ]
            refine fl_pure (v := ?_) (by kernel_rfl) ?_ ?_
            rotate_left
            · intro w' hv; clear hv; go_simp; try with_reducible rfl
            try simp only [Act.put, List.setIfInBounds_toArray, List.set_cons_zero, List.set_cons_succ]
            refine fl_nil (fun K hK => ?_)
            go_wp2_with fail
            have HBA : Hid (Below w5.heap.size w5 (w5.alloc (.cells #[.slice none 0 0] 25))) := Lib.hid ((Below.refl _ _).alloc (Nat.le_refl _) _)
            have HG : Hid (Has (w5.alloc (.cells #[.slice none 0 0] 25)) w5.heap.size 25 [.slice none 0 0]) := Lib.hid (Has.made w5 _ _)
            have HGS : Hid (w5.heap.size < (w5.alloc (.cells #[.slice none 0 0] 25)).heap.size) := Lib.hid HG.out.lt
            have HGY : Hid (w.heap.size + 1 < w5.heap.size) := Lib.hid HY.out.lt
            replace HB := Lib.hid (HB.out.alloc HB.out.size (.cells #[.slice none 0 0] 25))
            replace HX := Lib.hid (HX.out.alloc (.cells #[.slice none 0 0] 25))
            replace HY := Lib.hid (HY.out.alloc (.cells #[.slice none 0 0] 25))
            refine ⟨⟨HB.out, HX.out⟩, ?_⟩
            generalize hWA : w5.alloc (.cells #[.slice none 0 0] 25) = w6 at *
            try simp only [Act.put, List.setIfInBounds_toArray, List.set_cons_zero, List.set_cons_succ]
            have HF : Hid (OwnT (w6.setCell ⟨w5.heap.size, 0, none⟩ (.slice x2 m2 k2)) wd.heap.size (.slice x2 m2 k2) (PP v5).1 ∧ ∀ y ∈ (PP v5).1, y ∈ C ∨ OwnB (w6.setCell ⟨w5.heap.size, 0, none⟩ (.slice x2 m2 k2)) wd.heap.size y) := Lib.hid (by
              have hB6 : Below w5.heap.size w5 (w6.setCell ⟨w5.heap.size, 0, none⟩ (.slice x2 m2 k2)) := HBA.out.setCell (p := ⟨w5.heap.size, 0, none⟩) (Nat.le_refl _) _
              refine ⟨(HRS.out.own HOD2.out HZ4.out).keep hB6, fun y hy => ?_⟩
              exact (HRS.out.ents HOM.out HZ4.out y hy).imp id fun h => h.keep hB6)
            have cg := HG.out.cellv (i := 0) (v := .slice none 0 0) rfl
            have fg := HG.out.free 0
            have HBN : Hid (Below w.heap.size w (w6.setCell ⟨w5.heap.size, 0, none⟩ (.slice x2 m2 k2))) := Lib.hid (HB.out.setCell (p := ⟨w5.heap.size, 0, none⟩) (by have := HGY.out; show w.heap.size ≤ w5.heap.size; omega) _)
            have HXN : Hid (Has (w6.setCell ⟨w5.heap.size, 0, none⟩ (.slice x2 m2 k2)) w.heap.size 25 [.slice (some a) C.length c]) := Lib.hid (HX.out.off (by have := HGY.out; show w.heap.size ≠ w5.heap.size; omega) _)
            have HYN : Hid (Has (w6.setCell ⟨w5.heap.size, 0, none⟩ (.slice x2 m2 k2)) (w.heap.size + 1) 25 [.slice none 0 0]) := Lib.hid (HY.out.off (by have := HGY.out; show w.heap.size + 1 ≠ w5.heap.size; omega) _)
            have HGN : Hid (Has (w6.setCell ⟨w5.heap.size, 0, none⟩ (.slice x2 m2 k2)) w5.heap.size 25 [.slice x2 m2 k2]) := Lib.hid (HG.out.put 0 _)
            refine ors_step (by kernel_rfl) (fun K hK => ?_)
            go_wp2_with fail
            refine ⟨⟨HBN.out, HXN.out⟩, ?_⟩
            generalize w6.setCell ⟨w5.heap.size, 0, none⟩ (.slice x2 m2 k2) = wz at *
            clear cg fg HB HX HY HG
            try simp only [Act.put, List.setIfInBounds_toArray, List.set_cons_zero, List.set_cons_succ]
            refine ors_pure (v := ?_) (by kernel_rfl) ?_ ?_
            rotate_left
            · intro w' hv; clear hv; go_simp; try with_reducible rfl
            try simp only [Act.put, List.setIfInBounds_toArray, List.set_cons_zero, List.set_cons_succ]
            refine ors_nil ?_
            have HVV := Lib.hid (HV.out v5)
            generalize PP v5 = R at *
            obtain ⟨X, E⟩ := R
            simp only [] at HF HVV ⊢
            have HB := HBN
            have HX := HXN
            have HY := HYN
            have cy := HYN.out.cellv (i := 0) (v := .slice none 0 0) rfl
            have fy := HYN.out.free 0
            by_cases hx : E = 0
            · subst hx
              have cg := HGN.out.cellv (i := 0) (v := .slice x2 m2 k2) rfl
              have hv : MV v5 = (X, 0) := by rw [HVV.out]; simp [heq]
              go_wp2_with fail
              have cz : (wz.setCell ⟨w.heap.size + 1, 0, none⟩ (.slice x2 m2 k2)).cell? ⟨w.heap.size + 1, 0, none⟩ = some (.slice x2 m2 k2) := World.cell?_setCell_same' _ _ _ (by rw [cy]; rfl)
              refine bodyPost_ret (by simp [results, Tryd.results14, go_sem, cz]; try rfl) rfl ?_
              have hbz := HB.out.setCell (p := ⟨w.heap.size + 1, 0, none⟩) hle (.slice x2 m2 k2)
              refine ⟨⟨.slice x2 m2 k2, v5, by rw [hv], ?_, ?_⟩, hbz⟩
              · rw [hv]
                exact (HF.out.1.set (p := ⟨w.heap.size + 1, 0, none⟩) HYD.out _).tr
              · rw [hv]
                intro y hy
                rcases HF.out.2 y hy with h | h
                · exact (HTR.out _ hbz).2 y h
                · exact (h.set (o := 0) HYD.out (.slice x2 m2 k2)).bs
            · have kA : (E = 0) = False := eq_false hx
              have kAb : (E == 0) = false := by simpa using hx
              have kAn : (E != 0) = true := by simpa using hx
              have cx := HXN.out.cellv (i := 0) (v := .slice (some a) C.length c) rfl
              have hv : MV v5 = (C, E) := by rw [HVV.out]; simp [heq, hx]
              go_wp2_with fail
              have cz : (wz.setCell ⟨w.heap.size + 1, 0, none⟩ (.slice (some a) C.length c)).cell? ⟨w.heap.size + 1, 0, none⟩ = some (.slice (some a) C.length c) := World.cell?_setCell_same' _ _ _ (by rw [cy]; rfl)
              refine bodyPost_ret (by simp [results, Tryd.results14, go_sem, cz]; try rfl) rfl ?_
              have hbz := HB.out.setCell (p := ⟨w.heap.size + 1, 0, none⟩) hle (.slice (some a) C.length c)
              exact ⟨⟨.slice (some a) C.length c, v5, by rw [hv], by rw [hv]; exact HTR.out _ hbz⟩, hbz⟩
          · skip
            go_wp2_with fail
            have HBA : Hid (Below w4.heap.size w4 (w4.alloc (.cells #[.slice none 0 0] 25))) := Lib.hid ((Below.refl _ _).alloc (Nat.le_refl _) _)
            have HG : Hid (Has (w4.alloc (.cells #[.slice none 0 0] 25)) w4.heap.size 25 [.slice none 0 0]) := Lib.hid (Has.made w4 _ _)
            have HGS : Hid (w4.heap.size < (w4.alloc (.cells #[.slice none 0 0] 25)).heap.size) := Lib.hid HG.out.lt
            have HGY : Hid (w.heap.size + 1 < w4.heap.size) := Lib.hid HY.out.lt
            replace HB := Lib.hid (HB.out.alloc HB.out.size (.cells #[.slice none 0 0] 25))
            replace HX := Lib.hid (HX.out.alloc (.cells #[.slice none 0 0] 25))
            replace HY := Lib.hid (HY.out.alloc (.cells #[.slice none 0 0] 25))
            refine ⟨⟨HB.out, HX.out⟩, ?_⟩
            generalize hWA : w4.alloc (.cells #[.slice none 0 0] 25) = w5 at *
            try simp only [Act.put, List.setIfInBounds_toArray, List.set_cons_zero, List.set_cons_succ]
            refine ors_step (by kernel_rfl) (fun K hK => ?_)
            have HO4 := HOD
            have HZ6 : Hid (wd.heap.size ≤ w5.heap.size) := Lib.hid (Nat.le_trans HZ4.out (Nat.le_of_lt HGS.out))
            replace HOD : Hid (OwnT w5 wd.heap.size (.slice xD mD kD) D) := Lib.hid (HOD.out.keep HBA.out)
            go_wp2_with fail
            refine (HPU.out _ _ _ HB.out HOD.out).mono ?_
            rintro e w6 ⟨⟨v2, v5, rfl, hR5⟩, hb1⟩
            obtain ⟨x2, m2, k2, rfl⟩ := hR5.slice
            replace HB := Lib.hid (HB.out.trans (hb1.mono HB.out.size))
            replace HX := Lib.hid (HX.out.keep hb1 HX.out.lt)
            replace HY := Lib.hid (HY.out.keep hb1 HY.out.lt)
            have HOD2 : Hid (OwnT w6 wd.heap.size (.slice xD mD kD) D) := Lib.hid (HOD.out.keep hb1)
            have HRS : Hid (ResT w6 w5.heap.size (.slice xD mD kD) D (.slice x2 m2 k2) (PP v5).1) := Lib.hid hR5
            have HBP : Hid (Below w5.heap.size w5 w6) := Lib.hid hb1
            refine hK _ _ ⟨⟨HB.out, HX.out⟩, ?_⟩
            clear hb1 hR5 hK
            try simp only [Act.put, List.setIfInBounds_toArray, List.set_cons_zero, List.set_cons_succ]
            refine ors_pure (v := ?_) (by kernel_rfl) ?_ ?_
            rotate_left
            · intro w' hv; clear hv; go_simp; try with_reducible rfl
            try simp only [Act.put, List.setIfInBounds_toArray, List.set_cons_zero, List.set_cons_succ]
            refine ors_pure (v := ?_) (by kernel_rfl) ?_ ?_
            rotate_left
            · intro w' hv; clear hv; go_simp; try with_reducible rfl
            try simp only [Act.put, List.setIfInBounds_toArray, List.set_cons_zero, List.set_cons_succ]
            refine ors_pure (v := ?_) (by kernel_rfl) ?_ ?_
            rotate_left
            · intro w' hv; clear hv; go_simp; try with_reducible rfl
            try simp only [Act.put, List.setIfInBounds_toArray, List.set_cons_zero, List.set_cons_succ]
            replace HG := Lib.hid (HG.out.keep HBP.out HGS.out)
            have HF : Hid (OwnT (w6.setCell ⟨w4.heap.size, 0, none⟩ (.slice x2 m2 k2)) wd.heap.size (.slice x2 m2 k2) (PP v5).1 ∧ ∀ y ∈ (PP v5).1, y ∈ C ∨ OwnB (w6.setCell ⟨w4.heap.size, 0, none⟩ (.slice x2 m2 k2)) wd.heap.size y) := Lib.hid (by
              have hB6 : Below w4.heap.size w4 (w6.setCell ⟨w4.heap.size, 0, none⟩ (.slice x2 m2 k2)) := (HBA.out.trans (HBP.out.mono HBA.out.size)).setCell (p := ⟨w4.heap.size, 0, none⟩) (Nat.le_refl _) _
              have hR := HRS.out.set (o := 0) HGS.out (.slice x2 m2 k2)
              exact ⟨hR.own (HO4.out.keep hB6) HZ6.out, hR.ents HOM.out HZ6.out⟩)
            have cg := HG.out.cellv (i := 0) (v := .slice none 0 0) rfl
            have fg := HG.out.free 0
            have HBN : Hid (Below w.heap.size w (w6.setCell ⟨w4.heap.size, 0, none⟩ (.slice x2 m2 k2))) := Lib.hid (HB.out.setCell (p := ⟨w4.heap.size, 0, none⟩) (by have := HGY.out; show w.heap.size ≤ w4.heap.size; omega) _)
            have HXN : Hid (Has (w6.setCell ⟨w4.heap.size, 0, none⟩ (.slice x2 m2 k2)) w.heap.size 25 [.slice (some a) C.length c]) := Lib.hid (HX.out.off (by have := HGY.out; show w.heap.size ≠ w4.heap.size; omega) _)
            have HYN : Hid (Has (w6.setCell ⟨w4.heap.size, 0, none⟩ (.slice x2 m2 k2)) (w.heap.size + 1) 25 [.slice none 0 0]) := Lib.hid (HY.out.off (by have := HGY.out; show w.heap.size + 1 ≠ w4.heap.size; omega) _)
            have HGN : Hid (Has (w6.setCell ⟨w4.heap.size, 0, none⟩ (.slice x2 m2 k2)) w4.heap.size 25 [.slice x2 m2 k2]) := Lib.hid (HG.out.put 0 _)
            refine ors_step (by kernel_rfl) (fun K hK => ?_)
            go_wp2_with fail
            refine ⟨⟨HBN.out, HXN.out⟩, ?_⟩
            generalize w6.setCell ⟨w4.heap.size, 0, none⟩ (.slice x2 m2 k2) = wz at *
            clear cg fg HB HX HY HG
            try simp only [Act.put, List.setIfInBounds_toArray, List.set_cons_zero, List.set_cons_succ]
            refine ors_pure (v := ?_) (by kernel_rfl) ?_ ?_
            rotate_left
            · intro w' hv; clear hv; go_simp; try with_reducible rfl
            try simp only [Act.put, List.setIfInBounds_toArray, List.set_cons_zero, List.set_cons_succ]
            refine ors_nil ?_
            have HVV := Lib.hid (HV.out v5)
            generalize PP v5 = R at *
            obtain ⟨X, E⟩ := R
            simp only [] at HF HVV ⊢
            have HB := HBN
            have HX := HXN
            have HY := HYN
            have cy := HYN.out.cellv (i := 0) (v := .slice none 0 0) rfl
            have fy := HYN.out.free 0
            by_cases hx : E = 0
            · subst hx
              have cg := HGN.out.cellv (i := 0) (v := .slice x2 m2 k2) rfl
              have hv : MV v5 = (X, 0) := by rw [HVV.out]; simp [heq]
              go_wp2_with fail
              have cz : (wz.setCell ⟨w.heap.size + 1, 0, none⟩ (.slice x2 m2 k2)).cell? ⟨w.heap.size + 1, 0, none⟩ = some (.slice x2 m2 k2) := World.cell?_setCell_same' _ _ _ (by rw [cy]; rfl)
              refine bodyPost_ret (by simp [results, Tryd.results14, go_sem, cz]; try rfl) rfl ?_
              have hbz := HB.out.setCell (p := ⟨w.heap.size + 1, 0, none⟩) hle (.slice x2 m2 k2)
              refine ⟨⟨.slice x2 m2 k2, v5, by rw [hv], ?_, ?_⟩, hbz⟩
              · rw [hv]
                exact (HF.out.1.set (p := ⟨w.heap.size + 1, 0, none⟩) HYD.out _).tr
              · rw [hv]
                intro y hy
                rcases HF.out.2 y hy with h | h
                · exact (HTR.out _ hbz).2 y h
                · exact (h.set (o := 0) HYD.out (.slice x2 m2 k2)).bs
            · have kA : (E = 0) = False := eq_false hx
              have kAb : (E == 0) = false := by simpa using hx
              have kAn : (E != 0) = true := by simpa using hx
              have cx := HXN.out.cellv (i := 0) (v := .slice (some a) C.length c) rfl
              have hv : MV v5 = (C, E) := by rw [HVV.out]; simp [heq, hx]
              go_wp2_with fail
              have cz : (wz.setCell ⟨w.heap.size + 1, 0, none⟩ (.slice (some a) C.length c)).cell? ⟨w.heap.size + 1, 0, none⟩ = some (.slice (some a) C.length c) := World.cell?_setCell_same' _ _ _ (by rw [cy]; rfl)
              refine bodyPost_ret (by simp [results, Tryd.results14, go_sem, cz]; try rfl) rfl ?_
              have hbz := HB.out.setCell (p := ⟨w.heap.size + 1, 0, none⟩) hle (.slice (some a) C.length c)
              exact ⟨⟨.slice (some a) C.length c, v5, by rw [hv], by rw [hv]; exact HTR.out _ hbz⟩, hbz⟩
        · skip
          go_wp2_with fail
          have HBA : Hid (Below wd.heap.size wd (wd.alloc (.cells #[.slice none 0 0] 25))) := Lib.hid ((Below.refl _ _).alloc (Nat.le_refl _) _)
          have HG : Hid (Has (wd.alloc (.cells #[.slice none 0 0] 25)) wd.heap.size 25 [.slice none 0 0]) := Lib.hid (Has.made wd _ _)
          have HGS : Hid (wd.heap.size < (wd.alloc (.cells #[.slice none 0 0] 25)).heap.size) := Lib.hid HG.out.lt
          have HGY : Hid (w.heap.size + 1 < wd.heap.size) := Lib.hid HY.out.lt
          replace HB := Lib.hid (HB.out.alloc HB.out.size (.cells #[.slice none 0 0] 25))
          replace HX := Lib.hid (HX.out.alloc (.cells #[.slice none 0 0] 25))
          replace HY := Lib.hid (HY.out.alloc (.cells #[.slice none 0 0] 25))
          refine ⟨⟨HB.out, HX.out⟩, ?_⟩
          generalize hWA : wd.alloc (.cells #[.slice none 0 0] 25) = w4 at *
          try simp only [Act.put, List.setIfInBounds_toArray, List.set_cons_zero, List.set_cons_succ]
          refine ors_step (by kernel_rfl) (fun K hK => ?_)
          go_wp2_with fail
          refine (HWO.out _ HB.out).mono ?_
          rintro e w5 ⟨⟨vD, rfl, hO4⟩, hb1⟩
          replace HB := Lib.hid (HB.out.trans (hb1.mono HB.out.size))
          replace HX := Lib.hid (HX.out.keep hb1 HX.out.lt)
          replace HY := Lib.hid (HY.out.keep hb1 HY.out.lt)
          obtain ⟨xD, mD, kD, rfl⟩ := own_slice' hO4
          have HOD : Hid (OwnT w5 wd.heap.size (.slice xD mD kD) D) := Lib.hid (hO4.less (Nat.le_of_lt HGS.out))
          have HOE : Hid (OwnT w5 w4.heap.size (.slice xD mD kD) D) := Lib.hid hO4
          have HZ4 : Hid (wd.heap.size ≤ w5.heap.size) := Lib.hid (Nat.le_trans (Nat.le_of_lt HGS.out) hb1.size)
          have HBW : Hid (Below w4.heap.size w4 w5) := Lib.hid hb1
          have HZ5 : Hid (w4.heap.size ≤ w5.heap.size) := Lib.hid hb1.size
          refine hK _ _ ⟨⟨HB.out, HX.out⟩, ?_⟩
          clear hb1 hO4 hK
          try simp only [Act.put, List.setIfInBounds_toArray, List.set_cons_zero, List.set_cons_succ]
          replace HG := Lib.hid (HG.out.keep (b := w4.heap.size) HBW.out HGS.out)
          refine ors_step (by kernel_rfl) (fun K hK => ?_)
          go_wp2_with fail
          refine (HPU.out _ _ _ HB.out HOD.out).mono ?_
          rintro e w6 ⟨⟨v2, v5, rfl, hR5⟩, hb1⟩
          obtain ⟨x2, m2, k2, rfl⟩ := hR5.slice
          replace HB := Lib.hid (HB.out.trans (hb1.mono HB.out.size))
          replace HX := Lib.hid (HX.out.keep hb1 HX.out.lt)
          replace HY := Lib.hid (HY.out.keep hb1 HY.out.lt)
          have HOD2 : Hid (OwnT w6 wd.heap.size (.slice xD mD kD) D) := Lib.hid (HOD.out.keep hb1)
          have HRS : Hid (ResT w6 w5.heap.size (.slice xD mD kD) D (.slice x2 m2 k2) (PP v5).1) := Lib.hid hR5
          have HBP : Hid (Below w5.heap.size w5 w6) := Lib.hid hb1
          refine hK _ _ ⟨⟨HB.out, HX.out⟩, ?_⟩
          clear hb1 hR5 hK
          try simp only [Act.put, List.setIfInBounds_toArray, List.set_cons_zero, List.set_cons_succ]
          refine ors_pure (v := ?_) (by kernel_rfl) ?_ ?_
          rotate_left
          · intro w' hv; clear hv; go_simp; try with_reducible rfl
          try simp only [Act.put, List.setIfInBounds_toArray, List.set_cons_zero, List.set_cons_succ]
          refine ors_pure (v := ?_) (by kernel_rfl) ?_ ?_
          rotate_left
          · intro w' hv; clear hv; go_simp; try with_reducible rfl
          try simp only [Act.put, List.setIfInBounds_toArray, List.set_cons_zero, List.set_cons_succ]
          refine ors_pure (v := ?_) (by kernel_rfl) ?_ ?_
          rotate_left
          · intro w' hv; clear hv; go_simp; try with_reducible rfl
          try simp only [Act.put, List.setIfInBounds_toArray, List.set_cons_zero, List.set_cons_succ]
          replace HG := Lib.hid (HG.out.keep HBP.out (Nat.lt_of_lt_of_le HGS.out HZ5.out))
          have HF : Hid (OwnT (w6.setCell ⟨wd.heap.size, 0, none⟩ (.slice x2 m2 k2)) wd.heap.size (.slice x2 m2 k2) (PP v5).1 ∧ ∀ y ∈ (PP v5).1, y ∈ C ∨ OwnB (w6.setCell ⟨wd.heap.size, 0, none⟩ (.slice x2 m2 k2)) wd.heap.size y) := Lib.hid (by
            have hR := HRS.out.set (g := wd.heap.size) (o := 0) (Nat.lt_of_lt_of_le HGS.out HZ5.out) (.slice x2 m2 k2)
            have hO : OwnT (w6.setCell ⟨wd.heap.size, 0, none⟩ (.slice x2 m2 k2)) w4.heap.size (.slice xD mD kD) D := (HOE.out.keep HBP.out).set (p := ⟨wd.heap.size, 0, none⟩) HGS.out _
            exact ⟨(hR.own hO HZ5.out).less (Nat.le_of_lt HGS.out), hR.ents HOM.out HZ4.out⟩)
          have cg := HG.out.cellv (i := 0) (v := .slice none 0 0) rfl
          have fg := HG.out.free 0
          have HBN : Hid (Below w.heap.size w (w6.setCell ⟨wd.heap.size, 0, none⟩ (.slice x2 m2 k2))) := Lib.hid (HB.out.setCell (p := ⟨wd.heap.size, 0, none⟩) (by have := HGY.out; show w.heap.size ≤ wd.heap.size; omega) _)
          have HXN : Hid (Has (w6.setCell ⟨wd.heap.size, 0, none⟩ (.slice x2 m2 k2)) w.heap.size 25 [.slice (some a) C.length c]) := Lib.hid (HX.out.off (by have := HGY.out; show w.heap.size ≠ wd.heap.size; omega) _)
          have HYN : Hid (Has (w6.setCell ⟨wd.heap.size, 0, none⟩ (.slice x2 m2 k2)) (w.heap.size + 1) 25 [.slice none 0 0]) := Lib.hid (HY.out.off (by have := HGY.out; show w.heap.size + 1 ≠ wd.heap.size; omega) _)
          have HGN : Hid (Has (w6.setCell ⟨wd.heap.size, 0, none⟩ (.slice x2 m2 k2)) wd.heap.size 25 [.slice x2 m2 k2]) := Lib.hid (HG.out.put 0 _)
          refine ors_step (by kernel_rfl) (fun K hK => ?_)
          go_wp2_with fail
          refine ⟨⟨HBN.out, HXN.out⟩, ?_⟩
          generalize w6.setCell ⟨wd.heap.size, 0, none⟩ (.slice x2 m2 k2) = wz at *
          clear cg fg HB HX HY HG
          try simp only [Act.put, List.setIfInBounds_toArray, List.set_cons_zero, List.set_cons_succ]
          refine ors_pure (v := ?_) (by kernel_rfl) ?_ ?_
          rotate_left
          · intro w' hv; clear hv; go_simp; try with_reducible rfl
          try simp only [Act.put, List.setIfInBounds_toArray, List.set_cons_zero, List.set_cons_succ]
          refine ors_nil ?_
          have HVV := Lib.hid (HV.out v5)
          generalize PP v5 = R at *
          obtain ⟨X, E⟩ := R
          simp only [] at HF HVV ⊢
          have HB := HBN
          have HX := HXN
          have HY := HYN
          have cy := HYN.out.cellv (i := 0) (v := .slice none 0 0) rfl
          have fy := HYN.out.free 0
          by_cases hx : E = 0
          · subst hx
            have cg := HGN.out.cellv (i := 0) (v := .slice x2 m2 k2) rfl
            have hv : MV v5 = (X, 0) := by rw [HVV.out]; simp [heq]
            go_wp2_with fail
            have cz : (wz.setCell ⟨w.heap.size + 1, 0, none⟩ (.slice x2 m2 k2)).cell? ⟨w.heap.size + 1, 0, none⟩ = some (.slice x2 m2 k2) := World.cell?_setCell_same' _ _ _ (by rw [cy]; rfl)
            refine bodyPost_ret (by simp [results, Tryd.results14, go_sem, cz]; try rfl) rfl ?_
            have hbz := HB.out.setCell (p := ⟨w.heap.size + 1, 0, none⟩) hle (.slice x2 m2 k2)
            refine ⟨⟨.slice x2 m2 k2, v5, by rw [hv], ?_, ?_⟩, hbz⟩
            · rw [hv]
              exact (HF.out.1.set (p := ⟨w.heap.size + 1, 0, none⟩) HYD.out _).tr
            · rw [hv]
              intro y hy
              rcases HF.out.2 y hy with h | h
              · exact (HTR.out _ hbz).2 y h
              · exact (h.set (o := 0) HYD.out (.slice x2 m2 k2)).bs
          · have kA : (E = 0) = False := eq_false hx
            have kAb : (E == 0) = false := by simpa using hx
            have kAn : (E != 0) = true := by simpa using hx
            have cx := HXN.out.cellv (i := 0) (v := .slice (some a) C.length c) rfl
            have hv : MV v5 = (C, E) := by rw [HVV.out]; simp [heq, hx]
            go_wp2_with fail
            have cz : (wz.setCell ⟨w.heap.size + 1, 0, none⟩ (.slice (some a) C.length c)).cell? ⟨w.heap.size + 1, 0, none⟩ = some (.slice (some a) C.length c) := World.cell?_setCell_same' _ _ _ (by rw [cy]; rfl)
            refine bodyPost_ret (by simp [results, Tryd.results14, go_sem, cz]; try rfl) rfl ?_
            have hbz := HB.out.setCell (p := ⟨w.heap.size + 1, 0, none⟩) hle (.slice (some a) C.length c)
            exact ⟨⟨.slice (some a) C.length c, v5, by rw [hv], by rw [hv]; exact HTR.out _ hbz⟩, hbz⟩
  · have kA : (AK = 0) = False := eq_false hA
    have kAb : (AK == 0) = false := by simpa using hA
    have kAn : (AK != 0) = true := by simpa using hA
    have cx := HX.out.cellv (i := 0) (v := .slice q C.length c) rfl
    have cy := HY.out.cellv (i := 0) (v := .slice none 0 0) rfl
    have fy := HY.out.free 0
    have hv : MV undef = (C, AK) := by rw [HV.out, if_pos hA]
    go_wp2_with fail
    have cz : (w1.setCell ⟨w.heap.size + 1, 0, none⟩ (.slice q C.length c)).cell? ⟨w.heap.size + 1, 0, none⟩ = some (.slice q C.length c) := World.cell?_setCell_same' _ _ _ (by rw [cy]; rfl)
    refine bodyPost_ret (by simp [results, Tryd.results14, go_sem, cz]; try rfl) rfl ?_
    have hbz := HB.out.setCell (p := ⟨w.heap.size + 1, 0, none⟩) hle (.slice q C.length c)
    exact ⟨⟨.slice q C.length c, undef, by rw [hv], by rw [hv]; exact HTR.out _ hbz⟩, hbz⟩
end Go.Proofs.YthpendoblgndcaaDoor
/- Plain laws: what Move answers of a tree that may be; moved there and back all is as it was. No condition. -/
namespace Go.Proofs.YthpendoblgndcaaDoor
open Go.RowKit
theorem pos_split {A B : List Ent} {p : Tx} (h1 : ∀ e ∈ A, cmpL e.pa p < 0) (h2 : ∀ e ∈ B, 0 < cmpL e.pa p) : posT (A ++ B) p = A.length ∧ hasT (A ++ B) p = false := by
  have hp : posT (A ++ B) p = A.length := by
    unfold posT
    rw [List.takeWhile_append_of_pos (fun e he => decide_eq_true (h1 e he))]
    cases B with
    | nil => simp
    | cons x B =>
      have := h2 x (List.mem_cons_self ..)
      rw [List.takeWhile_cons, decide_eq_false (by omega)]
      simp
  refine ⟨hp, ?_⟩
  unfold hasT
  rw [hp, List.getElem?_append_right (Nat.le_refl _), Nat.sub_self]
  cases B with
  | nil => rfl
  | cons x B =>
    have := h2 x (List.mem_cons_self ..)
    exact decide_eq_false (by omega)
theorem take_bef {C : List Ent} (hA : AscE C) {i : Nat} (hi : i < C.length) : ∀ e ∈ C.take i, cmpL e.pa C[i].pa < 0 := fun e he => by
  obtain ⟨j, hj, rfl⟩ := List.getElem_of_mem he
  rw [List.length_take] at hj
  rw [List.getElem_take]
  exact hA.lt (by omega) hi (by omega)
theorem drop_aft {C : List Ent} (hA : AscE C) {i : Nat} (hi : i < C.length) : ∀ e ∈ C.drop (i + 1), 0 < cmpL e.pa C[i].pa := fun e he => by
  obtain ⟨j, hj, rfl⟩ := List.getElem_of_mem he
  rw [List.length_drop] at hj
  rw [List.getElem_drop]
  have h := hA.lt hi (show i + 1 + j < C.length by omega) (by omega)
  rw [cmpL_neg]; omega
theorem outI_keeps {C : List Ent} {i : Nat} (hi : i < C.length) {e : Ent} (h : e ∈ C) (hne : e ≠ C[i]) : e ∈ outI C i := by
  rw [split_at hi] at h
  rcases List.mem_append.1 h with h | h
  · exact List.mem_append_left _ h
  · rcases List.mem_cons.1 h with h | h
    · exact absurd h hne
    · exact List.mem_append_right _ h
/-- A file taken out of a tree that may be: it stays one. -/
theorem out_good {C : List Ent} (hg : goodP C = true) {i : Nat} (hi : i < C.length) (hd : C[i].dir = false) : goodP (outI C i) = true := by
  obtain ⟨h1, h2, h3, h4⟩ := (goodP_iff C).1 hg
  have hA : AscE (outI C i) := h2.sublist (outI_sub hi)
  refine (goodP_iff _).2 ⟨?_, hA, fun e he => h3 e (outI_mem he), fun e he => ?_⟩
  · unfold fitsT at h1 ⊢
    rw [Bool.and_eq_true, decide_eq_true_eq, decide_eq_true_eq] at h1 ⊢
    have := outI_len hi
    have := outI_bytes hi
    omega
  · by_cases h0 : upV e.pa = []
    · unfold roomT; rw [if_pos h0]
    · obtain ⟨y, hy, k, hyd⟩ := (room_iff h2 h0).1 (h4 e (outI_mem he))
      exact (room_iff hA h0).2 ⟨y, outI_keeps hi hy (fun k2 => by rw [k2, hd] at hyd; cases hyd), k, hyd⟩
theorem out_room {C : List Ent} (hg : goodP C = true) {i : Nat} (hi : i < C.length) (hd : C[i].dir = false) : roomT (outI C i) C[i].pa = 0 := by
  obtain ⟨h1, h2, h3, h4⟩ := (goodP_iff C).1 hg
  have hA : AscE (outI C i) := h2.sublist (outI_sub hi)
  by_cases h0 : upV C[i].pa = []
  · unfold roomT; rw [if_pos h0]
  · obtain ⟨y, hy, k, hyd⟩ := (room_iff h2 h0).1 (h4 _ (List.getElem_mem hi))
    exact (room_iff hA h0).2 ⟨y, outI_keeps hi hy (fun k2 => by rw [k2, hd] at hyd; cases hyd), k, hyd⟩
/-- Move goes one of three ways. -/
theorem move_ways (C : List Ent) (f t : ByteArray) (v : Value) : ((moveP C f t v).2 ≠ 0 ∧ (moveP C f t v).1 = C) ∨ ((moveP C f t v) = (C, 0) ∧ askT C [f, t] = 0 ∧ hasT C f.data.toList = true ∧ f.data.toList = t.data.toList) ∨
    (askT C [f, t] = 0 ∧ hasT C f.data.toList = true ∧ dirT C (posT C f.data.toList) = false ∧ f.data.toList ≠ t.data.toList ∧
      (putP (outI C (posT C f.data.toList)) t (byT C (posT C f.data.toList)) v).2 = 0 ∧ moveP C f t v = ((putP (outI C (posT C f.data.toList)) t (byT C (posT C f.data.toList)) v).1, 0)) := by
  unfold moveP
  by_cases h1 : askT C [f, t] ≠ 0
  · rw [if_pos h1]; exact .inl ⟨h1, rfl⟩
  · rw [if_neg h1]
    have h1' : askT C [f, t] = 0 := by simpa using h1
    cases h2 : hasT C f.data.toList with
    | false => rw [if_pos rfl]; exact .inl ⟨by simp, rfl⟩
    | true =>
      rw [if_neg (by simp)]
      cases h3 : dirT C (posT C f.data.toList) with
      | true => rw [if_pos rfl]; exact .inl ⟨by simp, rfl⟩
      | false =>
        rw [if_neg (by simp)]
        by_cases h4 : f.data.toList = t.data.toList
        · rw [if_pos h4]; exact .inr (.inl ⟨rfl, h1', rfl, h4⟩)
        · rw [if_neg h4]
          by_cases h5 : (putP (outI C (posT C f.data.toList)) t (byT C (posT C f.data.toList)) v).2 ≠ 0
          · rw [if_pos h5]; exact .inl ⟨h5, rfl⟩
          · rw [if_neg h5]
            exact .inr (.inr ⟨h1', rfl, rfl, h4, by simpa using h5, rfl⟩)
theorem move_err {C : List Ent} {f t : ByteArray} {v : Value} (h : (moveP C f t v).2 ≠ 0) : (moveP C f t v).1 = C := by
  rcases move_ways C f t v with ⟨_, k⟩ | ⟨k, _⟩ | ⟨_, _, _, _, _, k⟩
  · exact k
  · rw [k]
  · rw [k] at h; exact absurd rfl h
theorem move_good {C : List Ent} (hg : goodP C = true) (f t : ByteArray) (v : Value) : goodP (moveP C f t v).1 = true := by
  rcases move_ways C f t v with ⟨_, k⟩ | ⟨k, _⟩ | ⟨ha, hh, hd, _, _, k⟩
  · rw [k]; exact hg
  · rw [k]; exact hg
  · rw [k]
    obtain ⟨hl, _⟩ := has_at hh
    rw [dirT_at hl] at hd
    rcases put_good (out_good hg hl hd) t (byT C (posT C f.data.toList)) v with h | h
    · exact h
    · rw [(askT_good ha).2 t (List.mem_cons_of_mem _ (List.mem_singleton.2 rfl))] at h; cases h
theorem putP_ok {C : List Ent} {p : ByteArray} {b : List (BitVec 8)} {v : Value} (h1 : roomT C p.data.toList = 0) (h2 : hasT C p.data.toList = false) (h3 : b.length ≤ 2048) (h4 : fitsT (putL C (fileE p v b)) = true) : putP C p b v = (putL C (fileE p v b), 0) := by
  unfold putP
  rw [if_neg (by rw [h1]; simp), if_neg (by rw [h2]; simp), if_neg (by omega), if_pos h4]
theorem putL_new {A B : List Ent} {E : Ent} (h1 : ∀ e ∈ A, cmpL e.pa E.pa < 0) (h2 : ∀ e ∈ B, 0 < cmpL e.pa E.pa) : putL (A ++ B) E = A ++ E :: B := by
  obtain ⟨hp, hh⟩ := pos_split h1 h2
  unfold putL
  rw [hp, hh, if_neg (by simp), List.take_left' rfl, List.drop_left' rfl]
theorem likeT_app : ∀ (A : List Ent) {B D : List Ent}, likeT B D = true → likeT (A ++ B) (A ++ D) = true
  | [], _, _, h => h
  | a :: A, B, D, h => by
    show (eqE a a && likeT (A ++ B) (A ++ D)) = true
    rw [likeT_app A h]
    simp [eqE]
/-- There, where nothing was, and back again. -/
theorem move_back {C : List Ent} (hg : goodP C = true) {f t : ByteArray} {v : Value} (he : (moveP C f t v).2 = 0) (hn : (findP C t).2 = 5) :
    (∀ v2, (moveP (moveP C f t v).1 t f v2).2 = 0 ∧ sameT (moveP (moveP C f t v).1 t f v2).1 C = true) ∧ bytesT (moveP C f t v).1 = bytesT C ∧ (moveP C f t v).1.length = C.length := by
  have hG := move_good hg f t v
  obtain ⟨_, hnt⟩ := find_none.1 hn
  rcases move_ways C f t v with ⟨k, _⟩ | ⟨_, _, hh, k⟩ | ⟨ha, hh, hd, hne, hp, k⟩
  · exact absurd he k
  · rw [k, hnt] at hh; cases hh
  · obtain ⟨hl, hat⟩ := has_at hh
    have hd' := hd
    rw [dirT_at hl] at hd'
    have hok := (askT_good ha).2
    have hof := hok f (List.mem_cons_self ..)
    have hot := hok t (List.mem_cons_of_mem _ (List.mem_singleton.2 rfl))
    obtain ⟨g1, g2, g3, g4⟩ := (goodP_iff C).1 hg
    have hgo := out_good hg hl hd'
    obtain ⟨o1, o2, o3, o4⟩ := (goodP_iff _).1 hgo
    have hby := byT_at hl
    rw [put_out hp] at k
    rw [k] at hG ⊢
    simp only []
    simp only [] at hG
    generalize hi : posT C f.data.toList = i at *
    generalize hE : fileE t v (byT C i) = E at *
    have hEp : E.pa = t.data.toList := by rw [← hE]; rfl
    have hEd : E.dir = false := by rw [← hE]; rfl
    have hEb : E.by = C[i].by := by rw [← hE, ← hby]; rfl
    -- nothing stands at t without f
    have hno : hasT (outI C i) E.pa = false := by
      cases h : hasT (outI C i) E.pa with
      | false => rfl
      | true =>
        obtain ⟨y, hy, ky⟩ := (hasT_iff o2).1 h
        have := (hasT_iff g2).2 ⟨y, outI_mem hy, ky.trans hEp⟩
        rw [hnt] at this; cases this
    obtain ⟨x1, x2, x3, x4⟩ := (goodP_iff _).1 hG
    have hpl := posT_le (outI C i) E.pa
    have hXe : putL (outI C i) E = (outI C i).take (posT (outI C i) E.pa) ++ E :: (outI C i).drop (posT (outI C i) E.pa) := by unfold putL; rw [hno, if_neg (by simp)]
    have hlen : ((outI C i).take (posT (outI C i) E.pa)).length = posT (outI C i) E.pa := by rw [List.length_take]; omega
    have hXl : (putL (outI C i) E).length = C.length := by rw [putL_len, hno, if_neg (by simp)]; exact outI_len hl
    have hXb : bytesT (putL (outI C i) E) = bytesT C := by
      rw [hXe, bytesT_app', bytesT_cons, hEb, ← outI_bytes hl]
      have : bytesT (outI C i) = bytesT ((outI C i).take (posT (outI C i) E.pa)) + bytesT ((outI C i).drop (posT (outI C i) E.pa)) := by rw [← bytesT_app', List.take_append_drop]
      omega
    refine ⟨fun v2 => ?_, hXb, hXl⟩
    generalize hj : posT (outI C i) E.pa = j at *
    have hjl : j < (putL (outI C i) E).length := by rw [hXe, List.length_append, List.length_cons, hlen]; omega
    have hjat : (putL (outI C i) E)[j] = E := by
      simp only [hXe]
      rw [List.getElem_append_right (by omega)]
      simp only [hlen, Nat.sub_self, List.getElem_cons_zero]
    obtain ⟨hh2, hp2⟩ := pos_of x2 hjl
    rw [hjat, hEp] at hh2 hp2
    have hout : outI (putL (outI C i) E) j = outI C i := by
      unfold outI
      have e1 : (putL (outI C i) E).take j = (outI C i).take j := by rw [hXe]; exact List.take_left' hlen
      have e2 : (putL (outI C i) E).drop (j + 1) = (outI C i).drop j := by
        rw [hXe, show (outI C i).take j ++ E :: (outI C i).drop j = ((outI C i).take j ++ [E]) ++ (outI C i).drop j by simp]
        exact List.drop_left' (by rw [List.length_append, hlen]; rfl)
      unfold outI at e1 e2
      rw [e1, e2, List.take_append_drop]
    have hby2 : byT (putL (outI C i) E) j = C[i].by := by rw [byT_at hjl, hjat, hEb]
    have hdir2 : dirT (putL (outI C i) E) j = false := by rw [dirT_at hjl, hjat, hEd]
    have hask2 : askT (putL (outI C i) E) [t, f] = 0 := ask_ok hG fun p hp => by
      rcases List.mem_cons.1 hp with rfl | hp
      · exact hot
      · rw [List.mem_singleton.1 hp]; exact hof
    have hb1 := take_bef g2 hl
    have hb2 := drop_aft g2 hl
    rw [hat] at hb1 hb2
    have hFp : (fileE f v2 C[i].by).pa = f.data.toList := rfl
    have hnf : hasT (outI C i) f.data.toList = false := (pos_split hb1 hb2).2
    have hY : putL (outI C i) (fileE f v2 C[i].by) = C.take i ++ fileE f v2 C[i].by :: C.drop (i + 1) := putL_new hb1 hb2
    have hfit : fitsT (putL (outI C i) (fileE f v2 C[i].by)) = true := by
      rw [hY]
      unfold fitsT at g1 ⊢
      have e1 : (C.take i ++ fileE f v2 C[i].by :: C.drop (i + 1)).length = C.length := by
        rw [List.length_append, List.length_cons, List.length_take, List.length_drop]; omega
      have e2 : bytesT (C.take i ++ fileE f v2 C[i].by :: C.drop (i + 1)) = bytesT C := by
        rw [bytesT_app', bytesT_cons, ← outI_bytes hl]
        unfold outI
        rw [bytesT_app']
        have : (fileE f v2 C[i].by).by.length = C[i].by.length := rfl
        omega
      rw [e1, e2]; exact g1
    have hroom : roomT (outI C i) f.data.toList = 0 := by
      have := out_room hg hl hd'
      rw [hat] at this
      exact this
    have hb3 : C[i].by.length ≤ 2048 := by
      have h := g3 _ (List.getElem_mem hl)
      unfold okEnt at h
      rw [Bool.and_eq_true, Bool.and_eq_true, decide_eq_true_eq] at h
      exact h.2.2
    have hput : putP (outI C i) f C[i].by v2 = (putL (outI C i) (fileE f v2 C[i].by), 0) := putP_ok hroom hnf hb3 hfit
    have hmv : moveP (putL (outI C i) E) t f v2 = (putL (outI C i) (fileE f v2 C[i].by), 0) := by
      unfold moveP
      rw [if_neg (by rw [hask2]; simp), hh2, if_neg (by simp), hp2, hdir2, if_neg (by simp), if_neg (fun k => hne k.symm), hout, hby2, hput]
      simp
    have hgY := move_good hG t f v2
    rw [hmv] at hgY ⊢
    refine ⟨rfl, ?_⟩
    unfold sameT
    simp only [] at hgY ⊢
    rw [hgY, hg, hY]
    have hl2 : likeT (C.take i ++ fileE f v2 C[i].by :: C.drop (i + 1)) C = true := by
      refine (congrArg (likeT (C.take i ++ fileE f v2 C[i].by :: C.drop (i + 1))) (split_at hl)).trans (likeT_app _ ?_)
      show (eqE (fileE f v2 C[i].by) C[i] && likeT (C.drop (i + 1)) (C.drop (i + 1))) = true
      rw [likeT_self]
      unfold eqE
      rw [hFp, hat, hd']
      simp [fileE, Ent.dir, Ent.by]
    rw [hl2]; rfl
end Go.Proofs.YthpendoblgndcaaDoor
