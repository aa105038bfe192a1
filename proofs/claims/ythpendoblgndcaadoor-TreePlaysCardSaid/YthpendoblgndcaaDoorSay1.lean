/- Contract: the document's own Make. Conditions: at most 50000 entries, paths of at most 2^20 bytes, all bytes together at most 2^61. -/
import Derived.Test.YthpendoblgndcaaDoorBase3
import Derived.Test.YthpendoblgndcaaDoorExt1
import Derived.Test.YthpendoblgndcaaDoorBase5
import Derived.Laws.OwnMore
namespace Go.Proofs.YthpendoblgndcaaDoor
open Go.RowKit
theorem withT_mem : ∀ (C : List Ent) (e : Ent) (dn : Bool), ∀ y ∈ withT C e dn, y = e ∨ y ∈ C
  | [], e, dn, y, h => by cases dn <;> simp [withT] at h; exact .inl h
  | x :: C, e, dn, y, h => by
    rw [withT, List.mem_append, List.mem_append] at h
    rcases h with h | h | h
    · split at h
      · exact .inl (by simpa using h)
      · cases h
    · split at h
      · cases h
      · exact .inr (by rw [List.mem_singleton.1 h]; exact List.mem_cons_self ..)
    · rcases withT_mem C e _ y h with h | h
      · exact .inl h
      · exact .inr (List.mem_cons_of_mem _ h)
theorem withT_len : ∀ (C : List Ent) (e : Ent) (dn : Bool), (withT C e dn).length ≤ C.length + (if dn then 0 else 1)
  | [], e, dn => by cases dn <;> simp [withT]
  | x :: C, e, dn => by
    rw [withT, List.length_append, List.length_append, List.length_cons]
    have h := withT_len C e (dn || decide (0 ≤ cmpL x.pa e.pa))
    have h2 : (if (x.pa == e.pa) = true then ([] : List Ent) else [x]).length ≤ 1 := by split <;> simp
    cases dn with
    | true => simp at h ⊢; simp at h2; omega
    | false =>
      cases hd : decide (0 ≤ cmpL x.pa e.pa) with
      | true => rw [hd] at h; simp at h ⊢; simp at h2; omega
      | false => rw [hd] at h; simp at h ⊢; simp at h2; omega
theorem bytesT_app (A B : List Ent) : bytesT (A ++ B) = bytesT A + bytesT B := by unfold bytesT; rw [List.map_append, List.sum_append]
theorem bytesT_one (e : Ent) : bytesT [e] = e.by.length := by simp [bytesT]
theorem withT_bytes : ∀ (C : List Ent) (e : Ent) (dn : Bool), bytesT (withT C e dn) ≤ bytesT C + (if dn then 0 else e.by.length)
  | [], e, dn => by cases dn <;> simp [withT, bytesT]
  | x :: C, e, dn => by
    have hx : bytesT (x :: C) = x.by.length + bytesT C := by rw [show x :: C = [x] ++ C from rfl, bytesT_app, bytesT_one]
    rw [withT, bytesT_app, bytesT_app, hx]
    have h := withT_bytes C e (dn || decide (0 ≤ cmpL x.pa e.pa))
    have h2 : bytesT (if (x.pa == e.pa) = true then ([] : List Ent) else [x]) ≤ x.by.length := by split; exact Nat.zero_le _; rw [bytesT_one]; exact Nat.le_refl _
    cases dn with
    | true => simp at h; simp only [Bool.not_true, Bool.false_and, Bool.false_eq_true, if_false, if_true, Bool.true_or] at *; have : bytesT ([] : List Ent) = 0 := rfl; omega
    | false =>
      have h0 : bytesT ([] : List Ent) = 0 := rfl
      have h1 : bytesT [e] = e.by.length := bytesT_one e
      cases hd : decide (0 ≤ cmpL x.pa e.pa) with
      | true => rw [hd] at h; simp only [Bool.false_or, Bool.not_false, Bool.true_and, if_true, Bool.false_eq_true, if_false] at *; omega
      | false => rw [hd] at h; simp only [Bool.false_or, Bool.not_false, Bool.true_and, Bool.false_eq_true, if_false] at *; omega
def newDir (p : ByteArray) : Ent := (p, true, .slice none 0 0, [])
def makeT (C : List Ent) (p : ByteArray) : List Ent × Int :=
  if goodT C = false then (C, 1) else if okPath p.data.toList = false then (C, 4) else if 0 ≤ atT C p.data.toList then (C, 6) else
  if roomT C p.data.toList ≠ 0 then (C, roomT C p.data.toList) else if goodT (withT C (newDir p) false) = false then (C, 9) else (withT C (newDir p) false, 0)
set_option maxHeartbeats 4000000 in
set_option maxRecDepth 100000 in
theorem rmake_any (C : List Ent) (q : Option Addr) (c : Nat) (p : ByteArray) (hm : C.length ≤ 50000) (hcap : C.length ≤ c) (hq : q = none → c = 0) (hp : p.size ≤ 1048576) (hb : bytesT C ≤ 2305843009213693952) (hn : ∀ e ∈ C, e.1.size ≤ 1048576) (w : World) (hs : Sees w w.heap.size q (rowC C)) (hE : Ents w C) :
    Calls Tryd.prog 21 #[.slice q C.length c, .string p] w fun e w' => (∃ v, e = .returned (.tuple #[v, .int .i64 (makeT C p).2]) ∧ TrV w' v (makeT C p).1 ∧ Ents w' (makeT C p).1) ∧ Below w.heap.size w w' := by
  have HT : Hid (∀ w', Below w.heap.size w w' → TrV w' (.slice q C.length c) C ∧ Ents w' C) := Lib.hid (fun w' h => ⟨⟨q, c, rfl, hcap, hq, (hs.keep h).more h.size⟩, hE.keep h⟩)
  have HS := Lib.hid hs
  have HE := Lib.hid hE
  have HN := Lib.hid hn
  have HGT := Lib.hid (fun w1 h1 h2 => rgt_any C q c (by omega) (by omega) hn w1 h1 h2)
  have HG := Lib.hid (fun w1 => rgood_any p hp w1)
  have HAT := Lib.hid (fun w1 h => rat_any C q c p (by omega) w1 h)
  have HRM := Lib.hid (fun w1 h => rroom_any C q c p (by omega) hp w1 h)
  have HWT := Lib.hid (fun w1 h1 h2 => rwith_any C q c p true (.slice none 0 0) [] (by omega) hp hn w1 h1 h2 rfl)
  have hWn : ∀ e ∈ withT C (newDir p) false, e.1.size ≤ 1048576 := fun e h => by
    rcases withT_mem _ _ _ e h with rfl | h
    · exact hp
    · exact hn e h
  have hWl := withT_len C (newDir p) false
  have hWb : bytesT (withT C (newDir p) false) ≤ bytesT C := withT_bytes C (newDir p) false
  have HWG := Lib.hid (fun q1 c1 w1 h1 h2 => rgt_any (withT C (newDir p) false) q1 c1 (by simp at hWl; omega) (by omega) hWn w1 h1 h2)
  have HWE : Hid (∀ w', Below w.heap.size w w' → Ents w' (withT C (newDir p) false)) := Lib.hid (fun w' h e he => by
    rcases withT_mem _ _ _ e he with rfl | he
    · exact Bs.nil w'
    · exact (hE.keep h) e he)
  obtain ⟨V, hV⟩ : ∃ V, makeT C p = V := ⟨_, rfl⟩
  rw [hV]
  unfold makeT at hV
  generalize goodT (withT C (newDir p) false) = G2 at *
  change Hid (∀ w1 h1 h2, Calls _ _ _ w1 fun e w' => (∃ v, e = .returned v ∧ TrV w' v (withT C (newDir p) false)) ∧ _) at HWT
  generalize withT C (newDir p) false = C2 at *
  generalize goodT C = G1 at *
  generalize okPath p.data.toList = G at *
  have hge := atT_ge C p.data.toList
  generalize atT C p.data.toList = K0 at *
  generalize roomT C p.data.toList = E0 at *
  clear hs hE hn hcap hq hWn hWl hWb
  have HV := Lib.hid hV
  clear hV
  go_enter Tryd.func21, Tryd.ntmps21
  go_wp2_with fail
  refine (HGT.out _ HS.out HE.out).mono ?_
  rintro e w1 ⟨rfl, hb1⟩
  have HB := Lib.hid hb1
  clear hb1
  cases G1 with
  | false =>
    obtain rfl : V = (C, 1) := HV.out.symm
    go_wp2_with fail
    go_ret2
    exact ⟨⟨_, rfl, HT.out _ HB.out⟩, HB.out⟩
  | true =>
    go_wp2_with fail
    refine (HG.out _).mono ?_
    rintro e w2 ⟨rfl, hb1⟩
    replace HB := Lib.hid (HB.out.trans (hb1.mono HB.out.size))
    clear hb1
    cases G with
    | false =>
      obtain rfl : V = (C, 4) := HV.out.symm
      go_wp2_with fail
      go_ret2
      exact ⟨⟨_, rfl, HT.out _ HB.out⟩, HB.out⟩
    | true =>
      go_wp2_with fail
      refine (HAT.out _ ((HS.out.keep HB.out).more HB.out.size)).mono ?_
      rintro e w3 ⟨rfl, rfl⟩
      by_cases hk : 0 ≤ K0
      · obtain rfl : V = (C, 6) := by rw [← HV.out]; simp [hk]
        go_wp2_with fail
        go_ret2
        exact ⟨⟨_, rfl, HT.out _ HB.out⟩, HB.out⟩
      · have hv : (if E0 ≠ 0 then (C, E0) else if G2 = false then (C, 9) else (C2, 0)) = V := by rw [← HV.out]; simp [hk]
        have HV2 := Lib.hid hv
        have hk2 : K0 < 0 := by omega
        clear hv
        go_wp2_with fail
        refine (HRM.out _ ((HS.out.keep HB.out).more HB.out.size)).mono ?_
        rintro e w4 ⟨rfl, hb1⟩
        replace HB := Lib.hid (HB.out.trans (hb1.mono HB.out.size))
        clear hb1
        by_cases he : E0 = 0
        · subst he
          have hv : (if G2 = false then (C, 9) else (C2, 0)) = V := by rw [← HV2.out]; simp
          have HV3 := Lib.hid hv
          clear hv
          go_wp2_with fail
          refine (HWT.out _ ((HS.out.keep HB.out).more HB.out.size) (HE.out.keep HB.out)).mono ?_
          rintro e w5 ⟨⟨v, rfl, q2, c2, rfl, hc2, hq2, hs2⟩, hb1⟩
          replace HB := Lib.hid (HB.out.trans (hb1.mono HB.out.size))
          have HS2 := Lib.hid hs2
          clear hb1 hs2
          go_wp2_with fail
          refine (HWG.out q2 c2 _ HS2.out (HWE.out _ HB.out)).mono ?_
          rintro e w6 ⟨rfl, hb1⟩
          replace HB := Lib.hid (HB.out.trans (hb1.mono HB.out.size))
          replace HS2 := Lib.hid ((HS2.out.keep hb1).more hb1.size)
          clear hb1
          cases G2 with
          | false =>
            obtain rfl : V = (C, 9) := HV3.out.symm
            go_wp2_with fail
            go_ret2
            exact ⟨⟨_, rfl, HT.out _ HB.out⟩, HB.out⟩
          | true =>
            obtain rfl : V = (C2, 0) := HV3.out.symm
            go_wp2_with fail
            go_ret2
            exact ⟨⟨_, rfl, ⟨q2, c2, rfl, hc2, hq2, HS2.out⟩, HWE.out _ HB.out⟩, HB.out⟩
        · obtain rfl : V = (C, E0) := by rw [← HV2.out]; simp [he]
          have hen : (E0 == 0) = false := by rw [beq_eq_false_iff_ne]; exact he
          have hen2 : (E0 != 0) = true := by simp [bne, hen]
          go_wp2_with fail
          go_ret2
          exact ⟨⟨_, rfl, HT.out _ HB.out⟩, HB.out⟩
end Go.Proofs.YthpendoblgndcaaDoor
/- Contract: the document's own Put. Conditions: at most 50000 entries, paths of at most 2^20 bytes, all bytes together at most 2^61, the new ones at most 2^46. -/
namespace Go.Proofs.YthpendoblgndcaaDoor
open Go.RowKit
def newF (p : ByteArray) (v : Value) (b : List (BitVec 8)) : Ent := (p, false, v, b)
def putT (C : List Ent) (p : ByteArray) (b : List (BitVec 8)) (v : Value) : List Ent × Int :=
  if goodT C = false then (C, 1) else if okPath p.data.toList = false then (C, 4) else
  if roomT C p.data.toList ≠ 0 then (C, roomT C p.data.toList) else if 0 ≤ atT C p.data.toList ∧ dirT C (atT C p.data.toList).toNat = true then (C, 7) else
  if goodT (withT C (newF p v b) false) = false then (C, 9) else (withT C (newF p v b) false, 0)
theorem own_slice {w : World} {base n size : Nat} {e : TypeId} {v : Value} {xs : List Value} (h : w.ownsRow base e size v n xs) : ∃ x m c, v = .slice x m c := by
  rcases h.2 with ⟨rfl, _⟩ | ⟨g, cap, cur, rfl, _⟩ <;> exact ⟨_, _, _, rfl⟩
set_option maxHeartbeats 4000000 in
set_option maxRecDepth 100000 in
theorem rput_any (C : List Ent) (q : Option Addr) (c : Nat) (p : ByteArray) (b : List (BitVec 8)) (qb : Option Addr) (cb : Nat) (hm : C.length ≤ 50000) (hcap : C.length ≤ c) (hq : q = none → c = 0) (hp : p.size ≤ 1048576) (hb : bytesT C ≤ 2305843009213693952) (hn : ∀ e ∈ C, e.1.size ≤ 1048576)
    (hbl : b.length ≤ 70368744177664) (hqb : qb = none → cb = 0) (w : World) (hs : Sees w w.heap.size q (rowC C)) (hE : Ents w C) (hsb : Sees w w.heap.size qb (b.map u8v)) :
    Calls Tryd.prog 20 #[.slice q C.length c, .string p, .slice qb b.length cb] w fun e w' => (∃ v v5, e = .returned (.tuple #[v, .int .i64 (putT C p b v5).2]) ∧ TrV w' v (putT C p b v5).1 ∧ Ents w' (putT C p b v5).1) ∧ Below w.heap.size w w' := by
  have HT : Hid (∀ w', Below w.heap.size w w' → TrV w' (.slice q C.length c) C ∧ Ents w' C) := Lib.hid (fun w' h => ⟨⟨q, c, rfl, hcap, hq, (hs.keep h).more h.size⟩, hE.keep h⟩)
  have HS := Lib.hid hs
  have HSB := Lib.hid hsb
  have HE := Lib.hid hE
  have HN := Lib.hid hn
  have HGT := Lib.hid (fun w1 h1 h2 => rgt_any C q c (by omega) (by omega) hn w1 h1 h2)
  have HG := Lib.hid (fun w1 => rgood_any p hp w1)
  have HAT := Lib.hid (fun w1 h => rat_any C q c p (by omega) w1 h)
  have HRM := Lib.hid (fun w1 h => rroom_any C q c p (by omega) hp w1 h)
  have HWT : Hid (∀ bv, bv.oneCell' = true → ∀ w1, Sees w1 w1.heap.size q (rowC C) → Ents w1 C → Calls Tryd.prog 52 #[.slice q C.length c, .agg #[.string p, .bool false, bv]] w1 fun e w' => (∃ v, e = .returned v ∧ TrV w' v (withT C (newF p bv b) false)) ∧ Below w1.heap.size w1 w') := Lib.hid (fun bv h0 w1 h1 h2 => rwith_any C q c p false bv b (by omega) hp hn w1 h1 h2 h0)
  have HWG := Lib.hid (fun bv q1 c1 w1 h1 h2 => rgt_any (withT C (newF p bv b) false) q1 c1 (by have := withT_len C (newF p bv b) false; simp at this; omega) (by have := withT_bytes C (newF p bv b) false; simp at this; have e : (newF p bv b).by.length = b.length := rfl; omega) (fun e h => by
    rcases withT_mem _ _ _ e h with rfl | h
    · exact hp
    · exact hn e h) w1 h1 h2)
  have HWE : Hid (∀ bv w', Bs w' bv b → Below w.heap.size w w' → Ents w' (withT C (newF p bv b) false)) := Lib.hid (fun bv w' hbs h e he => by
    rcases withT_mem _ _ _ e he with rfl | he
    · exact hbs
    · exact (hE.keep h) e he)
  have HV : Hid (∀ v5, putT C p b v5 = if goodT C = false then (C, 1) else if okPath p.data.toList = false then (C, 4) else
    if roomT C p.data.toList ≠ 0 then (C, roomT C p.data.toList) else if 0 ≤ atT C p.data.toList ∧ dirT C (atT C p.data.toList).toNat = true then (C, 7) else
    if goodT (withT C (newF p v5 b) false) = false then (C, 9) else (withT C (newF p v5 b) false, 0)) := Lib.hid (fun _ => rfl)
  generalize putT C p b = PV at *
  generalize goodT C = G1 at *
  generalize okPath p.data.toList = G at *
  have hge := atT_ge C p.data.toList
  have hltt := atT_lt C p.data.toList
  generalize atT C p.data.toList = K0 at *
  generalize roomT C p.data.toList = E0 at *
  clear hs hE hn hcap hq hsb
  go_enter Tryd.func20, Tryd.ntmps20
  go_wp2_with fail
  refine (HGT.out _ HS.out HE.out).mono ?_
  rintro e w1 ⟨rfl, hb1⟩
  have HB := Lib.hid hb1
  clear hb1
  cases G1 with
  | false =>
    have hv : PV undef = (C, 1) := by rw [HV.out]; rfl
    go_wp2_with fail
    go_ret2
    exact ⟨⟨.slice q C.length c, undef, by rw [hv]; rfl, by rw [hv]; exact HT.out _ HB.out⟩, HB.out⟩
  | true =>
    go_wp2_with fail
    refine (HG.out _).mono ?_
    rintro e w2 ⟨rfl, hb1⟩
    replace HB := Lib.hid (HB.out.trans (hb1.mono HB.out.size))
    clear hb1
    cases G with
    | false =>
      have hv : PV undef = (C, 4) := by rw [HV.out]; rfl
      go_wp2_with fail
      go_ret2
      exact ⟨⟨.slice q C.length c, undef, by rw [hv]; rfl, by rw [hv]; exact HT.out _ HB.out⟩, HB.out⟩
    | true =>
      go_wp2_with fail
      refine (HRM.out _ ((HS.out.keep HB.out).more HB.out.size)).mono ?_
      rintro e w3 ⟨rfl, hb1⟩
      replace HB := Lib.hid (HB.out.trans (hb1.mono HB.out.size))
      clear hb1
      by_cases he : E0 = 0
      · subst he
        go_wp2_with fail
        refine (HAT.out _ ((HS.out.keep HB.out).more HB.out.size)).mono ?_
        rintro e w4 ⟨rfl, rfl⟩
        by_cases hk : 0 ≤ K0
        · obtain ⟨k, rfl⟩ : ∃ k : Nat, K0 = (k : Int) := ⟨K0.toNat, by omega⟩
          have hkl : k < C.length := by omega
          obtain ⟨a, rfl, ha, hc⟩ := HS.out.ent hkl
          obtain ⟨_, c5, _⟩ := hc w3 HB.out
          have hd : dirT C k = C[k].2.1 := by unfold dirT; rw [List.getElem?_eq_getElem hkl]; rfl
          have HD := Lib.hid hd
          have kl : (k : Int) < (C.length : Int) := by omega
          clear hc ha hd
          generalize C[k].2.1 = d at *
          cases d with
          | true =>
            have hv : PV undef = (C, 7) := by rw [HV.out]; simp [HD.out]
            go_wp2_with fail
            go_ret2
            exact ⟨⟨.slice (some a) C.length c, undef, by rw [hv]; rfl, by rw [hv]; exact HT.out _ HB.out⟩, HB.out⟩
          | false =>
            have HSB3 : Hid (Sees (w3.alloc (.cells #[] 5)) w3.heap.size qb (b.map u8v)) := Lib.hid (((HSB.out.keep HB.out).more HB.out.size).keep ((Below.refl _ _).alloc (Nat.le_refl _) _))
            go_wp2_with (refine wpList_append_sees rfl (.tmp 41) (.tmp 42) rfl w3.heap.size _ 0 [] rfl (World.ownsRow_made w3 #[] 0 (Nat.le_refl _) (Nat.zero_le _) rfl) qb b cb w3.heap.size rfl hqb HSB3.out (by omega) (by simp) ?_; intro v5 w5 ho5 hb5; obtain ⟨x5, m5, k5, rfl⟩ := own_slice ho5; have HO5 := Lib.hid ho5; replace HB := Lib.hid ((HB.out.alloc HB.out.size (.cells #[] 5)).trans (hb5.mono HB.out.size)); clear ho5 hb5 HSB3)
            have HBS : Hid (Bs w5 (.slice x5 m5 k5) b) := Lib.hid (Bs.own (by simpa using HO5.out))
            refine (HWT.out (.slice x5 m5 k5) rfl _ ((HS.out.keep HB.out).more HB.out.size) (HE.out.keep HB.out)).mono ?_
            rintro e w6 ⟨⟨v, rfl, q2, c2, rfl, hc2, hq2, hs2⟩, hb1⟩
            replace HB := Lib.hid (HB.out.trans (hb1.mono HB.out.size))
            replace HBS := Lib.hid (HBS.out.keep hb1)
            have HS2 := Lib.hid hs2
            clear hb1 hs2 HO5
            have hv : PV (.slice x5 m5 k5) = if goodT (withT C (newF p (.slice x5 m5 k5) b) false) = false then (C, 9) else (withT C (newF p (.slice x5 m5 k5) b) false, 0) := by rw [HV.out]; simp [HD.out]
            have HV3 := Lib.hid hv
            have HG2 := Lib.hid (HWG.out (.slice x5 m5 k5) q2 c2)
            have HE2 := Lib.hid (HWE.out (.slice x5 m5 k5))
            clear hv HWG HWT HWE HV
            generalize withT C (newF p (.slice x5 m5 k5) b) false = C2 at *
            generalize goodT C2 = G2 at *
            go_wp2_with fail
            refine (HG2.out _ HS2.out (HE2.out _ HBS.out HB.out)).mono ?_
            rintro e w7 ⟨rfl, hb1⟩
            replace HB := Lib.hid (HB.out.trans (hb1.mono HB.out.size))
            replace HBS := Lib.hid (HBS.out.keep hb1)
            replace HS2 := Lib.hid ((HS2.out.keep hb1).more hb1.size)
            clear hb1
            cases G2 with
            | false =>
              have hv : PV (.slice x5 m5 k5) = (C, 9) := HV3.out
              go_wp2_with fail
              go_ret2
              exact ⟨⟨.slice (some a) C.length c, .slice x5 m5 k5, by rw [hv]; rfl, by rw [hv]; exact HT.out _ HB.out⟩, HB.out⟩
            | true =>
              have hv : PV (.slice x5 m5 k5) = (C2, 0) := HV3.out
              go_wp2_with fail
              go_ret2
              exact ⟨⟨.slice q2 C2.length c2, .slice x5 m5 k5, by rw [hv]; rfl, by rw [hv]; exact ⟨⟨q2, c2, rfl, hc2, hq2, HS2.out⟩, HE2.out _ HBS.out HB.out⟩⟩, HB.out⟩
        · have hk2 : K0 < 0 := by omega
          have HK : Hid (¬ 0 ≤ K0) := Lib.hid hk
          have HSB3 : Hid (Sees (w3.alloc (.cells #[] 5)) w3.heap.size qb (b.map u8v)) := Lib.hid (((HSB.out.keep HB.out).more HB.out.size).keep ((Below.refl _ _).alloc (Nat.le_refl _) _))
          go_wp2_with (refine wpList_append_sees rfl (.tmp 41) (.tmp 42) rfl w3.heap.size _ 0 [] rfl (World.ownsRow_made w3 #[] 0 (Nat.le_refl _) (Nat.zero_le _) rfl) qb b cb w3.heap.size rfl hqb HSB3.out (by omega) (by simp) ?_; intro v5 w5 ho5 hb5; obtain ⟨x5, m5, k5, rfl⟩ := own_slice ho5; have HO5 := Lib.hid ho5; replace HB := Lib.hid ((HB.out.alloc HB.out.size (.cells #[] 5)).trans (hb5.mono HB.out.size)); clear ho5 hb5 HSB3)
          have HBS : Hid (Bs w5 (.slice x5 m5 k5) b) := Lib.hid (Bs.own (by simpa using HO5.out))
          refine (HWT.out (.slice x5 m5 k5) rfl _ ((HS.out.keep HB.out).more HB.out.size) (HE.out.keep HB.out)).mono ?_
          rintro e w6 ⟨⟨v, rfl, q2, c2, rfl, hc2, hq2, hs2⟩, hb1⟩
          replace HB := Lib.hid (HB.out.trans (hb1.mono HB.out.size))
          replace HBS := Lib.hid (HBS.out.keep hb1)
          have HS2 := Lib.hid hs2
          clear hb1 hs2 HO5
          have hv : PV (.slice x5 m5 k5) = if goodT (withT C (newF p (.slice x5 m5 k5) b) false) = false then (C, 9) else (withT C (newF p (.slice x5 m5 k5) b) false, 0) := by rw [HV.out, if_neg (by simp), if_neg (by simp), if_neg (by simp), if_neg (fun h => absurd h.1 (by have := HK.out; omega))]
          have HV3 := Lib.hid hv
          have HG2 := Lib.hid (HWG.out (.slice x5 m5 k5) q2 c2)
          have HE2 := Lib.hid (HWE.out (.slice x5 m5 k5))
          clear hv HWG HWT HWE HV
          generalize withT C (newF p (.slice x5 m5 k5) b) false = C2 at *
          generalize goodT C2 = G2 at *
          go_wp2_with fail
          refine (HG2.out _ HS2.out (HE2.out _ HBS.out HB.out)).mono ?_
          rintro e w7 ⟨rfl, hb1⟩
          replace HB := Lib.hid (HB.out.trans (hb1.mono HB.out.size))
          replace HBS := Lib.hid (HBS.out.keep hb1)
          replace HS2 := Lib.hid ((HS2.out.keep hb1).more hb1.size)
          clear hb1
          cases G2 with
          | false =>
            have hv : PV (.slice x5 m5 k5) = (C, 9) := HV3.out
            go_wp2_with fail
            go_ret2
            exact ⟨⟨.slice q C.length c, .slice x5 m5 k5, by rw [hv]; rfl, by rw [hv]; exact HT.out _ HB.out⟩, HB.out⟩
          | true =>
            have hv : PV (.slice x5 m5 k5) = (C2, 0) := HV3.out
            go_wp2_with fail
            go_ret2
            exact ⟨⟨.slice q2 C2.length c2, .slice x5 m5 k5, by rw [hv]; rfl, by rw [hv]; exact ⟨⟨q2, c2, rfl, hc2, hq2, HS2.out⟩, HE2.out _ HBS.out HB.out⟩⟩, HB.out⟩
      · have hv : PV undef = (C, E0) := by rw [HV.out]; simp [he]
        have hen : (E0 == 0) = false := by rw [beq_eq_false_iff_ne]; exact he
        have hen2 : (E0 != 0) = true := by simp [bne, hen]
        go_wp2_with fail
        go_ret2
        exact ⟨⟨.slice q C.length c, undef, by rw [hv]; rfl, by rw [hv]; exact HT.out _ HB.out⟩, HB.out⟩
end Go.Proofs.YthpendoblgndcaaDoor
/- Plain laws: the document's own reckoning with trees and the program's are one. No condition. -/
namespace Go.Proofs.YthpendoblgndcaaDoor
open Go.RowKit
theorem upB_room (C : List Ent) (x : Tx) : upB C x = true ↔ roomT C x = 0 := by
  unfold upB roomT
  by_cases h0 : upV x = []
  · simp [h0]
  · rw [if_neg h0]
    by_cases h1 : atT C (upV x) < 0
    · rw [if_pos h1, decide_eq_false h0, decide_eq_false (by omega)]; simp
    · rw [if_neg h1, decide_eq_false h0, decide_eq_true (by omega)]
      cases dirT C (atT C (upV x)).toNat <;> simp
theorem okE_iff (C : List Ent) (prev : Option Ent) (e : Ent) : okE C prev e = true ↔ prevB prev e.pa = true ∧ okEnt e = true ∧ roomT C e.pa = 0 := by
  rw [← upB_room]
  unfold okE okEnt
  simp only [Bool.and_eq_true]
  constructor
  · rintro ⟨a, b, c, d, f⟩; exact ⟨b, ⟨c, a, d⟩, f⟩
  · rintro ⟨b, ⟨c, a, d⟩, f⟩; exact ⟨a, b, c, d, f⟩
theorem asc_prev (prev : Option Ent) (e : Ent) (r : List Ent) : AscE (prev.toList ++ e :: r) ↔ prevB prev e.pa = true ∧ AscE (e :: r) := by
  cases prev with
  | none => exact ⟨fun h => ⟨rfl, h⟩, fun h => h.2⟩
  | some y =>
    show AscE (y :: e :: r) ↔ decide (cmpL y.pa e.pa < 0) = true ∧ AscE (e :: r)
    rw [decide_eq_true_eq]
    constructor
    · intro h
      obtain ⟨h1, h2⟩ := List.pairwise_cons.1 h
      exact ⟨h1 e (List.mem_cons_self ..), h2⟩
    · rintro ⟨h1, h2⟩
      refine List.pairwise_cons.2 ⟨fun x hx => ?_, h2⟩
      rcases List.mem_cons.1 hx with rfl | hx
      · exact h1
      · exact cmpL_lt_le h1 (Int.le_of_lt ((List.pairwise_cons.1 h2).1 x hx))
theorem goodR_iff (C : List Ent) : ∀ (L : List Ent) (prev : Option Ent), goodR C L prev = true ↔ AscE (prev.toList ++ L) ∧ (∀ e ∈ L, okEnt e = true) ∧ ∀ e ∈ L, roomT C e.pa = 0
  | [], prev => by
    refine ⟨fun _ => ⟨?_, (fun _ hx => nomatch hx), (fun _ hx => nomatch hx)⟩, fun _ => rfl⟩
    cases prev with
    | none => exact List.Pairwise.nil
    | some y => exact List.pairwise_singleton _ _
  | e :: r, prev => by
    rw [goodR, Bool.and_eq_true, goodR_iff C r (some e), okE_iff, asc_prev]
    constructor
    · rintro ⟨⟨a, b, c⟩, d, f, g⟩
      refine ⟨⟨a, d⟩, fun x hx => ?_, fun x hx => ?_⟩
      · rcases List.mem_cons.1 hx with rfl | hx
        · exact b
        · exact f x hx
      · rcases List.mem_cons.1 hx with rfl | hx
        · exact c
        · exact g x hx
    · rintro ⟨⟨a, d⟩, f, g⟩
      exact ⟨⟨a, f e (List.mem_cons_self ..), g e (List.mem_cons_self ..)⟩, d, fun x hx => f x (List.mem_cons_of_mem _ hx), fun x hx => g x (List.mem_cons_of_mem _ hx)⟩
theorem goodT_P (C : List Ent) : goodT C = goodP C := by
  rw [Bool.eq_iff_iff, goodP_iff]
  unfold goodT
  rw [Bool.and_eq_true, goodR_iff]
  show (AscE C ∧ _) ∧ _ ↔ _
  constructor
  · rintro ⟨⟨a, b, c⟩, d⟩; exact ⟨d, a, b, c⟩
  · rintro ⟨d, a, b, c⟩; exact ⟨⟨a, b, c⟩, d⟩
theorem withT_done (E : Ent) : ∀ (B : List Ent), (∀ e ∈ B, e.pa ≠ E.pa) → withT B E true = B
  | [], _ => rfl
  | y :: B, h => by
    rw [withT_cons y E B true false (decide (0 ≤ cmpL y.pa E.pa)) (by simpa using h y (List.mem_cons_self ..)) rfl, Bool.true_or, withT_done E B fun e he => h e (List.mem_cons_of_mem _ he)]
    rfl
theorem withT_before (E : Ent) (B : List Ent) : ∀ (A : List Ent), (∀ e ∈ A, cmpL e.pa E.pa < 0) → withT (A ++ B) E false = A ++ withT B E false
  | [], _ => rfl
  | y :: A, h => by
    have h1 := h y (List.mem_cons_self ..)
    have hne : y.pa ≠ E.pa := fun k => by rw [k, cmpL_self] at h1; omega
    rw [List.cons_append, withT_cons y E (A ++ B) false false false (by simpa using hne) (decide_eq_false (by omega)), Bool.or_self, withT_before E B A fun e he => h e (List.mem_cons_of_mem _ he)]
    rfl
theorem ne_of_gt {x y : Tx} (h : 0 < cmpL x y) : x ≠ y := fun k => by rw [k, cmpL_self] at h; omega
theorem withT_putL {C : List Ent} (hA : AscE C) (E : Ent) : withT C E false = putL C E := by
  have hd := drop_gt hA E.pa
  unfold putL
  have h1 : withT C E false = C.take (posT C E.pa) ++ withT (C.drop (posT C E.pa)) E false := by
    have h := withT_before E (C.drop (posT C E.pa)) (C.take (posT C E.pa)) take_lt
    rwa [List.take_append_drop] at h
  rw [h1]
  congr 1
  cases hh : hasT C E.pa with
  | true =>
    rw [hh, if_pos rfl] at hd
    obtain ⟨hl, hk⟩ := has_at hh
    rw [if_pos rfl, List.drop_eq_getElem_cons hl, withT_cons C[posT C E.pa] E _ false true true (by rw [hk]; simp) (by rw [hk, cmpL_self]; rfl), Bool.or_true, withT_done E _ fun e he => ne_of_gt (hd e he)]
    rfl
  | false =>
    rw [hh, if_neg (by simp)] at hd
    rw [if_neg (by simp)]
    cases hB : C.drop (posT C E.pa) with
    | nil => rfl
    | cons y B =>
      rw [hB] at hd
      have hy := hd y (List.mem_cons_self ..)
      rw [withT_cons y E B false false true (by simpa using ne_of_gt hy) (decide_eq_true (by omega)), Bool.or_true, withT_done E B fun e he => ne_of_gt (hd e (List.mem_cons_of_mem _ he))]
      rfl
theorem has_at0 {C : List Ent} (hA : AscE C) (p : Tx) : 0 ≤ atT C p ↔ hasT C p = true := by
  rcases asc_at hA p with ⟨h1, h2, _⟩ | ⟨h1, h2⟩
  · exact ⟨fun _ => h1, fun _ => by omega⟩
  · rw [h1]; exact ⟨fun h => by omega, fun h => nomatch h⟩
theorem good_fits {C : List Ent} (h : fitsT C = false) : goodP C = false := by
  unfold goodP; rw [h]; rfl
theorem makeT_P (C : List Ent) (p : ByteArray) : makeT C p = makeP C p := by
  unfold makeT makeP askT
  rw [goodT_P]
  cases hg : goodP C with
  | false => simp
  | true =>
    obtain ⟨_, h2, _, _⟩ := (goodP_iff C).1 hg
    cases hp : okPath p.data.toList with
    | false => simp [hp]
    | true =>
      have ha : ([p].all fun p => okPath p.data.toList) = true := by simp [hp]
      rw [ha]
      simp only [Bool.true_eq_false, if_false, if_true, ne_eq, not_true_eq_false]
      by_cases hh : hasT C p.data.toList = true
      · rw [if_pos ((has_at0 h2 _).2 hh), if_pos hh]
      · rw [if_neg (fun k => hh ((has_at0 h2 _).1 k)), if_neg hh]
        by_cases hr : roomT C p.data.toList = 0
        · simp only [hr, not_true_eq_false, if_false]
          rw [withT_putL h2, goodT_P]
          show (if goodP (putL C (dirE p)) = false then (C, (9 : Int)) else (putL C (dirE p), 0)) = _
          cases hf : fitsT (putL C (dirE p)) with
          | false => rw [good_fits hf]; simp
          | true =>
            rw [putL_good (E := dirE p) hg (by
              show (!(true && decide (0 < ([] : List (BitVec 8)).length)) && (okPath p.data.toList && decide (([] : List (BitVec 8)).length ≤ 2048))) = true
              rw [hp]; rfl) hr (fun y hy k _ => rfl) hf]
            simp
        · rw [if_pos hr, if_pos hr]
theorem putT_P (C : List Ent) (p : ByteArray) (b : List (BitVec 8)) (v : Value) : putT C p b v = puttP C p b v := by
  unfold putT puttP askT putP
  rw [goodT_P]
  cases hg : goodP C with
  | false => simp
  | true =>
    obtain ⟨_, h2, _, _⟩ := (goodP_iff C).1 hg
    cases hp : okPath p.data.toList with
    | false => simp [hp]
    | true =>
      have ha : ([p].all fun p => okPath p.data.toList) = true := by simp [hp]
      rw [ha]
      simp only [Bool.true_eq_false, if_false, if_true, ne_eq, not_true_eq_false]
      by_cases hr : roomT C p.data.toList = 0
      · simp only [hr, not_true_eq_false, if_false]
        have hc : (0 ≤ atT C p.data.toList ∧ dirT C (atT C p.data.toList).toNat = true) ↔ (hasT C p.data.toList = true ∧ dirT C (posT C p.data.toList) = true) := by
          rcases asc_at h2 p.data.toList with ⟨h3, h4, _⟩ | ⟨h3, h4⟩
          · rw [h3, h4]; simp
          · rw [h3, h4]; simp
        by_cases hd : hasT C p.data.toList = true ∧ dirT C (posT C p.data.toList) = true
        · rw [if_pos (hc.2 hd), if_pos hd]
        · rw [if_neg (fun k => hd (hc.1 k)), if_neg hd, withT_putL h2, goodT_P]
          show (if goodP (putL C (fileE p v b)) = false then (C, (9 : Int)) else (putL C (fileE p v b), 0)) = _
          by_cases hl : 2048 < b.length
          · have : goodP (putL C (fileE p v b)) = false := by
              cases h : goodP (putL C (fileE p v b)) with
              | false => rfl
              | true =>
                have h5 := ((goodP_iff _).1 h).2.2.1 _ (putL_has C (fileE p v b))
                unfold okEnt at h5
                rw [Bool.and_eq_true, Bool.and_eq_true, decide_eq_true_eq] at h5
                have h6 : b.length ≤ 2048 := h5.2.2
                omega
            rw [if_pos this, if_pos hl]
          · rw [if_neg hl]
            cases hf : fitsT (putL C (fileE p v b)) with
            | false => rw [good_fits hf]; simp
            | true =>
              rw [putL_good (E := fileE p v b) hg (by
                show (!(false && decide (0 < b.length)) && (okPath p.data.toList && decide (b.length ≤ 2048))) = true
                rw [hp, decide_eq_true (show b.length ≤ 2048 by omega)]; rfl) hr (fun y hy k hd2 => by rw [dir_of h2 hd hy k] at hd2; cases hd2) hf]
              simp
      · rw [if_pos hr, if_pos hr]
theorem cleanT_P (C : List Ent) : cleanT C = cleanP C := by unfold cleanT cleanP; rw [goodT_P]
theorem kidsT_P (C : List Ent) (p : Tx) : kidsT C p = kidsP C p := by unfold kidsT kidsP; rw [goodT_P]
end Go.Proofs.YthpendoblgndcaaDoor
/- Contracts: a tree's entries as the document's own (the law's 'own'), the document's own Alike. Condition: at most 10^5 entries. -/
namespace Go.Proofs.YthpendoblgndcaaDoor
open Go.RowKit
theorem wp_addE1 {o : Oper} {a : Act} {K : Act → World → Prop} {Q : Exit → Act → World → Prop} (sl x : Operand)
    (ho : o.op = .call { callee := .builtin .append, args := #[sl, x], argTypes := #[44, 44] }) {w : World} {base : Nat} {v : Value} {C : List Ent} (R : OwnE w base v C) (hbase : base ≤ w.heap.size)
    (hs : a.eval sl = v) (g : Nat) (e : Ent) (hx : a.eval x = .slice (some ⟨g, 0, none⟩) 1 1) (hc : Has w g 51 (entC e)) (h1 : e.2.2.1.oneCell' = true) (hn : C.length ≤ 1000000)
    (h : ∀ v' w', OwnE w' base v' (C ++ [e]) → Below base w w' → K (a.put o.dst v') w') : o.wp Tryd.prog a w K Q := by
  obtain ⟨i0, hi, hz0, hz1, hz2⟩ := info_parts ent_info
  refine wp_append_own w sl x 44 ho base 51 i0 _ 3 48 Tryd.underlying44 hi hz0 hz1 hz2 rfl (by decide) v C.length (rowC C) hs R ⟨g, 0, none⟩ 1 1 (entC e) hx rfl ?_ ?_ (by unfold maxLen; omega) ?_ hbase
    fun v' w' ho' hg' _ => h v' w' (by unfold OwnE; rw [rowC_add, List.length_append]; exact ho') ((Below.refl base w).grown hg' hbase (fun k hk => own_base3 R k hk))
  · intro j u hj
    have e2 : (Addr.add ⟨g, 0, none⟩ j) = ⟨g, j, none⟩ := by unfold Addr.add; split <;> simp_all
    rw [e2]; exact hc.cellv hj
  · intro u hu
    simp only [entC, List.mem_cons, List.mem_nil_iff, or_false] at hu
    rcases hu with rfl | rfl | rfl
    · rfl
    · rfl
    · exact h1
  · exact Nat.le_trans (Nat.mul_le_mul (show C.length + 1 ≤ 1000001 by omega) (Nat.le_refl 48)) (by decide)
set_option maxHeartbeats 4000000 in
set_option maxRecDepth 100000 in
theorem own8_any (C : List Ent) (q : Option Addr) (c : Nat) (hm : C.length ≤ 100000) (w : World) (hs : Sees w w.heap.size q (rowC C)) (hE : Ents w C) :
    Calls Tryd.prog 26 #[.agg #[.slice q C.length c]] w fun e w' => (∃ v, e = .returned v ∧ TrV w' v C) ∧ Below w.heap.size w w' := by
  have HS := Lib.hid hs
  have HE := Lib.hid hE
  clear hs hE
  go_enter Tryd.func26, Tryd.ntmps26
  go_wp2_with fail
  have HBX0 : Hid (Has (w.alloc (.cells #[.slice q C.length c] 25)) w.heap.size 25 [.slice q C.length c]) := Lib.hid (Has.made w _ _)
  have HB00 := Lib.hid ((Below.refl w.heap.size w).alloc (Nat.le_refl _) (.cells #[.slice q C.length c] 25))
  generalize w.alloc (.cells #[.slice q C.length c] 25) = w0 at *
  have HBX : Hid (∀ w', Below w0.heap.size w0 w' → w'.cell? ⟨w.heap.size, 0, none⟩ = some (.slice q C.length c)) := Lib.hid (fun w' hb => (HBX0.out.keep hb HBX0.out.lt).cellv (i := 0) rfl)
  have HNIL := Lib.hid (OwnE.nil w0 w0.heap.size)
  clear HBX0
  go_loopw [3, 4] (fun v vi wr => ∃ i : Nat, i ≤ C.length ∧ vi = .int .i64 i ∧ OwnE wr w0.heap.size v (C.take i) ∧ Below w0.heap.size w0 wr) (fun _ vi _ => C.length - (intOf vi).toNat)
  case atStart => exact ⟨0, by omega, rfl, HNIL.out, Below.refl _ _⟩
  case round =>
    rename_i wr
    obtain ⟨i, hi, rfl, hrow, hB⟩ := hrel
    have HROW := Lib.hid hrow
    have HB := Lib.hid hB
    have cx := HBX.out wr hB
    clear hrow hB
    by_cases hlt : i < C.length
    · obtain ⟨a, rfl, ha, hc⟩ := HS.out.ent hlt
      obtain ⟨qb, cb, hv, _, _, _⟩ := HE.out C[i] (List.getElem_mem hlt)
      have kk : (i : Int) < (C.length : Int) := by omega
      have htk : C.take (i + 1) = C.take i ++ [C[i]] := by rw [List.take_add_one, List.getElem?_eq_getElem hlt]; rfl
      have HTK := Lib.hid htk
      have HLEN : Hid ((C.take i).length ≤ 1000000) := Lib.hid (by rw [List.length_take]; omega)
      obtain ⟨e, he⟩ : ∃ e, C[i] = e := ⟨_, rfl⟩
      rw [he] at hc hv HTK
      obtain ⟨x, d, bv, bb⟩ := e
      have hv' : bv = .slice qb (List.length bb) cb := hv
      subst hv'
      have h1 : (Value.slice qb bb.length cb).oneCell' = true := rfl
      have HC3 : Hid (∀ w', Below w0.heap.size w0 w' → w'.cell? (a.add (i * 3)) = some (.string x) ∧ w'.cell? ⟨(a.add (i * 3)).block, (a.add (i * 3)).off + 1, none⟩ = some (.bool d) ∧ w'.cell? ⟨(a.add (i * 3)).block, (a.add (i * 3)).off + 2, none⟩ = some (.slice qb bb.length cb)) := Lib.hid (fun w' hb => hc w' (HB00.out.trans (hb.mono HB00.out.size)))
      clear hc ha hv htk he
      go_wp2_with fail
      refine wp_region_ors (fun w' => Below w0.heap.size w0 w') [(0, true), (1, true), (2, true), (3, true), (4, true), (5, true), (6, true), (7, true), (8, true), (9, true), (10, true), (11, true), (12, true), (13, true), (14, true), (15, true), (16, true), (17, true), (18, true), (19, true), (20, false), (21, false), (22, true)] (by kernel_rfl) (by kernel_rfl) (by kernel_rfl) HB.out.drew ?_
      replace HB := Lib.hid HB.out.drew
      replace HROW := Lib.hid (World.ownsRow.drew HROW.out)
      generalize wr.drew = wd at *
      simp only [pickOrs, List.getElem?_cons_zero, List.getElem?_cons_succ]
      refine ors_pure (v := ?_) (by kernel_rfl) ?_ ?_
      rotate_left
      · intro w' hv; clear hv; go_simp; try with_reducible rfl
      try simp only [Act.put, List.setIfInBounds_toArray, List.set_cons_zero, List.set_cons_succ]
      refine ors_pure (v := ?_) (by kernel_rfl) ?_ ?_
      rotate_left
      · intro w' hv; clear hv; go_simp; try with_reducible rfl
      try simp only [Act.put, List.setIfInBounds_toArray, List.set_cons_zero, List.set_cons_succ]
      refine ors_pure (v := ?_) (by kernel_rfl) ?_ ?_
      rotate_left
      · intro w' hv; have cx := HBX.out w' hv; clear hv; go_simp; try with_reducible rfl
      try simp only [Act.put, List.setIfInBounds_toArray, List.set_cons_zero, List.set_cons_succ]
      refine ors_pure (v := ?_) (by kernel_rfl) ?_ ?_
      rotate_left
      · intro w' hv; clear hv; go_simp; try with_reducible rfl
      try simp only [Act.put, List.setIfInBounds_toArray, List.set_cons_zero, List.set_cons_succ]
      refine ors_pure (v := ?_) (by kernel_rfl) ?_ ?_
      rotate_left
      · intro w' hv; clear hv; go_simp; try with_reducible rfl
      try simp only [Act.put, List.setIfInBounds_toArray, List.set_cons_zero, List.set_cons_succ]
      refine ors_pure (v := ?_) (by kernel_rfl) ?_ ?_
      rotate_left
      · intro w' hv; clear hv; go_simp; try with_reducible rfl
      try simp only [Act.put, List.setIfInBounds_toArray, List.set_cons_zero, List.set_cons_succ]
      refine ors_pure (v := ?_) (by kernel_rfl) ?_ ?_
      rotate_left
      · intro w' hv; have c1 := (HC3.out w' hv).1; clear hv; go_simp; try with_reducible rfl
      try simp only [Act.put, List.setIfInBounds_toArray, List.set_cons_zero, List.set_cons_succ]
      refine ors_pure (v := ?_) (by kernel_rfl) ?_ ?_
      rotate_left
      · intro w' hv; clear hv; go_simp; try with_reducible rfl
      try simp only [Act.put, List.setIfInBounds_toArray, List.set_cons_zero, List.set_cons_succ]
      refine ors_pure (v := ?_) (by kernel_rfl) ?_ ?_
      rotate_left
      · intro w' hv; have cx := HBX.out w' hv; clear hv; go_simp; try with_reducible rfl
      try simp only [Act.put, List.setIfInBounds_toArray, List.set_cons_zero, List.set_cons_succ]
      refine ors_pure (v := ?_) (by kernel_rfl) ?_ ?_
      rotate_left
      · intro w' hv; clear hv; go_simp; try with_reducible rfl
      try simp only [Act.put, List.setIfInBounds_toArray, List.set_cons_zero, List.set_cons_succ]
      refine ors_pure (v := ?_) (by kernel_rfl) ?_ ?_
      rotate_left
      · intro w' hv; clear hv; go_simp; try with_reducible rfl
      try simp only [Act.put, List.setIfInBounds_toArray, List.set_cons_zero, List.set_cons_succ]
      refine ors_pure (v := ?_) (by kernel_rfl) ?_ ?_
      rotate_left
      · intro w' hv; clear hv; go_simp; try with_reducible rfl
      try simp only [Act.put, List.setIfInBounds_toArray, List.set_cons_zero, List.set_cons_succ]
      refine ors_pure (v := ?_) (by kernel_rfl) ?_ ?_
      rotate_left
      · intro w' hv; have c2 := (HC3.out w' hv).2.1; clear hv; go_simp; try with_reducible rfl
      try simp only [Act.put, List.setIfInBounds_toArray, List.set_cons_zero, List.set_cons_succ]
      refine ors_pure (v := ?_) (by kernel_rfl) ?_ ?_
      rotate_left
      · intro w' hv; clear hv; go_simp; try with_reducible rfl
      try simp only [Act.put, List.setIfInBounds_toArray, List.set_cons_zero, List.set_cons_succ]
      refine ors_pure (v := ?_) (by kernel_rfl) ?_ ?_
      rotate_left
      · intro w' hv; have cx := HBX.out w' hv; clear hv; go_simp; try with_reducible rfl
      try simp only [Act.put, List.setIfInBounds_toArray, List.set_cons_zero, List.set_cons_succ]
      refine ors_pure (v := ?_) (by kernel_rfl) ?_ ?_
      rotate_left
      · intro w' hv; clear hv; go_simp; try with_reducible rfl
      try simp only [Act.put, List.setIfInBounds_toArray, List.set_cons_zero, List.set_cons_succ]
      refine ors_pure (v := ?_) (by kernel_rfl) ?_ ?_
      rotate_left
      · intro w' hv; clear hv; go_simp; try with_reducible rfl
      try simp only [Act.put, List.setIfInBounds_toArray, List.set_cons_zero, List.set_cons_succ]
      refine ors_pure (v := ?_) (by kernel_rfl) ?_ ?_
      rotate_left
      · intro w' hv; clear hv; go_simp; try with_reducible rfl
      try simp only [Act.put, List.setIfInBounds_toArray, List.set_cons_zero, List.set_cons_succ]
      refine ors_pure (v := ?_) (by kernel_rfl) ?_ ?_
      rotate_left
      · intro w' hv; have c3 := (HC3.out w' hv).2.2; clear hv; go_simp; try with_reducible rfl
      try simp only [Act.put, List.setIfInBounds_toArray, List.set_cons_zero, List.set_cons_succ]
      refine ors_pure (v := ?_) (by kernel_rfl) ?_ ?_
      rotate_left
      · intro w' hv; clear hv; go_simp; try with_reducible rfl
      try simp only [Act.put, List.setIfInBounds_toArray, List.set_cons_zero, List.set_cons_succ]
      have HB5 : Hid (Below w0.heap.size w0 (wd.alloc (.cells #[.string x, .bool d, .slice qb bb.length cb] 51))) := Lib.hid (HB.out.alloc HB.out.size _)
      have HG5 : Hid (Has (wd.alloc (.cells #[.string x, .bool d, .slice qb bb.length cb] 51)) wd.heap.size 51 (entC (x, d, .slice qb bb.length cb, bb))) := Lib.hid (Has.made' wd 51 #[.string x, .bool d, .slice qb bb.length cb] _ rfl)
      have HR5 : Hid (OwnE (wd.alloc (.cells #[.string x, .bool d, .slice qb bb.length cb] 51)) w0.heap.size _ (C.take i)) := Lib.hid (World.ownsRow.alloc HROW.out (.cells #[.string x, .bool d, .slice qb bb.length cb] 51))
      refine ors_step (by kernel_rfl) (fun K hK => ?_)
      go_wp2_with fail
      refine ⟨HB5.out, ?_⟩
      generalize wd.alloc (.cells #[.string x, .bool d, .slice qb bb.length cb] 51) = we at *
      try simp only [Act.put, List.setIfInBounds_toArray, List.set_cons_zero, List.set_cons_succ]
      refine ors_step (by kernel_rfl) (fun K hK => ?_)
      refine wp_addE1 (.tmp 12) (.tmp 32) rfl HR5.out HB5.out.size rfl wd.heap.size (x, d, .slice qb bb.length cb, bb) rfl HG5.out h1 HLEN.out (fun v' w' ho hb => ?_)
      have HR6 : Hid (OwnE w' w0.heap.size v' (C.take (i + 1))) := Lib.hid (by rw [HTK.out]; exact ho)
      have HB6 : Hid (Below w0.heap.size w0 w') := Lib.hid (HB5.out.trans hb)
      refine hK _ _ ⟨HB6.out, ?_⟩
      clear hK ho hb HB HROW HR5 HB5 HG5
      try simp only [Act.put, List.setIfInBounds_toArray, List.set_cons_zero, List.set_cons_succ]
      refine ors_pure (v := ?_) (by kernel_rfl) ?_ ?_
      rotate_left
      · intro w' hv; clear hv; go_simp; try with_reducible rfl
      try simp only [Act.put, List.setIfInBounds_toArray, List.set_cons_zero, List.set_cons_succ]
      refine ors_nil ?_
      go_wp2_with fail
      go_roundw
      case rel => exact ⟨i + 1, by omega, by go_num, HR6.out, HB6.out⟩
      case measure => simp [intOf]; omega
    · have hil : i = C.length := by omega
      subst hil
      have k0 : ¬ (C.length : Int) < (C.length : Int) := by omega
      rw [List.take_length] at HROW
      have HT := Lib.hid (OwnE.tr HROW.out)
      clear hlt HROW
      go_wp2_with fail
      go_ret
      first | exact ⟨⟨_, rfl, HT.out⟩, HB00.out.trans (HB.out.mono HB00.out.size)⟩ | exact ⟨HT.out, HB00.out.trans (HB.out.mono HB00.out.size)⟩
noncomputable def chkAl : Array Oper := regOf Tryd.f25.body 6
set_option maxRecDepth 100000 in
theorem chkAl_ok : orgB [(0, true), (1, true), (2, true), (3, true), (4, true), (5, true), (6, true), (7, true), (8, true), (9, true), (10, true), (11, true), (12, true), (13, true), (14, true), (15, true), (16, true), (17, true), (18, true), (19, true), (20, true), (21, true), (22, true), (23, true), (24, true), (25, true), (26, true), (27, true), (28, true), (29, true), (30, true), (31, true), (32, true), (33, true), (34, true), (35, true), (36, true), (37, true), (38, true)] chkAl = true := by kernel_rfl
set_option maxHeartbeats 16000000 in
set_option maxRecDepth 100000 in
theorem ralike_any (C D : List Ent) (q p : Option Addr) (c d : Nat) (hm : C.length ≤ 100000) (w : World) (hs : Sees w w.heap.size q (rowC C)) (ht : Sees w w.heap.size p (rowC D)) (hE : Ents w C) (hF : Ents w D) :
    Calls Tryd.prog 25 #[.slice q C.length c, .slice p D.length d] w fun e w' => e = .returned (.bool (likeT C D)) ∧ Below w.heap.size w w' := by
  have HS := Lib.hid hs
  have HT := Lib.hid ht
  have HE := Lib.hid hE
  have HF := Lib.hid hF
  obtain ⟨V, hV⟩ : ∃ V, likeT C D = V := ⟨_, rfl⟩
  rw [hV]
  clear hs ht hE hF
  by_cases hl : C.length = D.length
  · have HV := Lib.hid hV
    rw [← hl]
    have HL := Lib.hid hl
    clear hV hl
    have klb : ((C.length : Int) != (C.length : Int)) = false := by simp
    go_enter Tryd.func25, Tryd.ntmps25
    go_wp2_with fail
    go_loopw [5] (fun vi wr => ∃ i : Nat, i ≤ C.length ∧ vi = .int .i64 i ∧ likeT (C.drop i) (D.drop i) = V ∧ Below w.heap.size w wr) (fun vi _ => C.length - (intOf vi).toNat)
    case atStart => exact ⟨0, by omega, rfl, HV.out, Below.refl _ _⟩
    case round =>
      obtain ⟨i, hi, rfl, hv, hB⟩ := hrel
      have HB := Lib.hid hB
      clear HV hB
      by_cases hlt : i < C.length
      · have hlt2 : i < D.length := by have := HL.out; omega
        obtain ⟨a, rfl, ha, hc⟩ := HS.out.ent hlt
        obtain ⟨a2, rfl, ha2, hc2⟩ := HT.out.ent hlt2
        obtain ⟨qb, cb, hv1, _, _, hb1⟩ := HE.out C[i] (List.getElem_mem hlt)
        obtain ⟨qb2, cb2, hv2, _, _, hb2⟩ := HF.out D[i] (List.getElem_mem hlt2)
        have kk : (i : Int) < (C.length : Int) := by omega
        rw [List.drop_eq_getElem_cons hlt, List.drop_eq_getElem_cons hlt2, likeT] at hv
        have H1 : Hid (∀ w', Below w.heap.size w w' → Sees w' w'.heap.size qb (C[i].by.map u8v)) := Lib.hid (fun w' h => (hb1.keep h).more h.size)
        have H2 : Hid (∀ w', Below w.heap.size w w' → Sees w' w'.heap.size qb2 (D[i].by.map u8v)) := Lib.hid (fun w' h => (hb2.keep h).more h.size)
        obtain ⟨e, he⟩ : ∃ e, C[i] = e := ⟨_, rfl⟩
        obtain ⟨e2, he2⟩ : ∃ e2, D[i] = e2 := ⟨_, rfl⟩
        simp only [he] at hc hv1 hv H1
        simp only [he2] at hc2 hv2 hv H2
        obtain ⟨x, dd, bv, bb⟩ := e
        obtain ⟨y, dd2, bv2, bb2⟩ := e2
        have hv1' : bv = .slice qb (List.length bb) cb := hv1
        have hv2' : bv2 = .slice qb2 (List.length bb2) cb2 := hv2
        subst hv1'
        subst hv2'
        have HC1 : Hid (∀ w', Below w.heap.size w w' → w'.cell? (a.add (i * 3)) = some (.string x) ∧ w'.cell? ⟨(a.add (i * 3)).block, (a.add (i * 3)).off + 1, none⟩ = some (.bool dd) ∧ w'.cell? ⟨(a.add (i * 3)).block, (a.add (i * 3)).off + 2, none⟩ = some (.slice qb bb.length cb)) := Lib.hid hc
        have HC2 : Hid (∀ w', Below w.heap.size w w' → w'.cell? (a2.add (i * 3)) = some (.string y) ∧ w'.cell? ⟨(a2.add (i * 3)).block, (a2.add (i * 3)).off + 1, none⟩ = some (.bool dd2) ∧ w'.cell? ⟨(a2.add (i * 3)).block, (a2.add (i * 3)).off + 2, none⟩ = some (.slice qb2 bb2.length cb2)) := Lib.hid hc2
        have hee : eqE (x, dd, Value.slice qb bb.length cb, bb) (y, dd2, Value.slice qb2 bb2.length cb2, bb2) = (x.data.toList == y.data.toList && (dd == dd2 && decide (bb = bb2))) := rfl
        rw [hee] at hv
        have HV := Lib.hid hv
        have H1' : Hid (∀ w', Below w.heap.size w w' → Sees w' w'.heap.size qb (bb.map u8v)) := H1
        have H2' : Hid (∀ w', Below w.heap.size w w' → Sees w' w'.heap.size qb2 (bb2.map u8v)) := H2
        clear hc hc2 ha ha2 he he2 hv1 hv2 hb1 hb2 hee hv H1 H2
        have hlx : x.toList = x.data.toList := Lib.toList_data x
        have hly : y.toList = y.data.toList := Lib.toList_data y
        cases hk1 : (x.data.toList == y.data.toList) with
        | false =>
          have hv : V = false := by have h := HV.out; rw [hk1] at h; exact h.symm
          subst hv
          go_wp2_with fail
          refine wp_region_orgc [(0, true), (1, true), (2, true), (3, true), (4, true), (5, true), (6, true), (7, true), (8, true), (9, true), (10, true), (11, true), (12, true), (13, true), (14, true), (15, true), (16, true), (17, true), (18, true), (19, true), (20, true), (21, true), (22, true), (23, true), (24, true), (25, true), (26, true), (27, true), (28, true), (29, true), (30, true), (31, true), (32, true), (33, true), (34, true), (35, true), (36, true), (37, true), (38, true)] _ chkAl_ok rfl (by kernel_rfl) (by kernel_rfl) ?_
          replace HB := Lib.hid HB.out.drew
          generalize wr.drew = wd at *
          simp only [pickOrs, List.getElem?_cons_zero, List.getElem?_cons_succ]
          refine org_pure (v := ?_) (by kernel_rfl) ?_ ?_
          rotate_left
          · intro w' hv; clear hv; go_simp; try with_reducible rfl
          try simp only [Act.put, List.setIfInBounds_toArray, List.set_cons_zero, List.set_cons_succ]
          refine org_pure (v := ?_) (by kernel_rfl) ?_ ?_
          rotate_left
          · intro w' hv; clear hv; go_simp; try with_reducible rfl
          try simp only [Act.put, List.setIfInBounds_toArray, List.set_cons_zero, List.set_cons_succ]
          refine org_pure (v := ?_) (by kernel_rfl) ?_ ?_
          rotate_left
          · intro w' hv; clear hv; go_simp; try with_reducible rfl
          try simp only [Act.put, List.setIfInBounds_toArray, List.set_cons_zero, List.set_cons_succ]
          refine org_pure (v := ?_) (by kernel_rfl) ?_ ?_
          rotate_left
          · intro w' hv; clear hv; go_simp; try with_reducible rfl
          try simp only [Act.put, List.setIfInBounds_toArray, List.set_cons_zero, List.set_cons_succ]
          refine org_pure (v := ?_) (by kernel_rfl) ?_ ?_
          rotate_left
          · intro w' hv; have c1 := (HC1.out w' (HB.out.trans (Below.mono hv HB.out.size))).1; clear hv; go_simp; try with_reducible rfl
          try simp only [Act.put, List.setIfInBounds_toArray, List.set_cons_zero, List.set_cons_succ]
          refine org_pure (v := ?_) (by kernel_rfl) ?_ ?_
          rotate_left
          · intro w' hv; clear hv; go_simp; try with_reducible rfl
          try simp only [Act.put, List.setIfInBounds_toArray, List.set_cons_zero, List.set_cons_succ]
          refine org_pure (v := ?_) (by kernel_rfl) ?_ ?_
          rotate_left
          · intro w' hv; clear hv; go_simp; try with_reducible rfl
          try simp only [Act.put, List.setIfInBounds_toArray, List.set_cons_zero, List.set_cons_succ]
          refine org_pure (v := ?_) (by kernel_rfl) ?_ ?_
          rotate_left
          · intro w' hv; clear hv; go_simp; try with_reducible rfl
          try simp only [Act.put, List.setIfInBounds_toArray, List.set_cons_zero, List.set_cons_succ]
          refine org_pure (v := ?_) (by kernel_rfl) ?_ ?_
          rotate_left
          · intro w' hv; clear hv; go_simp; try with_reducible rfl
          try simp only [Act.put, List.setIfInBounds_toArray, List.set_cons_zero, List.set_cons_succ]
          refine org_pure (v := ?_) (by kernel_rfl) ?_ ?_
          rotate_left
          · intro w' hv; have c2 := (HC2.out w' (HB.out.trans (Below.mono hv HB.out.size))).1; clear hv; go_simp; try with_reducible rfl
          try simp only [Act.put, List.setIfInBounds_toArray, List.set_cons_zero, List.set_cons_succ]
          refine org_pure (v := ?_) (by kernel_rfl) ?_ ?_
          rotate_left
          · intro w' hv; clear hv; go_simp; try with_reducible rfl
          try simp only [Act.put, List.setIfInBounds_toArray, List.set_cons_zero, List.set_cons_succ]
          refine org_pure (v := ?_) (by kernel_rfl) ?_ ?_
          rotate_left
          · intro w' hv; clear hv; go_simp; try with_reducible rfl
          try simp only [Act.put, List.setIfInBounds_toArray, List.set_cons_zero, List.set_cons_succ]
          refine org_skip (by kernel_rfl) ?_
          try simp only [Act.put, List.setIfInBounds_toArray, List.set_cons_zero, List.set_cons_succ]
          refine org_skip (by kernel_rfl) ?_
          try simp only [Act.put, List.setIfInBounds_toArray, List.set_cons_zero, List.set_cons_succ]
          refine org_skip (by kernel_rfl) ?_
          try simp only [Act.put, List.setIfInBounds_toArray, List.set_cons_zero, List.set_cons_succ]
          refine org_skip (by kernel_rfl) ?_
          try simp only [Act.put, List.setIfInBounds_toArray, List.set_cons_zero, List.set_cons_succ]
          refine org_skip (by kernel_rfl) ?_
          try simp only [Act.put, List.setIfInBounds_toArray, List.set_cons_zero, List.set_cons_succ]
          refine org_skip (by kernel_rfl) ?_
          try simp only [Act.put, List.setIfInBounds_toArray, List.set_cons_zero, List.set_cons_succ]
          refine org_skip (by kernel_rfl) ?_
          try simp only [Act.put, List.setIfInBounds_toArray, List.set_cons_zero, List.set_cons_succ]
          refine org_skip (by kernel_rfl) ?_
          try simp only [Act.put, List.setIfInBounds_toArray, List.set_cons_zero, List.set_cons_succ]
          refine org_skip (by kernel_rfl) ?_
          try simp only [Act.put, List.setIfInBounds_toArray, List.set_cons_zero, List.set_cons_succ]
          refine org_skip (by kernel_rfl) ?_
          try simp only [Act.put, List.setIfInBounds_toArray, List.set_cons_zero, List.set_cons_succ]
          refine org_skip (by kernel_rfl) ?_
          try simp only [Act.put, List.setIfInBounds_toArray, List.set_cons_zero, List.set_cons_succ]
          refine org_pure (v := ?_) (by kernel_rfl) ?_ ?_
          rotate_left
          · intro w' hv; clear hv; go_simp; try with_reducible rfl
          try simp only [Act.put, List.setIfInBounds_toArray, List.set_cons_zero, List.set_cons_succ]
          refine org_pure (v := ?_) (by kernel_rfl) ?_ ?_
          rotate_left
          · intro w' hv; clear hv; go_simp; try with_reducible rfl
          try simp only [Act.put, List.setIfInBounds_toArray, List.set_cons_zero, List.set_cons_succ]
          refine org_skip (by kernel_rfl) ?_
          try simp only [Act.put, List.setIfInBounds_toArray, List.set_cons_zero, List.set_cons_succ]
          refine org_skip (by kernel_rfl) ?_
          try simp only [Act.put, List.setIfInBounds_toArray, List.set_cons_zero, List.set_cons_succ]
          refine org_skip (by kernel_rfl) ?_
          try simp only [Act.put, List.setIfInBounds_toArray, List.set_cons_zero, List.set_cons_succ]
          refine org_skip (by kernel_rfl) ?_
          try simp only [Act.put, List.setIfInBounds_toArray, List.set_cons_zero, List.set_cons_succ]
          refine org_skip (by kernel_rfl) ?_
          try simp only [Act.put, List.setIfInBounds_toArray, List.set_cons_zero, List.set_cons_succ]
          refine org_skip (by kernel_rfl) ?_
          try simp only [Act.put, List.setIfInBounds_toArray, List.set_cons_zero, List.set_cons_succ]
          refine org_skip (by kernel_rfl) ?_
          try simp only [Act.put, List.setIfInBounds_toArray, List.set_cons_zero, List.set_cons_succ]
          refine org_skip (by kernel_rfl) ?_
          try simp only [Act.put, List.setIfInBounds_toArray, List.set_cons_zero, List.set_cons_succ]
          refine org_skip (by kernel_rfl) ?_
          try simp only [Act.put, List.setIfInBounds_toArray, List.set_cons_zero, List.set_cons_succ]
          refine org_skip (by kernel_rfl) ?_
          try simp only [Act.put, List.setIfInBounds_toArray, List.set_cons_zero, List.set_cons_succ]
          refine org_skip (by kernel_rfl) ?_
          try simp only [Act.put, List.setIfInBounds_toArray, List.set_cons_zero, List.set_cons_succ]
          refine org_skip (by kernel_rfl) ?_
          try simp only [Act.put, List.setIfInBounds_toArray, List.set_cons_zero, List.set_cons_succ]
          refine org_skip (by kernel_rfl) ?_
          try simp only [Act.put, List.setIfInBounds_toArray, List.set_cons_zero, List.set_cons_succ]
          refine org_pure (v := ?_) (by kernel_rfl) ?_ ?_
          rotate_left
          · intro w' hv; clear hv; go_simp; try with_reducible rfl
          try simp only [Act.put, List.setIfInBounds_toArray, List.set_cons_zero, List.set_cons_succ]
          refine org_nil ?_
          go_wp2_with fail
          go_ret
          exact ⟨rfl, HB.out⟩
        | true =>
          cases hk2 : (dd == dd2) with
          | false =>
            have hv : V = false := by have h := HV.out; rw [hk1, hk2] at h; exact h.symm
            subst hv
            go_wp2_with fail
            refine wp_region_orgc [(0, true), (1, true), (2, true), (3, true), (4, true), (5, true), (6, true), (7, true), (8, true), (9, true), (10, true), (11, true), (12, true), (13, true), (14, true), (15, true), (16, true), (17, true), (18, true), (19, true), (20, true), (21, true), (22, true), (23, true), (24, true), (25, true), (26, true), (27, true), (28, true), (29, true), (30, true), (31, true), (32, true), (33, true), (34, true), (35, true), (36, true), (37, true), (38, true)] _ chkAl_ok rfl (by kernel_rfl) (by kernel_rfl) ?_
            replace HB := Lib.hid HB.out.drew
            generalize wr.drew = wd at *
            simp only [pickOrs, List.getElem?_cons_zero, List.getElem?_cons_succ]
            refine org_pure (v := ?_) (by kernel_rfl) ?_ ?_
            rotate_left
            · intro w' hv; clear hv; go_simp; try with_reducible rfl
            try simp only [Act.put, List.setIfInBounds_toArray, List.set_cons_zero, List.set_cons_succ]
            refine org_pure (v := ?_) (by kernel_rfl) ?_ ?_
            rotate_left
            · intro w' hv; clear hv; go_simp; try with_reducible rfl
            try simp only [Act.put, List.setIfInBounds_toArray, List.set_cons_zero, List.set_cons_succ]
            refine org_pure (v := ?_) (by kernel_rfl) ?_ ?_
            rotate_left
            · intro w' hv; clear hv; go_simp; try with_reducible rfl
            try simp only [Act.put, List.setIfInBounds_toArray, List.set_cons_zero, List.set_cons_succ]
            refine org_pure (v := ?_) (by kernel_rfl) ?_ ?_
            rotate_left
            · intro w' hv; clear hv; go_simp; try with_reducible rfl
            try simp only [Act.put, List.setIfInBounds_toArray, List.set_cons_zero, List.set_cons_succ]
            refine org_pure (v := ?_) (by kernel_rfl) ?_ ?_
            rotate_left
            · intro w' hv; have c1 := (HC1.out w' (HB.out.trans (Below.mono hv HB.out.size))).1; clear hv; go_simp; try with_reducible rfl
            try simp only [Act.put, List.setIfInBounds_toArray, List.set_cons_zero, List.set_cons_succ]
            refine org_pure (v := ?_) (by kernel_rfl) ?_ ?_
            rotate_left
            · intro w' hv; clear hv; go_simp; try with_reducible rfl
            try simp only [Act.put, List.setIfInBounds_toArray, List.set_cons_zero, List.set_cons_succ]
            refine org_pure (v := ?_) (by kernel_rfl) ?_ ?_
            rotate_left
            · intro w' hv; clear hv; go_simp; try with_reducible rfl
            try simp only [Act.put, List.setIfInBounds_toArray, List.set_cons_zero, List.set_cons_succ]
            refine org_pure (v := ?_) (by kernel_rfl) ?_ ?_
            rotate_left
            · intro w' hv; clear hv; go_simp; try with_reducible rfl
            try simp only [Act.put, List.setIfInBounds_toArray, List.set_cons_zero, List.set_cons_succ]
            refine org_pure (v := ?_) (by kernel_rfl) ?_ ?_
            rotate_left
            · intro w' hv; clear hv; go_simp; try with_reducible rfl
            try simp only [Act.put, List.setIfInBounds_toArray, List.set_cons_zero, List.set_cons_succ]
            refine org_pure (v := ?_) (by kernel_rfl) ?_ ?_
            rotate_left
            · intro w' hv; have c2 := (HC2.out w' (HB.out.trans (Below.mono hv HB.out.size))).1; clear hv; go_simp; try with_reducible rfl
            try simp only [Act.put, List.setIfInBounds_toArray, List.set_cons_zero, List.set_cons_succ]
            refine org_pure (v := ?_) (by kernel_rfl) ?_ ?_
            rotate_left
            · intro w' hv; clear hv; go_simp; try with_reducible rfl
            try simp only [Act.put, List.setIfInBounds_toArray, List.set_cons_zero, List.set_cons_succ]
            refine org_pure (v := ?_) (by kernel_rfl) ?_ ?_
            rotate_left
            · intro w' hv; clear hv; go_simp; try with_reducible rfl
            try simp only [Act.put, List.setIfInBounds_toArray, List.set_cons_zero, List.set_cons_succ]
            refine org_pure (v := ?_) (by kernel_rfl) ?_ ?_
            rotate_left
            · intro w' hv; clear hv; go_simp; try with_reducible rfl
            try simp only [Act.put, List.setIfInBounds_toArray, List.set_cons_zero, List.set_cons_succ]
            refine org_pure (v := ?_) (by kernel_rfl) ?_ ?_
            rotate_left
            · intro w' hv; clear hv; go_simp; try with_reducible rfl
            try simp only [Act.put, List.setIfInBounds_toArray, List.set_cons_zero, List.set_cons_succ]
            refine org_pure (v := ?_) (by kernel_rfl) ?_ ?_
            rotate_left
            · intro w' hv; clear hv; go_simp; try with_reducible rfl
            try simp only [Act.put, List.setIfInBounds_toArray, List.set_cons_zero, List.set_cons_succ]
            refine org_pure (v := ?_) (by kernel_rfl) ?_ ?_
            rotate_left
            · intro w' hv; clear hv; go_simp; try with_reducible rfl
            try simp only [Act.put, List.setIfInBounds_toArray, List.set_cons_zero, List.set_cons_succ]
            refine org_pure (v := ?_) (by kernel_rfl) ?_ ?_
            rotate_left
            · intro w' hv; have c1 := (HC1.out w' (HB.out.trans (Below.mono hv HB.out.size))).2.1; clear hv; go_simp; try with_reducible rfl
            try simp only [Act.put, List.setIfInBounds_toArray, List.set_cons_zero, List.set_cons_succ]
            refine org_pure (v := ?_) (by kernel_rfl) ?_ ?_
            rotate_left
            · intro w' hv; clear hv; go_simp; try with_reducible rfl
            try simp only [Act.put, List.setIfInBounds_toArray, List.set_cons_zero, List.set_cons_succ]
            refine org_pure (v := ?_) (by kernel_rfl) ?_ ?_
            rotate_left
            · intro w' hv; clear hv; go_simp; try with_reducible rfl
            try simp only [Act.put, List.setIfInBounds_toArray, List.set_cons_zero, List.set_cons_succ]
            refine org_pure (v := ?_) (by kernel_rfl) ?_ ?_
            rotate_left
            · intro w' hv; clear hv; go_simp; try with_reducible rfl
            try simp only [Act.put, List.setIfInBounds_toArray, List.set_cons_zero, List.set_cons_succ]
            refine org_pure (v := ?_) (by kernel_rfl) ?_ ?_
            rotate_left
            · intro w' hv; clear hv; go_simp; try with_reducible rfl
            try simp only [Act.put, List.setIfInBounds_toArray, List.set_cons_zero, List.set_cons_succ]
            refine org_pure (v := ?_) (by kernel_rfl) ?_ ?_
            rotate_left
            · intro w' hv; have c2 := (HC2.out w' (HB.out.trans (Below.mono hv HB.out.size))).2.1; clear hv; go_simp; try with_reducible rfl
            try simp only [Act.put, List.setIfInBounds_toArray, List.set_cons_zero, List.set_cons_succ]
            refine org_pure (v := ?_) (by kernel_rfl) ?_ ?_
            rotate_left
            · intro w' hv; clear hv; go_simp; try with_reducible rfl
            try simp only [Act.put, List.setIfInBounds_toArray, List.set_cons_zero, List.set_cons_succ]
            refine org_pure (v := ?_) (by kernel_rfl) ?_ ?_
            rotate_left
            · intro w' hv; clear hv; go_simp; try with_reducible rfl
            try simp only [Act.put, List.setIfInBounds_toArray, List.set_cons_zero, List.set_cons_succ]
            refine org_pure (v := ?_) (by kernel_rfl) ?_ ?_
            rotate_left
            · intro w' hv; clear hv; go_simp; try with_reducible rfl
            try simp only [Act.put, List.setIfInBounds_toArray, List.set_cons_zero, List.set_cons_succ]
            refine org_skip (by kernel_rfl) ?_
            try simp only [Act.put, List.setIfInBounds_toArray, List.set_cons_zero, List.set_cons_succ]
            refine org_skip (by kernel_rfl) ?_
            try simp only [Act.put, List.setIfInBounds_toArray, List.set_cons_zero, List.set_cons_succ]
            refine org_skip (by kernel_rfl) ?_
            try simp only [Act.put, List.setIfInBounds_toArray, List.set_cons_zero, List.set_cons_succ]
            refine org_skip (by kernel_rfl) ?_
            try simp only [Act.put, List.setIfInBounds_toArray, List.set_cons_zero, List.set_cons_succ]
            refine org_skip (by kernel_rfl) ?_
            try simp only [Act.put, List.setIfInBounds_toArray, List.set_cons_zero, List.set_cons_succ]
            refine org_skip (by kernel_rfl) ?_
            try simp only [Act.put, List.setIfInBounds_toArray, List.set_cons_zero, List.set_cons_succ]
            refine org_skip (by kernel_rfl) ?_
            try simp only [Act.put, List.setIfInBounds_toArray, List.set_cons_zero, List.set_cons_succ]
            refine org_skip (by kernel_rfl) ?_
            try simp only [Act.put, List.setIfInBounds_toArray, List.set_cons_zero, List.set_cons_succ]
            refine org_skip (by kernel_rfl) ?_
            try simp only [Act.put, List.setIfInBounds_toArray, List.set_cons_zero, List.set_cons_succ]
            refine org_skip (by kernel_rfl) ?_
            try simp only [Act.put, List.setIfInBounds_toArray, List.set_cons_zero, List.set_cons_succ]
            refine org_skip (by kernel_rfl) ?_
            try simp only [Act.put, List.setIfInBounds_toArray, List.set_cons_zero, List.set_cons_succ]
            refine org_skip (by kernel_rfl) ?_
            try simp only [Act.put, List.setIfInBounds_toArray, List.set_cons_zero, List.set_cons_succ]
            refine org_skip (by kernel_rfl) ?_
            try simp only [Act.put, List.setIfInBounds_toArray, List.set_cons_zero, List.set_cons_succ]
            refine org_pure (v := ?_) (by kernel_rfl) ?_ ?_
            rotate_left
            · intro w' hv; clear hv; go_simp; try with_reducible rfl
            try simp only [Act.put, List.setIfInBounds_toArray, List.set_cons_zero, List.set_cons_succ]
            refine org_nil ?_
            go_wp2_with fail
            go_ret
            exact ⟨rfl, HB.out⟩
          | true =>
            have hsb := strB_beq bb bb2
            cases hk3 : decide (bb = bb2) with
            | false =>
              have hv : V = false := by have h := HV.out; rw [hk1, hk2, hk3] at h; exact h.symm
              subst hv
              rw [hk3] at hsb
              go_wp2_with fail
              refine wp_region_orgc [(0, true), (1, true), (2, true), (3, true), (4, true), (5, true), (6, true), (7, true), (8, true), (9, true), (10, true), (11, true), (12, true), (13, true), (14, true), (15, true), (16, true), (17, true), (18, true), (19, true), (20, true), (21, true), (22, true), (23, true), (24, true), (25, true), (26, true), (27, true), (28, true), (29, true), (30, true), (31, true), (32, true), (33, true), (34, true), (35, true), (36, true), (37, true), (38, true)] _ chkAl_ok rfl (by kernel_rfl) (by kernel_rfl) ?_
              replace HB := Lib.hid HB.out.drew
              generalize wr.drew = wd at *
              simp only [pickOrs, List.getElem?_cons_zero, List.getElem?_cons_succ]
              refine org_pure (v := ?_) (by kernel_rfl) ?_ ?_
              rotate_left
              · intro w' hv; clear hv; go_simp; try with_reducible rfl
              try simp only [Act.put, List.setIfInBounds_toArray, List.set_cons_zero, List.set_cons_succ]
              refine org_pure (v := ?_) (by kernel_rfl) ?_ ?_
              rotate_left
              · intro w' hv; clear hv; go_simp; try with_reducible rfl
              try simp only [Act.put, List.setIfInBounds_toArray, List.set_cons_zero, List.set_cons_succ]
              refine org_pure (v := ?_) (by kernel_rfl) ?_ ?_
              rotate_left
              · intro w' hv; clear hv; go_simp; try with_reducible rfl
              try simp only [Act.put, List.setIfInBounds_toArray, List.set_cons_zero, List.set_cons_succ]
              refine org_pure (v := ?_) (by kernel_rfl) ?_ ?_
              rotate_left
              · intro w' hv; clear hv; go_simp; try with_reducible rfl
              try simp only [Act.put, List.setIfInBounds_toArray, List.set_cons_zero, List.set_cons_succ]
              refine org_pure (v := ?_) (by kernel_rfl) ?_ ?_
              rotate_left
              · intro w' hv; have c1 := (HC1.out w' (HB.out.trans (Below.mono hv HB.out.size))).1; clear hv; go_simp; try with_reducible rfl
              try simp only [Act.put, List.setIfInBounds_toArray, List.set_cons_zero, List.set_cons_succ]
              refine org_pure (v := ?_) (by kernel_rfl) ?_ ?_
              rotate_left
              · intro w' hv; clear hv; go_simp; try with_reducible rfl
              try simp only [Act.put, List.setIfInBounds_toArray, List.set_cons_zero, List.set_cons_succ]
              refine org_pure (v := ?_) (by kernel_rfl) ?_ ?_
              rotate_left
              · intro w' hv; clear hv; go_simp; try with_reducible rfl
              try simp only [Act.put, List.setIfInBounds_toArray, List.set_cons_zero, List.set_cons_succ]
              refine org_pure (v := ?_) (by kernel_rfl) ?_ ?_
              rotate_left
              · intro w' hv; clear hv; go_simp; try with_reducible rfl
              try simp only [Act.put, List.setIfInBounds_toArray, List.set_cons_zero, List.set_cons_succ]
              refine org_pure (v := ?_) (by kernel_rfl) ?_ ?_
              rotate_left
              · intro w' hv; clear hv; go_simp; try with_reducible rfl
              try simp only [Act.put, List.setIfInBounds_toArray, List.set_cons_zero, List.set_cons_succ]
              refine org_pure (v := ?_) (by kernel_rfl) ?_ ?_
              rotate_left
              · intro w' hv; have c2 := (HC2.out w' (HB.out.trans (Below.mono hv HB.out.size))).1; clear hv; go_simp; try with_reducible rfl
              try simp only [Act.put, List.setIfInBounds_toArray, List.set_cons_zero, List.set_cons_succ]
              refine org_pure (v := ?_) (by kernel_rfl) ?_ ?_
              rotate_left
              · intro w' hv; clear hv; go_simp; try with_reducible rfl
              try simp only [Act.put, List.setIfInBounds_toArray, List.set_cons_zero, List.set_cons_succ]
              refine org_pure (v := ?_) (by kernel_rfl) ?_ ?_
              rotate_left
              · intro w' hv; clear hv; go_simp; try with_reducible rfl
              try simp only [Act.put, List.setIfInBounds_toArray, List.set_cons_zero, List.set_cons_succ]
              refine org_pure (v := ?_) (by kernel_rfl) ?_ ?_
              rotate_left
              · intro w' hv; clear hv; go_simp; try with_reducible rfl
              try simp only [Act.put, List.setIfInBounds_toArray, List.set_cons_zero, List.set_cons_succ]
              refine org_pure (v := ?_) (by kernel_rfl) ?_ ?_
              rotate_left
              · intro w' hv; clear hv; go_simp; try with_reducible rfl
              try simp only [Act.put, List.setIfInBounds_toArray, List.set_cons_zero, List.set_cons_succ]
              refine org_pure (v := ?_) (by kernel_rfl) ?_ ?_
              rotate_left
              · intro w' hv; clear hv; go_simp; try with_reducible rfl
              try simp only [Act.put, List.setIfInBounds_toArray, List.set_cons_zero, List.set_cons_succ]
              refine org_pure (v := ?_) (by kernel_rfl) ?_ ?_
              rotate_left
              · intro w' hv; clear hv; go_simp; try with_reducible rfl
              try simp only [Act.put, List.setIfInBounds_toArray, List.set_cons_zero, List.set_cons_succ]
              refine org_pure (v := ?_) (by kernel_rfl) ?_ ?_
              rotate_left
              · intro w' hv; have c1 := (HC1.out w' (HB.out.trans (Below.mono hv HB.out.size))).2.1; clear hv; go_simp; try with_reducible rfl
              try simp only [Act.put, List.setIfInBounds_toArray, List.set_cons_zero, List.set_cons_succ]
              refine org_pure (v := ?_) (by kernel_rfl) ?_ ?_
              rotate_left
              · intro w' hv; clear hv; go_simp; try with_reducible rfl
              try simp only [Act.put, List.setIfInBounds_toArray, List.set_cons_zero, List.set_cons_succ]
              refine org_pure (v := ?_) (by kernel_rfl) ?_ ?_
              rotate_left
              · intro w' hv; clear hv; go_simp; try with_reducible rfl
              try simp only [Act.put, List.setIfInBounds_toArray, List.set_cons_zero, List.set_cons_succ]
              refine org_pure (v := ?_) (by kernel_rfl) ?_ ?_
              rotate_left
              · intro w' hv; clear hv; go_simp; try with_reducible rfl
              try simp only [Act.put, List.setIfInBounds_toArray, List.set_cons_zero, List.set_cons_succ]
              refine org_pure (v := ?_) (by kernel_rfl) ?_ ?_
              rotate_left
              · intro w' hv; clear hv; go_simp; try with_reducible rfl
              try simp only [Act.put, List.setIfInBounds_toArray, List.set_cons_zero, List.set_cons_succ]
              refine org_pure (v := ?_) (by kernel_rfl) ?_ ?_
              rotate_left
              · intro w' hv; have c2 := (HC2.out w' (HB.out.trans (Below.mono hv HB.out.size))).2.1; clear hv; go_simp; try with_reducible rfl
              try simp only [Act.put, List.setIfInBounds_toArray, List.set_cons_zero, List.set_cons_succ]
              refine org_pure (v := ?_) (by kernel_rfl) ?_ ?_
              rotate_left
              · intro w' hv; clear hv; go_simp; try with_reducible rfl
              try simp only [Act.put, List.setIfInBounds_toArray, List.set_cons_zero, List.set_cons_succ]
              refine org_pure (v := ?_) (by kernel_rfl) ?_ ?_
              rotate_left
              · intro w' hv; clear hv; go_simp; try with_reducible rfl
              try simp only [Act.put, List.setIfInBounds_toArray, List.set_cons_zero, List.set_cons_succ]
              refine org_pure (v := ?_) (by kernel_rfl) ?_ ?_
              rotate_left
              · intro w' hv; clear hv; go_simp; try with_reducible rfl
              try simp only [Act.put, List.setIfInBounds_toArray, List.set_cons_zero, List.set_cons_succ]
              refine org_pure (v := ?_) (by kernel_rfl) ?_ ?_
              rotate_left
              · intro w' hv; clear hv; go_simp; try with_reducible rfl
              try simp only [Act.put, List.setIfInBounds_toArray, List.set_cons_zero, List.set_cons_succ]
              refine org_pure (v := ?_) (by kernel_rfl) ?_ ?_
              rotate_left
              · intro w' hv; clear hv; go_simp; try with_reducible rfl
              try simp only [Act.put, List.setIfInBounds_toArray, List.set_cons_zero, List.set_cons_succ]
              refine org_pure (v := ?_) (by kernel_rfl) ?_ ?_
              rotate_left
              · intro w' hv; clear hv; go_simp; try with_reducible rfl
              try simp only [Act.put, List.setIfInBounds_toArray, List.set_cons_zero, List.set_cons_succ]
              refine org_pure (v := ?_) (by kernel_rfl) ?_ ?_
              rotate_left
              · intro w' hv; clear hv; go_simp; try with_reducible rfl
              try simp only [Act.put, List.setIfInBounds_toArray, List.set_cons_zero, List.set_cons_succ]
              refine org_pure (v := ?_) (by kernel_rfl) ?_ ?_
              rotate_left
              · intro w' hv; have c1 := (HC1.out w' (HB.out.trans (Below.mono hv HB.out.size))).2.2; clear hv; go_simp; try with_reducible rfl
              try simp only [Act.put, List.setIfInBounds_toArray, List.set_cons_zero, List.set_cons_succ]
              refine org_pure (v := ?_) (by kernel_rfl) ?_ ?_
              rotate_left
              · intro w' hv; have hr := str_run bb qb cb w'.heap.size w' (H1'.out w' (HB.out.trans (Below.mono hv HB.out.size))); clear hv; go_simp; try with_reducible rfl
              try simp only [Act.put, List.setIfInBounds_toArray, List.set_cons_zero, List.set_cons_succ]
              refine org_pure (v := ?_) (by kernel_rfl) ?_ ?_
              rotate_left
              · intro w' hv; clear hv; go_simp; try with_reducible rfl
              try simp only [Act.put, List.setIfInBounds_toArray, List.set_cons_zero, List.set_cons_succ]
              refine org_pure (v := ?_) (by kernel_rfl) ?_ ?_
              rotate_left
              · intro w' hv; clear hv; go_simp; try with_reducible rfl
              try simp only [Act.put, List.setIfInBounds_toArray, List.set_cons_zero, List.set_cons_succ]
              refine org_pure (v := ?_) (by kernel_rfl) ?_ ?_
              rotate_left
              · intro w' hv; clear hv; go_simp; try with_reducible rfl
              try simp only [Act.put, List.setIfInBounds_toArray, List.set_cons_zero, List.set_cons_succ]
              refine org_pure (v := ?_) (by kernel_rfl) ?_ ?_
              rotate_left
              · intro w' hv; clear hv; go_simp; try with_reducible rfl
              try simp only [Act.put, List.setIfInBounds_toArray, List.set_cons_zero, List.set_cons_succ]
              refine org_pure (v := ?_) (by kernel_rfl) ?_ ?_
              rotate_left
              · intro w' hv; have c2 := (HC2.out w' (HB.out.trans (Below.mono hv HB.out.size))).2.2; clear hv; go_simp; try with_reducible rfl
              try simp only [Act.put, List.setIfInBounds_toArray, List.set_cons_zero, List.set_cons_succ]
              refine org_pure (v := ?_) (by kernel_rfl) ?_ ?_
              rotate_left
              · intro w' hv; have hr := str_run bb2 qb2 cb2 w'.heap.size w' (H2'.out w' (HB.out.trans (Below.mono hv HB.out.size))); clear hv; go_simp; try with_reducible rfl
              try simp only [Act.put, List.setIfInBounds_toArray, List.set_cons_zero, List.set_cons_succ]
              refine org_pure (v := ?_) (by kernel_rfl) ?_ ?_
              rotate_left
              · intro w' hv; clear hv; go_simp; try with_reducible rfl
              try simp only [Act.put, List.setIfInBounds_toArray, List.set_cons_zero, List.set_cons_succ]
              refine org_pure (v := ?_) (by kernel_rfl) ?_ ?_
              rotate_left
              · intro w' hv; clear hv; go_simp; try with_reducible rfl
              try simp only [Act.put, List.setIfInBounds_toArray, List.set_cons_zero, List.set_cons_succ]
              refine org_nil ?_
              go_wp2_with fail
              go_ret
              exact ⟨rfl, HB.out⟩
            | true =>
              have HV2 : Hid (likeT (C.drop (i + 1)) (D.drop (i + 1)) = V) := Lib.hid (by have h := HV.out; rw [hk1, hk2, hk3] at h; exact h)
              rw [hk3] at hsb
              go_wp2_with fail
              refine wp_region_orgc [(0, true), (1, true), (2, true), (3, true), (4, true), (5, true), (6, true), (7, true), (8, true), (9, true), (10, true), (11, true), (12, true), (13, true), (14, true), (15, true), (16, true), (17, true), (18, true), (19, true), (20, true), (21, true), (22, true), (23, true), (24, true), (25, true), (26, true), (27, true), (28, true), (29, true), (30, true), (31, true), (32, true), (33, true), (34, true), (35, true), (36, true), (37, true), (38, true)] _ chkAl_ok rfl (by kernel_rfl) (by kernel_rfl) ?_
              replace HB := Lib.hid HB.out.drew
              generalize wr.drew = wd at *
              simp only [pickOrs, List.getElem?_cons_zero, List.getElem?_cons_succ]
              refine org_pure (v := ?_) (by kernel_rfl) ?_ ?_
              rotate_left
              · intro w' hv; clear hv; go_simp; try with_reducible rfl
              try simp only [Act.put, List.setIfInBounds_toArray, List.set_cons_zero, List.set_cons_succ]
              refine org_pure (v := ?_) (by kernel_rfl) ?_ ?_
              rotate_left
              · intro w' hv; clear hv; go_simp; try with_reducible rfl
              try simp only [Act.put, List.setIfInBounds_toArray, List.set_cons_zero, List.set_cons_succ]
              refine org_pure (v := ?_) (by kernel_rfl) ?_ ?_
              rotate_left
              · intro w' hv; clear hv; go_simp; try with_reducible rfl
              try simp only [Act.put, List.setIfInBounds_toArray, List.set_cons_zero, List.set_cons_succ]
              refine org_pure (v := ?_) (by kernel_rfl) ?_ ?_
              rotate_left
              · intro w' hv; clear hv; go_simp; try with_reducible rfl
              try simp only [Act.put, List.setIfInBounds_toArray, List.set_cons_zero, List.set_cons_succ]
              refine org_pure (v := ?_) (by kernel_rfl) ?_ ?_
              rotate_left
              · intro w' hv; have c1 := (HC1.out w' (HB.out.trans (Below.mono hv HB.out.size))).1; clear hv; go_simp; try with_reducible rfl
              try simp only [Act.put, List.setIfInBounds_toArray, List.set_cons_zero, List.set_cons_succ]
              refine org_pure (v := ?_) (by kernel_rfl) ?_ ?_
              rotate_left
              · intro w' hv; clear hv; go_simp; try with_reducible rfl
              try simp only [Act.put, List.setIfInBounds_toArray, List.set_cons_zero, List.set_cons_succ]
              refine org_pure (v := ?_) (by kernel_rfl) ?_ ?_
              rotate_left
              · intro w' hv; clear hv; go_simp; try with_reducible rfl
              try simp only [Act.put, List.setIfInBounds_toArray, List.set_cons_zero, List.set_cons_succ]
              refine org_pure (v := ?_) (by kernel_rfl) ?_ ?_
              rotate_left
              · intro w' hv; clear hv; go_simp; try with_reducible rfl
              try simp only [Act.put, List.setIfInBounds_toArray, List.set_cons_zero, List.set_cons_succ]
              refine org_pure (v := ?_) (by kernel_rfl) ?_ ?_
              rotate_left
              · intro w' hv; clear hv; go_simp; try with_reducible rfl
              try simp only [Act.put, List.setIfInBounds_toArray, List.set_cons_zero, List.set_cons_succ]
              refine org_pure (v := ?_) (by kernel_rfl) ?_ ?_
              rotate_left
              · intro w' hv; have c2 := (HC2.out w' (HB.out.trans (Below.mono hv HB.out.size))).1; clear hv; go_simp; try with_reducible rfl
              try simp only [Act.put, List.setIfInBounds_toArray, List.set_cons_zero, List.set_cons_succ]
              refine org_pure (v := ?_) (by kernel_rfl) ?_ ?_
              rotate_left
              · intro w' hv; clear hv; go_simp; try with_reducible rfl
              try simp only [Act.put, List.setIfInBounds_toArray, List.set_cons_zero, List.set_cons_succ]
              refine org_pure (v := ?_) (by kernel_rfl) ?_ ?_
              rotate_left
              · intro w' hv; clear hv; go_simp; try with_reducible rfl
              try simp only [Act.put, List.setIfInBounds_toArray, List.set_cons_zero, List.set_cons_succ]
              refine org_pure (v := ?_) (by kernel_rfl) ?_ ?_
              rotate_left
              · intro w' hv; clear hv; go_simp; try with_reducible rfl
              try simp only [Act.put, List.setIfInBounds_toArray, List.set_cons_zero, List.set_cons_succ]
              refine org_pure (v := ?_) (by kernel_rfl) ?_ ?_
              rotate_left
              · intro w' hv; clear hv; go_simp; try with_reducible rfl
              try simp only [Act.put, List.setIfInBounds_toArray, List.set_cons_zero, List.set_cons_succ]
              refine org_pure (v := ?_) (by kernel_rfl) ?_ ?_
              rotate_left
              · intro w' hv; clear hv; go_simp; try with_reducible rfl
              try simp only [Act.put, List.setIfInBounds_toArray, List.set_cons_zero, List.set_cons_succ]
              refine org_pure (v := ?_) (by kernel_rfl) ?_ ?_
              rotate_left
              · intro w' hv; clear hv; go_simp; try with_reducible rfl
              try simp only [Act.put, List.setIfInBounds_toArray, List.set_cons_zero, List.set_cons_succ]
              refine org_pure (v := ?_) (by kernel_rfl) ?_ ?_
              rotate_left
              · intro w' hv; have c1 := (HC1.out w' (HB.out.trans (Below.mono hv HB.out.size))).2.1; clear hv; go_simp; try with_reducible rfl
              try simp only [Act.put, List.setIfInBounds_toArray, List.set_cons_zero, List.set_cons_succ]
              refine org_pure (v := ?_) (by kernel_rfl) ?_ ?_
              rotate_left
              · intro w' hv; clear hv; go_simp; try with_reducible rfl
              try simp only [Act.put, List.setIfInBounds_toArray, List.set_cons_zero, List.set_cons_succ]
              refine org_pure (v := ?_) (by kernel_rfl) ?_ ?_
              rotate_left
              · intro w' hv; clear hv; go_simp; try with_reducible rfl
              try simp only [Act.put, List.setIfInBounds_toArray, List.set_cons_zero, List.set_cons_succ]
              refine org_pure (v := ?_) (by kernel_rfl) ?_ ?_
              rotate_left
              · intro w' hv; clear hv; go_simp; try with_reducible rfl
              try simp only [Act.put, List.setIfInBounds_toArray, List.set_cons_zero, List.set_cons_succ]
              refine org_pure (v := ?_) (by kernel_rfl) ?_ ?_
              rotate_left
              · intro w' hv; clear hv; go_simp; try with_reducible rfl
              try simp only [Act.put, List.setIfInBounds_toArray, List.set_cons_zero, List.set_cons_succ]
              refine org_pure (v := ?_) (by kernel_rfl) ?_ ?_
              rotate_left
              · intro w' hv; have c2 := (HC2.out w' (HB.out.trans (Below.mono hv HB.out.size))).2.1; clear hv; go_simp; try with_reducible rfl
              try simp only [Act.put, List.setIfInBounds_toArray, List.set_cons_zero, List.set_cons_succ]
              refine org_pure (v := ?_) (by kernel_rfl) ?_ ?_
              rotate_left
              · intro w' hv; clear hv; go_simp; try with_reducible rfl
              try simp only [Act.put, List.setIfInBounds_toArray, List.set_cons_zero, List.set_cons_succ]
              refine org_pure (v := ?_) (by kernel_rfl) ?_ ?_
              rotate_left
              · intro w' hv; clear hv; go_simp; try with_reducible rfl
              try simp only [Act.put, List.setIfInBounds_toArray, List.set_cons_zero, List.set_cons_succ]
              refine org_pure (v := ?_) (by kernel_rfl) ?_ ?_
              rotate_left
              · intro w' hv; clear hv; go_simp; try with_reducible rfl
              try simp only [Act.put, List.setIfInBounds_toArray, List.set_cons_zero, List.set_cons_succ]
              refine org_pure (v := ?_) (by kernel_rfl) ?_ ?_
              rotate_left
              · intro w' hv; clear hv; go_simp; try with_reducible rfl
              try simp only [Act.put, List.setIfInBounds_toArray, List.set_cons_zero, List.set_cons_succ]
              refine org_pure (v := ?_) (by kernel_rfl) ?_ ?_
              rotate_left
              · intro w' hv; clear hv; go_simp; try with_reducible rfl
              try simp only [Act.put, List.setIfInBounds_toArray, List.set_cons_zero, List.set_cons_succ]
              refine org_pure (v := ?_) (by kernel_rfl) ?_ ?_
              rotate_left
              · intro w' hv; clear hv; go_simp; try with_reducible rfl
              try simp only [Act.put, List.setIfInBounds_toArray, List.set_cons_zero, List.set_cons_succ]
              refine org_pure (v := ?_) (by kernel_rfl) ?_ ?_
              rotate_left
              · intro w' hv; clear hv; go_simp; try with_reducible rfl
              try simp only [Act.put, List.setIfInBounds_toArray, List.set_cons_zero, List.set_cons_succ]
              refine org_pure (v := ?_) (by kernel_rfl) ?_ ?_
              rotate_left
              · intro w' hv; have c1 := (HC1.out w' (HB.out.trans (Below.mono hv HB.out.size))).2.2; clear hv; go_simp; try with_reducible rfl
              try simp only [Act.put, List.setIfInBounds_toArray, List.set_cons_zero, List.set_cons_succ]
              refine org_pure (v := ?_) (by kernel_rfl) ?_ ?_
              rotate_left
              · intro w' hv; have hr := str_run bb qb cb w'.heap.size w' (H1'.out w' (HB.out.trans (Below.mono hv HB.out.size))); clear hv; go_simp; try with_reducible rfl
              try simp only [Act.put, List.setIfInBounds_toArray, List.set_cons_zero, List.set_cons_succ]
              refine org_pure (v := ?_) (by kernel_rfl) ?_ ?_
              rotate_left
              · intro w' hv; clear hv; go_simp; try with_reducible rfl
              try simp only [Act.put, List.setIfInBounds_toArray, List.set_cons_zero, List.set_cons_succ]
              refine org_pure (v := ?_) (by kernel_rfl) ?_ ?_
              rotate_left
              · intro w' hv; clear hv; go_simp; try with_reducible rfl
              try simp only [Act.put, List.setIfInBounds_toArray, List.set_cons_zero, List.set_cons_succ]
              refine org_pure (v := ?_) (by kernel_rfl) ?_ ?_
              rotate_left
              · intro w' hv; clear hv; go_simp; try with_reducible rfl
              try simp only [Act.put, List.setIfInBounds_toArray, List.set_cons_zero, List.set_cons_succ]
              refine org_pure (v := ?_) (by kernel_rfl) ?_ ?_
              rotate_left
              · intro w' hv; clear hv; go_simp; try with_reducible rfl
              try simp only [Act.put, List.setIfInBounds_toArray, List.set_cons_zero, List.set_cons_succ]
              refine org_pure (v := ?_) (by kernel_rfl) ?_ ?_
              rotate_left
              · intro w' hv; have c2 := (HC2.out w' (HB.out.trans (Below.mono hv HB.out.size))).2.2; clear hv; go_simp; try with_reducible rfl
              try simp only [Act.put, List.setIfInBounds_toArray, List.set_cons_zero, List.set_cons_succ]
              refine org_pure (v := ?_) (by kernel_rfl) ?_ ?_
              rotate_left
              · intro w' hv; have hr := str_run bb2 qb2 cb2 w'.heap.size w' (H2'.out w' (HB.out.trans (Below.mono hv HB.out.size))); clear hv; go_simp; try with_reducible rfl
              try simp only [Act.put, List.setIfInBounds_toArray, List.set_cons_zero, List.set_cons_succ]
              refine org_pure (v := ?_) (by kernel_rfl) ?_ ?_
              rotate_left
              · intro w' hv; clear hv; go_simp; try with_reducible rfl
              try simp only [Act.put, List.setIfInBounds_toArray, List.set_cons_zero, List.set_cons_succ]
              refine org_pure (v := ?_) (by kernel_rfl) ?_ ?_
              rotate_left
              · intro w' hv; clear hv; go_simp; try with_reducible rfl
              try simp only [Act.put, List.setIfInBounds_toArray, List.set_cons_zero, List.set_cons_succ]
              refine org_nil ?_
              go_wp2_with fail
              go_roundw
              case rel => exact ⟨i + 1, by omega, by go_num, HV2.out, HB.out⟩
              case measure => simp [intOf]; omega
      · have hil : i = C.length := by omega
        subst hil
        have k0 : ¬ (C.length : Int) < (C.length : Int) := by omega
        have hv' : V = true := by rw [← hv, List.drop_length, HL.out, List.drop_length]; rfl
        subst hv'
        clear hlt hv
        go_wp2_with fail
        go_ret
        exact ⟨rfl, HB.out⟩
  · have hv : V = false := by rw [← hV, likeT_len hl]
    subst hv
    have kl : ((C.length : Int) = (D.length : Int)) = False := eq_false (by omega)
    have klb : ((C.length : Int) == (D.length : Int)) = false := by rw [beq_eq_false_iff_ne]; omega
    have klc : ((C.length : Int) != (D.length : Int)) = true := by rw [bne_iff_ne]; omega
    clear hV
    go_enter Tryd.func25, Tryd.ntmps25
    go_wp2_with fail
    go_ret
    exact ⟨rfl, Below.refl _ _⟩
end Go.Proofs.YthpendoblgndcaaDoor
