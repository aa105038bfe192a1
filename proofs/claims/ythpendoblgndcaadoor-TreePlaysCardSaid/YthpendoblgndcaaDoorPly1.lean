/- Contract: the document's own Find. Conditions: at most 50000 entries, paths of at most 2^20 bytes, all bytes together at most 2^61. -/
import Derived.Test.YthpendoblgndcaaDoorSay1
import Derived.Test.YthpendoblgndcaaDoorBase4
import Derived.Test.YthpendoblgndcaaDoorMov1
import Derived.Test.YthpendoblgndcaaDoorBase1
import Derived.Test.YthpendoblgndcaaDoorExt1
namespace Go.Proofs.YthpendoblgndcaaDoor
open Go.RowKit
def noE : Ent := (⟨#[]⟩, false, .slice none 0 0, [])
def rerrT (C : List Ent) (p : Tx) : Int := if goodT C = false then 1 else if okPath p = false then 4 else if atT C p < 0 then 5 else 0
def RFind (C : List Ent) (p : Tx) (r : Ent) : Prop := (rerrT C p = 0 ∧ ∃ h : (atT C p).toNat < C.length, r = C[(atT C p).toNat]) ∨ (rerrT C p ≠ 0 ∧ r = noE)
set_option maxHeartbeats 4000000 in
set_option maxRecDepth 100000 in
theorem rfind_any (C : List Ent) (q : Option Addr) (c : Nat) (p : ByteArray) (hm : C.length ≤ 50000) (hp : p.size ≤ 1048576) (hb : bytesT C ≤ 2305843009213693952) (hn : ∀ e ∈ C, e.1.size ≤ 1048576) (w : World) (hs : Sees w w.heap.size q (rowC C)) (hE : Ents w C) :
    Calls Tryd.prog 24 #[.slice q C.length c, .string p] w fun e w' => (∃ r : Ent, e = .returned (.tuple #[entV r, .int .i64 (rerrT C p.data.toList)]) ∧ Bs w' r.val r.by ∧ RFind C p.data.toList r) ∧ Below w.heap.size w w' := by
  have HS := Lib.hid hs
  have HE := Lib.hid hE
  have HGT := Lib.hid (fun w1 h1 h2 => rgt_any C q c (by omega) (by omega) hn w1 h1 h2)
  have HG := Lib.hid (fun w1 => rgood_any p hp w1)
  have HAT := Lib.hid (fun w1 h => rat_any C q c p (by omega) w1 h)
  have hge := atT_ge C p.data.toList
  have hltt := atT_lt C p.data.toList
  have HV : Hid (rerrT C p.data.toList = if goodT C = false then 1 else if okPath p.data.toList = false then 4 else if atT C p.data.toList < 0 then 5 else 0) := Lib.hid rfl
  have HR : Hid (∀ r, ((rerrT C p.data.toList = 0 ∧ ∃ h : (atT C p.data.toList).toNat < C.length, r = C[(atT C p.data.toList).toNat]) ∨ (rerrT C p.data.toList ≠ 0 ∧ r = noE)) → RFind C p.data.toList r) := Lib.hid (fun _ h => h)
  generalize RFind C p.data.toList = RF at *
  generalize rerrT C p.data.toList = V at *
  generalize goodT C = G1 at *
  generalize okPath p.data.toList = G at *
  generalize atT C p.data.toList = K0 at *
  clear hs hE hn
  go_enter Tryd.func24, Tryd.ntmps24
  have HY : Hid (Has (w.alloc (.cells #[.string ⟨#[]⟩, .bool false, .slice none 0 0] 51)) w.heap.size 51 [.string ⟨#[]⟩, .bool false, .slice none 0 0]) := Lib.hid (Has.made w _ _)
  have HB : Hid (Below w.heap.size w (w.alloc (.cells #[.string ⟨#[]⟩, .bool false, .slice none 0 0] 51))) := Lib.hid ((Below.refl _ _).alloc (Nat.le_refl _) _)
  go_wp2_with fail
  refine (HGT.out _ ((HS.out.keep HB.out).more HB.out.size) (HE.out.keep HB.out)).mono ?_
  rintro e w1 ⟨rfl, hb1⟩
  replace HB := Lib.hid (HB.out.trans (hb1.mono HB.out.size))
  replace HY := Lib.hid (HY.out.keep hb1 HY.out.lt)
  clear hb1
  cases G1 with
  | false =>
    have cy0 := HY.out.cellv (i := 0) (v := .string ⟨#[]⟩) rfl
    have cy1 := HY.out.cellv (i := 1) (v := .bool false) rfl
    have cy2 := HY.out.cellv (i := 2) (v := .slice none 0 0) rfl
    have fy0 := HY.out.free 0
    have fy1 := HY.out.free 1
    have fy2 := HY.out.free 2
    have hv : V = 1 := by rw [HV.out]; simp
    subst hv
    go_wp2_with fail
    have hyf := ((HY.out.put 0 (.string ⟨#[]⟩)).put 1 (.bool false)).put 2 (.slice none 0 0)
    have cz0 := hyf.cellv (i := 0) (v := .string ⟨#[]⟩) rfl
    have cz1 := hyf.cellv (i := 1) (v := .bool false) rfl
    have cz2 := hyf.cellv (i := 2) (v := .slice none 0 0) rfl
    refine bodyPost_ret (by simp [results, Tryd.results24, go_sem, cz0, cz1, cz2]; try rfl) rfl ?_
    have hbz := ((HB.out.setCell (p := ⟨w.heap.size, 0, none⟩) (Nat.le_refl _) (.string ⟨#[]⟩)).setCell (p := ⟨w.heap.size, 1, none⟩) (Nat.le_refl _) (.bool false)).setCell (p := ⟨w.heap.size, 2, none⟩) (Nat.le_refl _) (.slice none 0 0)
    exact ⟨⟨noE, rfl, Bs.nil _, HR.out _ (.inr ⟨by decide, rfl⟩)⟩, hbz⟩
  | true =>
    go_wp2_with fail
    refine (HG.out _).mono ?_
    rintro e w2 ⟨rfl, hb1⟩
    replace HB := Lib.hid (HB.out.trans (hb1.mono HB.out.size))
    replace HY := Lib.hid (HY.out.keep hb1 HY.out.lt)
    clear hb1
    cases G with
    | false =>
      have cy0 := HY.out.cellv (i := 0) (v := .string ⟨#[]⟩) rfl
      have cy1 := HY.out.cellv (i := 1) (v := .bool false) rfl
      have cy2 := HY.out.cellv (i := 2) (v := .slice none 0 0) rfl
      have fy0 := HY.out.free 0
      have fy1 := HY.out.free 1
      have fy2 := HY.out.free 2
      have hv : V = 4 := by rw [HV.out]; simp
      subst hv
      go_wp2_with fail
      have hyf := ((HY.out.put 0 (.string ⟨#[]⟩)).put 1 (.bool false)).put 2 (.slice none 0 0)
      have cz0 := hyf.cellv (i := 0) (v := .string ⟨#[]⟩) rfl
      have cz1 := hyf.cellv (i := 1) (v := .bool false) rfl
      have cz2 := hyf.cellv (i := 2) (v := .slice none 0 0) rfl
      refine bodyPost_ret (by simp [results, Tryd.results24, go_sem, cz0, cz1, cz2]; try rfl) rfl ?_
      have hbz := ((HB.out.setCell (p := ⟨w.heap.size, 0, none⟩) (Nat.le_refl _) (.string ⟨#[]⟩)).setCell (p := ⟨w.heap.size, 1, none⟩) (Nat.le_refl _) (.bool false)).setCell (p := ⟨w.heap.size, 2, none⟩) (Nat.le_refl _) (.slice none 0 0)
      exact ⟨⟨noE, rfl, Bs.nil _, HR.out _ (.inr ⟨by decide, rfl⟩)⟩, hbz⟩
    | true =>
      go_wp2_with fail
      refine (HAT.out _ ((HS.out.keep HB.out).more HB.out.size)).mono ?_
      rintro e w3 ⟨rfl, rfl⟩
      by_cases hk : K0 < 0
      · have kk : (K0 < 0) = True := eq_true hk
        have cy0 := HY.out.cellv (i := 0) (v := .string ⟨#[]⟩) rfl
        have cy1 := HY.out.cellv (i := 1) (v := .bool false) rfl
        have cy2 := HY.out.cellv (i := 2) (v := .slice none 0 0) rfl
        have fy0 := HY.out.free 0
        have fy1 := HY.out.free 1
        have fy2 := HY.out.free 2
        have hv : V = 5 := by rw [HV.out]; simp [hk]
        subst hv
        go_wp2_with fail
        have hyf := ((HY.out.put 0 (.string ⟨#[]⟩)).put 1 (.bool false)).put 2 (.slice none 0 0)
        have cz0 := hyf.cellv (i := 0) (v := .string ⟨#[]⟩) rfl
        have cz1 := hyf.cellv (i := 1) (v := .bool false) rfl
        have cz2 := hyf.cellv (i := 2) (v := .slice none 0 0) rfl
        refine bodyPost_ret (by simp [results, Tryd.results24, go_sem, cz0, cz1, cz2]; try rfl) rfl ?_
        have hbz := ((HB.out.setCell (p := ⟨w.heap.size, 0, none⟩) (Nat.le_refl _) (.string ⟨#[]⟩)).setCell (p := ⟨w.heap.size, 1, none⟩) (Nat.le_refl _) (.bool false)).setCell (p := ⟨w.heap.size, 2, none⟩) (Nat.le_refl _) (.slice none 0 0)
        exact ⟨⟨noE, rfl, Bs.nil _, HR.out _ (.inr ⟨by decide, rfl⟩)⟩, hbz⟩
      · have kk : (K0 < 0) = False := eq_false hk
        obtain ⟨n, rfl⟩ := Int.eq_ofNat_of_zero_le (show 0 ≤ K0 by omega)
        have hlt : n < C.length := by omega
        obtain ⟨a, rfl, ha, hc⟩ := HS.out.ent hlt
        obtain ⟨c1, c2, c3⟩ := hc w2 HB.out
        have kk2 : (n : Int) < (C.length : Int) := by omega
        have HBSE := Lib.hid (HE.out C[n] (List.getElem_mem hlt))
        obtain ⟨qb, cb, hv, _, _, _⟩ := HE.out C[n] (List.getElem_mem hlt)
        have HRR : Hid (∀ r, r = C[n] → RF r) := Lib.hid (fun r h => HR.out r (.inl ⟨by rw [HV.out]; simp, by simpa using hlt, by simpa using h⟩))
        obtain ⟨e, he⟩ : ∃ e, C[n] = e := ⟨_, rfl⟩
        rw [he] at c1 c2 c3 hv HBSE HRR
        obtain ⟨x, d, bv, bb⟩ := e
        have hv' : bv = .slice qb (List.length bb) cb := hv
        subst hv'
        simp only [] at c1 c2 c3
        clear hc ha hv he
        go_wp2_with fail
        refine (HAT.out _ ((HS.out.keep HB.out).more HB.out.size)).mono ?_
        rintro e w3 ⟨rfl, rfl⟩
        have cy0 := HY.out.cellv (i := 0) (v := .string ⟨#[]⟩) rfl
        have cy1 := HY.out.cellv (i := 1) (v := .bool false) rfl
        have cy2 := HY.out.cellv (i := 2) (v := .slice none 0 0) rfl
        have fy0 := HY.out.free 0
        have fy1 := HY.out.free 1
        have fy2 := HY.out.free 2
        have hv : V = 0 := by rw [HV.out]; simp
        subst hv
        go_wp2_with fail
        have hyf := ((HY.out.put 0 (.string x)).put 1 (.bool d)).put 2 (.slice qb bb.length cb)
        have cz0 := hyf.cellv (i := 0) (v := .string x) rfl
        have cz1 := hyf.cellv (i := 1) (v := .bool d) rfl
        have cz2 := hyf.cellv (i := 2) (v := .slice qb bb.length cb) rfl
        refine bodyPost_ret (by simp [results, Tryd.results24, go_sem, cz0, cz1, cz2]; try rfl) rfl ?_
        have hbz := ((HB.out.setCell (p := ⟨w.heap.size, 0, none⟩) (Nat.le_refl _) (.string x)).setCell (p := ⟨w.heap.size, 1, none⟩) (Nat.le_refl _) (.bool d)).setCell (p := ⟨w.heap.size, 2, none⟩) (Nat.le_refl _) (.slice qb bb.length cb)
        exact ⟨⟨(x, d, .slice qb bb.length cb, bb), rfl, HBSE.out.keep hbz, HRR.out _ rfl⟩, hbz⟩
end Go.Proofs.YthpendoblgndcaaDoor
/- Contracts: the document's own Remove, Move. Conditions: at most 50000 entries, paths of at most 2^20 bytes, all bytes together at most 2^61. -/
namespace Go.Proofs.YthpendoblgndcaaDoor
open Go.RowKit
def underAny (C : List Ent) (p : Tx) : Bool := C.any fun e => underL e.pa p
def removeT (C : List Ent) (p : Tx) : List Ent × Int :=
  if rerrT C p ≠ 0 then (C, rerrT C p) else if underAny C p = true then (C, 8) else (withoutT C p, 0)
theorem withoutT_mem {C : List Ent} {p : Tx} {e : Ent} (h : e ∈ withoutT C p) : e ∈ C := (List.mem_filter.1 h).1
set_option maxHeartbeats 4000000 in
set_option maxRecDepth 100000 in
theorem rremove_any (C : List Ent) (q : Option Addr) (c : Nat) (p : ByteArray) (hm : C.length ≤ 50000) (hcap : C.length ≤ c) (hq : q = none → c = 0) (hp : p.size ≤ 1048576) (hb : bytesT C ≤ 2305843009213693952) (hn : ∀ e ∈ C, e.1.size ≤ 1048576) (w : World) (hs : Sees w w.heap.size q (rowC C)) (hE : Ents w C) :
    Calls Tryd.prog 22 #[.slice q C.length c, .string p] w fun e w' => (∃ v, e = .returned (.tuple #[v, .int .i64 (removeT C p.data.toList).2]) ∧ TrV w' v (removeT C p.data.toList).1 ∧ Ents w' (removeT C p.data.toList).1) ∧ Below w.heap.size w w' := by
  have HT : Hid (∀ w', Below w.heap.size w w' → TrV w' (.slice q C.length c) C ∧ Ents w' C) := Lib.hid (fun w' h => ⟨⟨q, c, rfl, hcap, hq, (hs.keep h).more h.size⟩, hE.keep h⟩)
  have HS := Lib.hid hs
  have HE := Lib.hid hE
  have HN := Lib.hid hn
  have HFI := Lib.hid (rfind_any C q c p hm hp hb hn w hs hE)
  have HU := Lib.hid (fun x (h : x.size ≤ 1048576) w1 => runder_any x p h hp w1)
  have HWO := Lib.hid (fun w1 h1 h2 => rwithout_any C q c p (by omega) w1 h1 h2)
  have HWE : Hid (∀ w1, Ents w1 C → Ents w1 (withoutT C p.data.toList)) := Lib.hid (fun w1 h e he => h e (withoutT_mem he))
  have HV : Hid (removeT C p.data.toList = if rerrT C p.data.toList ≠ 0 then (C, rerrT C p.data.toList) else if underAny C p.data.toList = true then (C, 8) else (withoutT C p.data.toList, 0)) := Lib.hid rfl
  generalize removeT C p.data.toList = V at *
  generalize rerrT C p.data.toList = RE at *
  generalize withoutT C p.data.toList = WT at *
  clear hs hE hn hcap hq
  go_enter Tryd.func22, Tryd.ntmps22
  go_wp2_with fail
  refine HFI.out.mono ?_
  rintro e w1 ⟨⟨⟨x, d, bv, bb⟩, rfl, hbs, _⟩, hb1⟩
  obtain ⟨qb, cb, hv, _, _, _⟩ := hbs
  have hv' : bv = .slice qb (List.length bb) cb := hv
  subst hv'
  have HB : Hid (Below w.heap.size w (w1.alloc (.cells #[.string x, .bool d, .slice qb bb.length cb] 51))) := Lib.hid (hb1.alloc hb1.size _)
  clear hb1 hv HFI
  simp only [entV]
  by_cases hr : RE = 0
  · subst hr
    go_wp2_with fail
    generalize w1.alloc (.cells #[.string x, .bool d, .slice qb bb.length cb] 51) = W1 at *
    have HBW := HB
    clear HB
    go_loopw [8] (fun vi wr => ∃ i : Nat, i ≤ C.length ∧ vi = .int .i64 i ∧ underAny (C.take i) p.data.toList = false ∧ Below w.heap.size w wr) (fun vi _ => C.length - (intOf vi).toNat)
    case atStart => exact ⟨0, by omega, rfl, rfl, HBW.out⟩
    case round =>
      obtain ⟨i, hi, rfl, hu, hB⟩ := hrel
      have HB := Lib.hid hB
      have HUN := Lib.hid hu
      clear hB hu HBW
      by_cases hlt : i < C.length
      · obtain ⟨a, rfl, ha, hc⟩ := HS.out.ent hlt
        obtain ⟨c1, c2, c3⟩ := hc wr HB.out
        have hsz := HN.out C[i] (List.getElem_mem hlt)
        have kk : (i : Int) < (C.length : Int) := by omega
        have hnx : underAny (C.take (i + 1)) p.data.toList = (underAny (C.take i) p.data.toList || underL C[i].pa p.data.toList) := by
          unfold underAny
          rw [List.take_add_one, List.getElem?_eq_getElem hlt, List.any_append]
          simp
        have hin : underL C[i].pa p.data.toList = true → underAny C p.data.toList = true := fun h => List.any_eq_true.2 ⟨C[i], List.getElem_mem hlt, h⟩
        have HNX := Lib.hid hnx
        have HIN := Lib.hid hin
        obtain ⟨e, he⟩ : ∃ e, C[i] = e := ⟨_, rfl⟩
        rw [he] at c1 c2 c3 hsz HNX HIN
        obtain ⟨y, dy, vy, yb⟩ := e
        have HUU := Lib.hid (HU.out y hsz)
        simp only [] at c1 c2 c3
        clear hc ha he hnx hin hsz c2 c3
        have hey : Ent.pa (y, dy, vy, yb) = y.data.toList := rfl
        rw [hey] at HNX HIN
        clear hey
        generalize hU : underL y.data.toList p.data.toList = U at *
        clear hU
        go_wp2_with fail
        refine (HUU.out _).mono ?_
        rintro e w2 ⟨rfl, hb1⟩
        replace HB := Lib.hid (HB.out.trans (hb1.mono HB.out.size))
        clear hb1 c1
        cases U with
        | true =>
          obtain rfl : V = (C, 8) := by rw [HV.out]; simp [HIN.out rfl]
          go_wp2_with fail
          go_ret2
          exact ⟨⟨.slice (some a) C.length c, rfl, HT.out _ HB.out⟩, HB.out⟩
        | false =>
          have HUN2 : Hid (underAny (C.take (i + 1)) p.data.toList = false) := Lib.hid (by rw [HNX.out, HUN.out]; rfl)
          go_wp2_with fail
          go_roundw
          case rel => exact ⟨i + 1, by omega, by go_num, HUN2.out, HB.out⟩
          case measure => simp [intOf]; omega
      · have hil : i = C.length := by omega
        subst hil
        have k0 : ¬ (C.length : Int) < (C.length : Int) := by omega
        rw [List.take_length] at HUN
        obtain rfl : V = (WT, 0) := by rw [HV.out]; simp [HUN.out]
        clear hlt
        go_wp2_with fail
        refine (HWO.out _ ((HS.out.keep HB.out).more HB.out.size) (HE.out.keep HB.out)).mono ?_
        rintro e w2 ⟨⟨v, rfl, hTW⟩, hb1⟩
        replace HB := Lib.hid (HB.out.trans (hb1.mono HB.out.size))
        have HTW := Lib.hid hTW
        clear hb1 hTW
        go_wp2_with fail
        go_ret2
        exact ⟨⟨v, rfl, HTW.out, HWE.out _ (HE.out.keep HB.out)⟩, HB.out⟩
  · have kA : (RE = 0) = False := eq_false hr
    have kAb : (RE == 0) = false := by simpa using hr
    have kAn : (RE != 0) = true := by simpa using hr
    obtain rfl : V = (C, RE) := by rw [HV.out, if_pos hr]
    go_wp2_with fail
    go_ret2
    exact ⟨⟨.slice q C.length c, rfl, HT.out _ HB.out⟩, HB.out⟩
def rmoveT (C : List Ent) (f t : ByteArray) (v : Value) : List Ent × Int :=
  if goodT C = false then (C, 1) else if okPath f.data.toList = false then (C, 4) else if okPath t.data.toList = false then (C, 4) else
  if rerrT C f.data.toList ≠ 0 then (C, rerrT C f.data.toList) else if dirT C (atT C f.data.toList).toNat = true then (C, 7) else if f.data.toList = t.data.toList then (C, 0) else
  if (putT (withoutT C f.data.toList) t (byT C (atT C f.data.toList).toNat) v).2 ≠ 0 then (C, (putT (withoutT C f.data.toList) t (byT C (atT C f.data.toList).toNat) v).2)
  else ((putT (withoutT C f.data.toList) t (byT C (atT C f.data.toList).toNat) v).1, 0)
theorem good_by {C : List Ent} (hg : goodP C = true) : ∀ e ∈ C, e.by.length ≤ 2048 := fun e he => by
  obtain ⟨_, _, h3, _⟩ := (goodP_iff C).1 hg
  have := h3 e he
  unfold okEnt at this
  rw [Bool.and_eq_true, Bool.and_eq_true, decide_eq_true_eq] at this
  exact this.2.2
set_option maxHeartbeats 16000000 in
set_option maxRecDepth 100000 in
theorem rmove_any (C : List Ent) (q : Option Addr) (c : Nat) (f t : ByteArray) (hm : C.length ≤ 50000) (hcap : C.length ≤ c) (hq : q = none → c = 0) (hf : f.size ≤ 1048576) (ht : t.size ≤ 1048576) (hb : bytesT C ≤ 2305843009213693952) (hn : ∀ e ∈ C, e.1.size ≤ 1048576) (w : World) (hs : Sees w w.heap.size q (rowC C)) (hE : Ents w C) :
    Calls Tryd.prog 23 #[.slice q C.length c, .string f, .string t] w fun e w' => (∃ v v5, e = .returned (.tuple #[v, .int .i64 (rmoveT C f t v5).2]) ∧ TrV w' v (rmoveT C f t v5).1 ∧ Ents w' (rmoveT C f t v5).1) ∧ Below w.heap.size w w' := by
  have HT : Hid (∀ w', Below w.heap.size w w' → TrV w' (.slice q C.length c) C ∧ Ents w' C) := Lib.hid (fun w' h => ⟨⟨q, c, rfl, hcap, hq, (hs.keep h).more h.size⟩, hE.keep h⟩)
  have HSE : Hid (∀ w', Below w.heap.size w w' → Sees w' w'.heap.size q (rowC C) ∧ Ents w' C) := Lib.hid (fun w' h => ⟨(hs.keep h).more h.size, hE.keep h⟩)
  have HGT := Lib.hid (rgt_any C q c (by omega) (by omega) hn w hs hE)
  have HGF := Lib.hid (fun w1 => rgood_any f hf w1)
  have HGO := Lib.hid (fun w1 => rgood_any t ht w1)
  have HFI := Lib.hid (fun w1 h1 h2 => rfind_any C q c f hm hf hb hn w1 h1 h2)
  have HWO := Lib.hid (fun w1 h1 h2 => rwithout_any C q c f (by omega) w1 h1 h2)
  have HWE : Hid (∀ w1, Ents w1 C → Ents w1 (withoutT C f.data.toList)) := Lib.hid (fun w1 h e he => h e (withoutT_mem he))
  have HAT : Hid (rerrT C f.data.toList = 0 → ∀ h : (atT C f.data.toList).toNat < C.length, dirT C (atT C f.data.toList).toNat = C[(atT C f.data.toList).toNat].2.1 ∧ byT C (atT C f.data.toList).toNat = C[(atT C f.data.toList).toNat].by ∧ C[(atT C f.data.toList).toNat].by.length ≤ 2048) := Lib.hid (fun h0 h => ⟨dirT_at h, byT_at h, by
    have hg : goodP C = true := by
      rw [← goodT_P]
      unfold rerrT at h0
      cases hg : goodT C with
      | true => rfl
      | false => rw [hg] at h0; simp at h0
    exact good_by hg _ (List.getElem_mem h)⟩)
  have HPU : Hid (∀ (bb : List (BitVec 8)) qb cb qd cd w1, bb.length ≤ 2048 → (qb = none → cb = 0) → (withoutT C f.data.toList).length ≤ cd → (qd = none → cd = 0) → Sees w1 w1.heap.size qd (rowC (withoutT C f.data.toList)) → Ents w1 C → Sees w1 w1.heap.size qb (bb.map u8v) →
      Calls Tryd.prog 20 #[.slice qd (withoutT C f.data.toList).length cd, .string t, .slice qb bb.length cb] w1 fun e w' => (∃ v v5, e = .returned (.tuple #[v, .int .i64 (putT (withoutT C f.data.toList) t bb v5).2]) ∧ TrV w' v (putT (withoutT C f.data.toList) t bb v5).1 ∧ Ents w' (putT (withoutT C f.data.toList) t bb v5).1) ∧ Below w1.heap.size w1 w') :=
    Lib.hid (fun bb qb cb qd cd w1 h1 h2 h3 h4 h5 h6 h7 => by
      have hl : (withoutT C f.data.toList).length ≤ C.length := List.length_filter_le _ _
      have hbb : bytesT (withoutT C f.data.toList) ≤ bytesT C := bytesT_filter C _
      exact rput_any (withoutT C f.data.toList) qd cd t bb qb cb (by omega) h3 h4 ht (by omega) (fun e he => hn e (withoutT_mem he)) (by omega) h2 w1 h5 (fun e he => h6 e (withoutT_mem he)) h7)
  have HV : Hid (∀ v, rmoveT C f t v = if goodT C = false then (C, 1) else if okPath f.data.toList = false then (C, 4) else if okPath t.data.toList = false then (C, 4) else
    if rerrT C f.data.toList ≠ 0 then (C, rerrT C f.data.toList) else if dirT C (atT C f.data.toList).toNat = true then (C, 7) else if f.data.toList = t.data.toList then (C, 0) else
    if (putT (withoutT C f.data.toList) t (byT C (atT C f.data.toList).toNat) v).2 ≠ 0 then (C, (putT (withoutT C f.data.toList) t (byT C (atT C f.data.toList).toNat) v).2)
    else ((putT (withoutT C f.data.toList) t (byT C (atT C f.data.toList).toNat) v).1, 0)) := Lib.hid (fun _ => rfl)
  have HRF : Hid (∀ r, RFind C f.data.toList r → rerrT C f.data.toList = 0 → ∃ h : (atT C f.data.toList).toNat < C.length, r = C[(atT C f.data.toList).toNat]) := Lib.hid (fun r h h0 => by
    rcases h with ⟨_, h⟩ | ⟨h, _⟩
    · exact h
    · exact absurd h0 h)
  generalize rmoveT C f t = MV at *
  generalize rerrT C f.data.toList = RE at *
  generalize RFind C f.data.toList = RF at *
  generalize goodT C = G0 at *
  generalize okPath f.data.toList = GF at *
  generalize okPath t.data.toList = GO at *
  generalize withoutT C f.data.toList = D at *
  clear hs hE hn hcap hq
  go_enter Tryd.func23, Tryd.ntmps23
  go_wp2_with fail
  refine HGT.out.mono ?_
  rintro e w1 ⟨rfl, hb1⟩
  have HB := Lib.hid hb1
  clear hb1
  cases G0 with
  | false =>
    have hv : MV undef = (C, 1) := by rw [HV.out]; simp
    have hvv := HT.out _ HB.out
    go_wp2_with fail
    go_ret2
    exact ⟨⟨.slice q C.length c, undef, by rw [hv]; rfl, by rw [hv]; exact hvv⟩, HB.out⟩
  | true =>
  go_wp2_with fail
  refine (HGF.out _).mono ?_
  rintro e w2 ⟨rfl, hb1⟩
  replace HB := Lib.hid (HB.out.trans (hb1.mono HB.out.size))
  clear hb1
  cases GF with
  | false =>
    have hv : MV undef = (C, 4) := by rw [HV.out]; simp
    have hvv := HT.out _ HB.out
    go_wp2_with fail
    go_ret2
    exact ⟨⟨.slice q C.length c, undef, by rw [hv]; rfl, by rw [hv]; exact hvv⟩, HB.out⟩
  | true =>
  go_wp2_with fail
  refine (HGO.out _).mono ?_
  rintro e w3 ⟨rfl, hb1⟩
  replace HB := Lib.hid (HB.out.trans (hb1.mono HB.out.size))
  clear hb1
  cases GO with
  | false =>
    have hv : MV undef = (C, 4) := by rw [HV.out]; simp
    have hvv := HT.out _ HB.out
    go_wp2_with fail
    go_ret2
    exact ⟨⟨.slice q C.length c, undef, by rw [hv]; rfl, by rw [hv]; exact hvv⟩, HB.out⟩
  | true =>
  go_wp2_with fail
  obtain ⟨hs3, hE3⟩ := HSE.out _ HB.out
  refine (HFI.out _ hs3 hE3).mono ?_
  clear hs3 hE3
  rintro e w4 ⟨⟨⟨x, d, bv, bb⟩, rfl, hbs, hrf⟩, hb1⟩
  obtain ⟨qb, cb, hv, hcb, hqb, hsb⟩ := hbs
  have hv' : bv = .slice qb (List.length bb) cb := hv
  subst hv'
  replace HB := Lib.hid (HB.out.trans (hb1.mono HB.out.size))
  have HSB : Hid (Sees (w4.alloc (.cells #[.string x, .bool d, .slice qb bb.length cb] 51)) (w4.alloc (.cells #[.string x, .bool d, .slice qb bb.length cb] 51)).heap.size qb (bb.map u8v)) := Lib.hid ((hsb.keep ((Below.refl _ w4).alloc (Nat.le_refl _) _)).more (by simp))
  have HQB := Lib.hid hqb
  have HRR := Lib.hid (HRF.out _ hrf)
  replace HB : Hid (Below w.heap.size w (w4.alloc (.cells #[.string x, .bool d, .slice qb bb.length cb] 51))) := Lib.hid (HB.out.alloc HB.out.size _)
  have HY : Hid (Has (w4.alloc (.cells #[.string x, .bool d, .slice qb bb.length cb] 51)) w4.heap.size 51 [.string x, .bool d, .slice qb bb.length cb]) := Lib.hid (Has.made w4 _ _)
  clear hb1 hv hrf hcb hqb hsb
  simp only [entV]
  by_cases hr : RE = 0
  · subst hr
    obtain ⟨hlt, hre⟩ := HRR.out rfl
    obtain ⟨hdi, hby, hbl⟩ := HAT.out rfl hlt
    rw [← hre] at hdi hby hbl
    have hdi' : dirT C (atT C f.data.toList).toNat = d := hdi
    have hby' : byT C (atT C f.data.toList).toNat = bb := hby
    have hbl' : bb.length ≤ 2048 := hbl
    rw [hdi', hby'] at HV
    clear hre hdi hby hbl hdi' hby' HRR HAT
    cases d with
    | true =>
      have hv : MV undef = (C, 7) := by rw [HV.out]; simp
      have hvv := HT.out _ HB.out
      go_wp2_with fail
      go_ret2
      exact ⟨⟨.slice q C.length c, undef, by rw [hv]; rfl, by rw [hv]; exact hvv⟩, HB.out⟩
    | false =>
      by_cases heq : f.data.toList = t.data.toList
      · have kf : (f.toList == t.toList) = true := by rw [Lib.toList_data, Lib.toList_data, heq]; simp
        have hv : MV undef = (C, 0) := by rw [HV.out]; simp [heq]
        have hvv := HT.out _ HB.out
        go_wp2_with fail
        go_ret2
        exact ⟨⟨.slice q C.length c, undef, by rw [hv]; rfl, by rw [hv]; exact hvv⟩, HB.out⟩
      have kf : (f.toList == t.toList) = false := by rw [Lib.toList_data, Lib.toList_data]; simpa using heq
      go_wp2_with fail
      generalize w4.alloc (.cells #[.string x, .bool false, .slice qb bb.length cb] 51) = W4 at *
      generalize w4.heap.size = BY at *
      refine wp_region_org [(0, true), (1, true), (3, true), (4, true), (5, true), (2, false), (6, false), (7, true), (8, true), (9, true), (10, true), (11, true)] (by kernel_rfl) (by kernel_rfl) (by kernel_rfl) ?_
      have hb := (Below.refl W4.heap.size W4).drew
      replace HB := Lib.hid (HB.out.trans (hb.mono HB.out.size))
      replace HY := Lib.hid (HY.out.keep hb HY.out.lt)
      replace HSB := Lib.hid ((HSB.out.keep hb).more hb.size)
      clear hb
      generalize W4.drew = wd at *
      simp only [pickOrs, List.getElem?_cons_zero, List.getElem?_cons_succ]
      refine org_pure (v := ?_) (by kernel_rfl) ?_ ?_
      rotate_left
      · intro w' hv; clear hv; go_simp; try with_reducible rfl
      try simp only [Act.put, List.setIfInBounds_toArray, List.set_cons_zero, List.set_cons_succ]
      refine org_pure (v := ?_) (by kernel_rfl) ?_ ?_
      rotate_left
      · intro w' hv; clear hv; go_simp; try with_reducible rfl
      try simp only [Act.put, List.setIfInBounds_toArray, List.set_cons_zero, List.set_cons_succ]
      refine org_pure (v := ?_) (by kernel_rfl) ?_ ?_
      rotate_left
      · intro w' hv; clear hv; go_simp; try with_reducible rfl
      try simp only [Act.put, List.setIfInBounds_toArray, List.set_cons_zero, List.set_cons_succ]
      refine org_pure (v := ?_) (by kernel_rfl) ?_ ?_
      rotate_left
      · intro w' hv; clear hv; go_simp; try with_reducible rfl
      try simp only [Act.put, List.setIfInBounds_toArray, List.set_cons_zero, List.set_cons_succ]
      refine org_pure (v := ?_) (by kernel_rfl) ?_ ?_
      rotate_left
      · intro w' hv; have cy2 := (HY.out.keep hv HY.out.lt).cellv (i := 2) (v := .slice qb bb.length cb) rfl; clear hv; go_simp; try with_reducible rfl
      try simp only [Act.put, List.setIfInBounds_toArray, List.set_cons_zero, List.set_cons_succ]
      refine org_step (by kernel_rfl) (fun K hK => ?_)
      go_wp2_with fail
      obtain ⟨hs3, hE3⟩ := HSE.out _ HB.out
      refine (HWO.out _ hs3 hE3).mono ?_
      clear hs3 hE3
      rintro e w5 ⟨⟨v5, rfl, ⟨qd, cd, rfl, hd1, hd2, hd3⟩⟩, hb⟩
      have HE2 := Lib.hid hb
      replace HB := Lib.hid (HB.out.trans (hb.mono HB.out.size))
      replace HSB := Lib.hid ((HSB.out.keep hb).more hb.size)
      have HD1 : Hid (D.length ≤ cd ∧ (qd = none → cd = 0)) := Lib.hid ⟨hd1, hd2⟩
      have HSD := Lib.hid hd3
      clear hb hd1 hd2 hd3
      refine hK _ _ ⟨HE2.out, ?_⟩
      clear hK HE2
      try simp only [Act.put, List.setIfInBounds_toArray, List.set_cons_zero, List.set_cons_succ]
      refine org_step (by kernel_rfl) (fun K hK => ?_)
      go_wp2_with fail
      refine (HPU.out bb qb cb qd cd _ hbl' HQB.out HD1.out.1 HD1.out.2 HSD.out (HSE.out _ HB.out).2 HSB.out).mono ?_
      rintro e w6 ⟨⟨v6, v7, rfl, hTR, hER⟩, hb⟩
      have HE2 := Lib.hid hb
      replace HB := Lib.hid (HB.out.trans (hb.mono HB.out.size))
      have HTR := Lib.hid hTR
      have HER := Lib.hid hER
      clear hb hTR hER
      refine hK _ _ ⟨HE2.out, ?_⟩
      clear hK HE2
      try simp only [Act.put, List.setIfInBounds_toArray, List.set_cons_zero, List.set_cons_succ]
      refine org_pure (v := ?_) (by kernel_rfl) ?_ ?_
      rotate_left
      · intro w' hv; clear hv; go_simp; try with_reducible rfl
      try simp only [Act.put, List.setIfInBounds_toArray, List.set_cons_zero, List.set_cons_succ]
      refine org_pure (v := ?_) (by kernel_rfl) ?_ ?_
      rotate_left
      · intro w' hv; clear hv; go_simp; try with_reducible rfl
      try simp only [Act.put, List.setIfInBounds_toArray, List.set_cons_zero, List.set_cons_succ]
      refine org_pure (v := ?_) (by kernel_rfl) ?_ ?_
      rotate_left
      · intro w' hv; clear hv; go_simp; try with_reducible rfl
      try simp only [Act.put, List.setIfInBounds_toArray, List.set_cons_zero, List.set_cons_succ]
      refine org_pure (v := ?_) (by kernel_rfl) ?_ ?_
      rotate_left
      · intro w' hv; clear hv; go_simp; try with_reducible rfl
      try simp only [Act.put, List.setIfInBounds_toArray, List.set_cons_zero, List.set_cons_succ]
      refine org_pure (v := ?_) (by kernel_rfl) ?_ ?_
      rotate_left
      · intro w' hv; clear hv; go_simp; try with_reducible rfl
      try simp only [Act.put, List.setIfInBounds_toArray, List.set_cons_zero, List.set_cons_succ]
      refine org_nil ?_
      have HVV := Lib.hid (HV.out v7)
      generalize putT D t bb v7 = R at *
      obtain ⟨X, E⟩ := R
      simp only [] at HTR HER HVV ⊢
      by_cases hx : E = 0
      · subst hx
        have hv : MV v7 = (X, 0) := by rw [HVV.out]; simp [heq]
        go_wp2_with fail
        go_ret2
        exact ⟨⟨v6, v7, by rw [hv]; rfl, by rw [hv]; exact ⟨HTR.out, HER.out⟩⟩, HB.out⟩
      · have kA : (E = 0) = False := eq_false hx
        have kAb : (E == 0) = false := by simpa using hx
        have kAn : (E != 0) = true := by simpa using hx
        have hv : MV v7 = (C, E) := by rw [HVV.out]; simp [heq, hx]
        have hvv := HT.out _ HB.out
        go_wp2_with fail
        go_ret2
        exact ⟨⟨.slice q C.length c, v7, by rw [hv]; rfl, by rw [hv]; exact hvv⟩, HB.out⟩
  · have kA : (RE = 0) = False := eq_false hr
    have kAb : (RE == 0) = false := by simpa using hr
    have kAn : (RE != 0) = true := by simpa using hr
    have hv : MV undef = (C, RE) := by rw [HV.out]; simp [hr]
    have hvv := HT.out _ HB.out
    go_wp2_with fail
    go_ret2
    exact ⟨⟨.slice q C.length c, undef, by rw [hv]; rfl, by rw [hv]; exact hvv⟩, HB.out⟩
end Go.Proofs.YthpendoblgndcaaDoor
/- Plain laws: trees that read alike answer alike; the document's own Find, Remove, Move and the program's are one. No condition. -/
namespace Go.Proofs.YthpendoblgndcaaDoor
open Go.RowKit
/-- An entry without where its bytes lie. -/
def era1 (e : Ent) : Ent := (e.1, e.2.1, undef, e.2.2.2)
def era (C : List Ent) : List Ent := C.map era1
abbrev Sim (C D : List Ent) : Prop := era C = era D
theorem era_len (C : List Ent) : (era C).length = C.length := List.length_map ..
theorem era_bytes (C : List Ent) : bytesT (era C) = bytesT C := by unfold bytesT era; rw [List.map_map]; rfl
theorem era_pos (C : List Ent) (p : Tx) : posT (era C) p = posT C p := by unfold posT era; rw [List.takeWhile_map, List.length_map]; rfl
theorem era_has (C : List Ent) (p : Tx) : hasT (era C) p = hasT C p := by
  unfold hasT
  rw [era_pos]
  unfold era
  rw [List.getElem?_map]
  cases C[posT C p]? <;> rfl
theorem era_at (p : Tx) : ∀ C : List Ent, atT (era C) p = atT C p
  | [] => rfl
  | e :: C => by
    show (if e.pa = p then (0 : Int) else if atT (era C) p < 0 then -1 else atT (era C) p + 1) = _
    rw [era_at p C]; rfl
theorem era_dir (C : List Ent) (k : Nat) : dirT (era C) k = dirT C k := by
  unfold dirT era
  rw [List.getElem?_map]
  cases C[k]? <;> rfl
theorem era_by (C : List Ent) (k : Nat) : byT (era C) k = byT C k := by
  unfold byT era
  rw [List.getElem?_map]
  cases C[k]? <;> rfl
theorem era_room (C : List Ent) (p : Tx) : roomT (era C) p = roomT C p := by unfold roomT; rw [era_at, era_dir]
theorem era_fits (C : List Ent) : fitsT (era C) = fitsT C := by unfold fitsT; rw [era_len, era_bytes]
theorem era_goodQ : ∀ (C pre : List Ent), goodQ (era pre) (era C) = goodQ pre C
  | [], _ => rfl
  | e :: C, pre => by
    show (okEnt e && (prevB (era pre).getLast? e.pa && (decide (roomT (era pre) e.pa = 0) && goodQ (era pre ++ [era1 e]) (era C)))) = _
    have h1 : era pre ++ [era1 e] = era (pre ++ [e]) := by unfold era; rw [List.map_append]; rfl
    have h2 : prevB (era pre).getLast? e.pa = prevB pre.getLast? e.pa := by
      unfold era
      rw [List.getLast?_map]
      cases pre.getLast? <;> rfl
    rw [h1, h2, era_room, era_goodQ C (pre ++ [e])]
    rfl
theorem era_good (C : List Ent) : goodP (era C) = goodP C := by
  unfold goodP
  rw [era_fits, show goodQ [] (era C) = goodQ [] C from era_goodQ C []]
theorem era_put (C : List Ent) (E : Ent) : era (putL C E) = putL (era C) (era1 E) := by
  unfold putL
  have h1 : (era1 E).pa = E.pa := rfl
  rw [h1, era_pos, era_has]
  unfold era
  rw [List.map_append, List.map_cons, List.map_take, List.map_drop]
theorem era_outI (C : List Ent) (i : Nat) : era (outI C i) = outI (era C) i := by
  unfold outI era
  rw [List.map_append, List.map_take, List.map_drop]
theorem era_outT (C : List Ent) : era (outT C) = outT (era C) := by
  unfold outT era
  rw [List.filter_map]; rfl
theorem era_inT (C : List Ent) (p : Tx) : inT (era C) p = inT C p := by
  unfold inT era
  rw [List.filter_map, List.map_map]; rfl
section
variable {C D : List Ent}
theorem Sim.good (h : Sim C D) : goodP C = goodP D := by rw [← era_good C, h, era_good]
theorem Sim.len (h : Sim C D) : C.length = D.length := by rw [← era_len C, h, era_len]
theorem Sim.bytes (h : Sim C D) : bytesT C = bytesT D := by rw [← era_bytes C, h, era_bytes]
theorem Sim.fits (h : Sim C D) : fitsT C = fitsT D := by rw [← era_fits C, h, era_fits]
theorem Sim.pos (h : Sim C D) (p : Tx) : posT C p = posT D p := by rw [← era_pos C, h, era_pos]
theorem Sim.has (h : Sim C D) (p : Tx) : hasT C p = hasT D p := by rw [← era_has C, h, era_has]
theorem Sim.dir (h : Sim C D) (k : Nat) : dirT C k = dirT D k := by rw [← era_dir C, h, era_dir]
theorem Sim.by_ (h : Sim C D) (k : Nat) : byT C k = byT D k := by rw [← era_by C, h, era_by]
theorem Sim.room (h : Sim C D) (p : Tx) : roomT C p = roomT D p := by rw [← era_room C, h, era_room]
theorem Sim.ask (h : Sim C D) (L : List ByteArray) : askT C L = askT D L := by unfold askT; rw [h.good]
theorem Sim.put (h : Sim C D) {E E' : Ent} (e : era1 E = era1 E') : Sim (putL C E) (putL D E') := by show era _ = era _; rw [era_put, era_put, h, e]
theorem Sim.outI (h : Sim C D) (i : Nat) : Sim (outI C i) (outI D i) := by show era _ = era _; rw [era_outI, era_outI, h]
theorem Sim.find (h : Sim C D) (p : ByteArray) : findP C p = findP D p := by unfold findP; rw [h.ask, h.has, h.pos]
theorem Sim.kids (h : Sim C D) (p : Tx) : kidsP C p = kidsP D p := by
  unfold kidsP
  rw [h.good, ← era_inT C, h, era_inT]
theorem Sim.clean (h : Sim C D) : Sim (cleanP C) (cleanP D) := by
  unfold cleanP
  rw [h.good]
  split
  · show era _ = era _; rw [era_outT, era_outT, h]
  · exact h
theorem Sim.makeP (h : Sim C D) (p : ByteArray) : (makeP C p).2 = (makeP D p).2 ∧ Sim (makeP C p).1 (makeP D p).1 := by
  have hp := h.put (E := dirE p) (E' := dirE p) rfl
  unfold Go.Proofs.YthpendoblgndcaaDoor.makeP
  rw [h.ask, h.has, h.room, hp.fits]
  split
  · exact ⟨rfl, h⟩
  · split
    · exact ⟨rfl, h⟩
    · split
      · exact ⟨rfl, h⟩
      · split
        · exact ⟨rfl, hp⟩
        · exact ⟨rfl, h⟩
theorem Sim.putP (h : Sim C D) (p : ByteArray) (b : List (BitVec 8)) (v v' : Value) : (putP C p b v).2 = (putP D p b v').2 ∧ Sim (putP C p b v).1 (putP D p b v').1 := by
  have hp := h.put (E := fileE p v b) (E' := fileE p v' b) rfl
  unfold Go.Proofs.YthpendoblgndcaaDoor.putP
  rw [h.has, h.room, h.pos, h.dir, hp.fits]
  split
  · exact ⟨rfl, h⟩
  · split
    · exact ⟨rfl, h⟩
    · split
      · exact ⟨rfl, h⟩
      · split
        · exact ⟨rfl, hp⟩
        · exact ⟨rfl, h⟩
theorem Sim.puttP (h : Sim C D) (p : ByteArray) (b : List (BitVec 8)) (v v' : Value) : (puttP C p b v).2 = (puttP D p b v').2 ∧ Sim (puttP C p b v).1 (puttP D p b v').1 := by
  have hp := h.putP p b v v'
  unfold Go.Proofs.YthpendoblgndcaaDoor.puttP
  rw [h.ask]
  split
  · exact ⟨rfl, h⟩
  · exact hp
theorem Sim.removeP (h : Sim C D) (p : ByteArray) : (removeP C p).2 = (removeP D p).2 ∧ Sim (removeP C p).1 (removeP D p).1 := by
  unfold Go.Proofs.YthpendoblgndcaaDoor.removeP
  rw [h.find, h.kids]
  split
  · exact ⟨rfl, h⟩
  · split
    · exact ⟨rfl, h⟩
    · exact ⟨rfl, h.outI _⟩
theorem Sim.moveP (h : Sim C D) (f t : ByteArray) (v v' : Value) : (moveP C f t v).2 = (moveP D f t v').2 ∧ Sim (moveP C f t v).1 (moveP D f t v').1 := by
  have hp := (h.outI (posT D f.data.toList)).putP t (byT D (posT D f.data.toList)) v v'
  unfold Go.Proofs.YthpendoblgndcaaDoor.moveP
  rw [h.ask, h.has, h.pos, h.dir, h.by_, hp.1]
  split
  · exact ⟨rfl, h⟩
  · split
    · exact ⟨rfl, h⟩
    · split
      · exact ⟨rfl, h⟩
      · split
        · exact ⟨rfl, h⟩
        · split
          · exact ⟨rfl, h⟩
          · exact ⟨rfl, hp.2⟩
theorem sim_like : ∀ {C D : List Ent}, Sim C D → likeT C D = true
  | [], [], _ => rfl
  | [], y :: D, h => by have := h.len; simp at this
  | x :: C, [], h => by have := h.len; simp at this
  | x :: C, y :: D, h => by
    have h' : era1 x :: era C = era1 y :: era D := h
    injection h' with h1 h2
    show (eqE x y && likeT C D) = true
    rw [sim_like h2]
    have a : x.1 = y.1 := (congrArg (fun e : Ent => e.1) h1 : (era1 x).1 = (era1 y).1)
    have b : x.2.1 = y.2.1 := (congrArg (fun e : Ent => e.2.1) h1 : (era1 x).2.1 = (era1 y).2.1)
    have c : x.2.2.2 = y.2.2.2 := (congrArg (fun e : Ent => e.2.2.2) h1 : (era1 x).2.2.2 = (era1 y).2.2.2)
    unfold eqE Ent.pa Ent.dir Ent.by
    rw [a, b, c]; simp
theorem Sim.get (h : Sim C D) {i : Nat} (hi : i < C.length) (hj : i < D.length) : C[i].1 = D[i].1 ∧ C[i].2.1 = D[i].2.1 ∧ C[i].by = D[i].by := by
  have e : (era C)[i]? = (era D)[i]? := by rw [h]
  unfold era at e
  rw [List.getElem?_map, List.getElem?_map, List.getElem?_eq_getElem hi, List.getElem?_eq_getElem hj] at e
  injection e with e
  have a := (congrArg (fun e : Ent => e.1) e : (era1 C[i]).1 = (era1 D[i]).1)
  have b := (congrArg (fun e : Ent => e.2.1) e : (era1 C[i]).2.1 = (era1 D[i]).2.1)
  have c := (congrArg (fun e : Ent => e.2.2.2) e : (era1 C[i]).2.2.2 = (era1 D[i]).2.2.2)
  exact ⟨a, b, c⟩
end
/-- What Find answers. -/
theorem rerr_P (C : List Ent) (p : ByteArray) : rerrT C p.data.toList = (findP C p).2 := by
  unfold rerrT findP askT
  rw [goodT_P]
  cases hg : goodP C with
  | false => simp
  | true =>
    obtain ⟨_, h2, _, _⟩ := (goodP_iff C).1 hg
    cases hp : okPath p.data.toList with
    | false => simp [hp]
    | true =>
      rcases asc_at h2 p.data.toList with ⟨h3, h4, _⟩ | ⟨h3, h4⟩
      · rw [h3, h4]; simp [hp]
      · rw [h3, h4]; simp [hp]
theorem find_at {C : List Ent} {p : ByteArray} (h : (findP C p).2 = 0) : goodP C = true ∧ okPath p.data.toList = true ∧ hasT C p.data.toList = true ∧ (findP C p).1 = posT C p.data.toList ∧ atT C p.data.toList = (posT C p.data.toList : Int) := by
  unfold findP at h ⊢
  by_cases h0 : askT C [p] ≠ 0
  · rw [if_pos h0] at h; exact absurd h h0
  · rw [if_neg h0] at h ⊢
    obtain ⟨h1, h2⟩ := askT_good (show askT C [p] = 0 by simpa using h0)
    by_cases h3 : hasT C p.data.toList = true
    · rw [if_pos h3]
      obtain ⟨_, h4, _, _⟩ := (goodP_iff C).1 h1
      rcases asc_at h4 p.data.toList with ⟨_, h5, _⟩ | ⟨h5, _⟩
      · exact ⟨h1, h2 p (List.mem_singleton.2 rfl), h3, rfl, h5⟩
      · rw [h3] at h5; cases h5
    · rw [if_neg h3] at h; cases h
theorem withoutT_P {C : List Ent} (hA : AscE C) {p : Tx} (h : hasT C p = true) : withoutT C p = outI C (posT C p) := by
  obtain ⟨hl, hk⟩ := has_at h
  have h1 := take_bef hA hl
  have h2 := drop_aft hA hl
  rw [hk] at h1 h2
  unfold withoutT outI
  conv => lhs; rw [split_at hl]
  rw [List.filter_append, List.filter_cons, if_neg (by rw [hk]; simp)]
  congr 1
  · refine List.filter_eq_self.2 fun e he => ?_
    have := h1 e he
    have hne : e.pa ≠ p := fun k => by rw [k, cmpL_self] at this; omega
    simpa using hne
  · refine List.filter_eq_self.2 fun e he => ?_
    simpa using ne_of_gt (h2 e he)
theorem under_kid {C : List Ent} (hg : goodP C = true) {p : Tx} (hp : okPath p = true) : ∀ (n : Nat) (e : Ent), e.pa.length ≤ n → e ∈ C → underL e.pa p = true → ∃ y ∈ C, upV y.pa = p
  | 0, e, hn, _, hu => by
    obtain ⟨_, r, hr⟩ := (under_iff _ _).1 hu
    rw [hr] at hn; simp at hn
  | n + 1, e, hn, he, hu => by
    obtain ⟨g1, g2, g3, g4⟩ := (goodP_iff C).1 hg
    obtain ⟨ho, r, hr⟩ := (under_iff _ _).1 hu
    have hupv : upV e.pa = upL e.pa := by unfold upV; rw [if_pos ho]
    rcases last_parts r with ⟨hr1, _, _⟩ | ⟨u, b, hr2, hb, _, _⟩
    · refine ⟨e, he, ?_⟩
      rw [hupv, hr]
      exact (up_sep p r hr1).1
    · have hx : e.pa = (p ++ 47 :: u) ++ 47 :: b := by rw [hr, hr2]; simp
      have hup : upV e.pa = p ++ 47 :: u := by rw [hupv, hx]; exact (up_sep _ _ hb).1
      have h0 : upV e.pa ≠ [] := by rw [hup]; simp
      obtain ⟨y, hy, k, _⟩ := (room_iff g2 h0).1 (g4 e he)
      rw [hup] at k
      refine under_kid hg hp n y ?_ hy ((under_iff _ _).2 ⟨okEnt_path (g3 y hy), u, k⟩)
      have : e.pa.length = y.pa.length + 1 + b.length := by rw [hx, k]; simp; omega
      omega
theorem under_kids {C : List Ent} (hg : goodP C = true) {p : Tx} (hp : okPath p = true) : underAny C p = true ↔ 0 < (kidsP C p).length := by
  unfold underAny kidsP inT
  rw [if_pos hg, List.any_eq_true, List.length_map, List.length_pos_iff]
  constructor
  · rintro ⟨e, he, hu⟩ k
    obtain ⟨y, hy, ky⟩ := under_kid hg hp _ e (Nat.le_refl _) he hu
    have : y ∈ C.filter fun e => upV e.pa == p := List.mem_filter.2 ⟨hy, by rw [ky]; simp⟩
    rw [k] at this; cases this
  · intro k
    obtain ⟨e, he⟩ := List.exists_mem_of_ne_nil _ k
    obtain ⟨he, hu⟩ := List.mem_filter.1 he
    have hu' : upV e.pa = p := eq_of_beq hu
    have ho : okPath e.pa = true := okEnt_path (((goodP_iff C).1 hg).2.2.1 e he)
    have hup : upV e.pa = upL e.pa := by unfold upV; rw [if_pos ho]
    rw [hup] at hu'
    refine ⟨e, he, ?_⟩
    have := (up_within ho (by rw [hu']; exact ne_nil_of_ok hp)).1
    rwa [hu'] at this
theorem removeT_P (C : List Ent) (p : ByteArray) : removeT C p.data.toList = removeP C p := by
  unfold removeT removeP
  rw [rerr_P]
  by_cases h0 : (findP C p).2 = 0
  · obtain ⟨hg, hp, hh, hi, _⟩ := find_at h0
    simp only [h0, ne_eq, not_true_eq_false, if_false]
    have hk := under_kids hg hp
    by_cases hu : underAny C p.data.toList = true
    · rw [if_pos hu, if_pos (hk.1 hu)]
    · rw [if_neg hu, if_neg (fun k => hu (hk.2 k)), withoutT_P ((goodP_iff C).1 hg).2.1 hh, hi]; rfl
  · rw [if_pos h0, if_pos h0]
theorem rmoveT_P (C : List Ent) (f t : ByteArray) (v : Value) : rmoveT C f t v = moveP C f t v := by
  unfold rmoveT moveP
  rw [goodT_P, rerr_P]
  cases hg : goodP C with
  | false =>
    have ha : askT C [f, t] = 1 := by unfold askT; rw [hg]; simp
    rw [ha]; simp
  | true =>
    obtain ⟨_, h2, _, _⟩ := (goodP_iff C).1 hg
    have ha : askT C [f, t] = if (okPath f.data.toList && okPath t.data.toList) = true then 0 else 4 := by unfold askT; rw [hg]; simp
    rw [ha]
    cases hf : okPath f.data.toList with
    | false => simp
    | true =>
      cases ht : okPath t.data.toList with
      | false => simp
      | true =>
        have hf2 : (findP C f).2 = if hasT C f.data.toList = true then 0 else 5 := by
          unfold findP
          rw [ask_ok hg (L := [f]) (fun p hp => by rw [List.mem_singleton.1 hp]; exact hf)]
          simp only [ne_eq, not_true_eq_false, if_false]
          split <;> rfl
        rw [hf2]
        cases hh : hasT C f.data.toList with
        | false => simp
        | true =>
          have hat : atT C f.data.toList = (posT C f.data.toList : Int) := by
            rcases asc_at h2 f.data.toList with ⟨_, h5, _⟩ | ⟨h5, _⟩
            · exact h5
            · rw [hh] at h5; cases h5
          rw [hat]
          simp only [Bool.and_self, if_true, ne_eq, not_true_eq_false, if_false, Bool.true_eq_false, Int.toNat_natCast]
          obtain ⟨hl, _⟩ := has_at hh
          cases hd : dirT C (posT C f.data.toList) with
          | true => simp
          | false =>
            simp only [Bool.false_eq_true, if_false]
            by_cases he : f.data.toList = t.data.toList
            · rw [if_pos he, if_pos he]
            · rw [if_neg he, if_neg he, withoutT_P h2 hh, putT_P]
              have hgo := out_good hg hl (by rw [← dirT_at hl]; exact hd)
              have hp : ∀ b, puttP (outI C (posT C f.data.toList)) t b v = putP (outI C (posT C f.data.toList)) t b v := fun b => by
                unfold puttP
                rw [ask_ok hgo (L := [t]) (fun p hp => by rw [List.mem_singleton.1 hp]; exact ht)]
                simp
              rw [hp]
end Go.Proofs.YthpendoblgndcaaDoor
/- Contract: the law's texts: two rows that read as the same texts are alike. Condition: at most 10^6 texts. -/
namespace Go.Proofs.YthpendoblgndcaaDoor
open Go.RowKit
set_option maxHeartbeats 4000000 in
set_option maxRecDepth 100000 in
theorem texts8_any (L : List Tx) (q p : Option Addr) (c d : Nat) (hm : L.length ≤ 1000000) (w : World) (hs : Sees w w.heap.size q (L.map encStr)) (ht : Sees w w.heap.size p (L.map encStr)) :
    Calls Tryd.prog 17 #[.slice q L.length c, .slice p L.length d] w fun e w' => e = .returned (.bool true) ∧ Below w.heap.size w w' := by
  have HS := Lib.hid hs
  have HT := Lib.hid ht
  clear hs ht
  have klb : ((L.length : Int) != (L.length : Int)) = false := by simp
  go_enter Tryd.func17, Tryd.ntmps17
  go_wp2_with fail
  go_loopw [5] (fun vi wr => ∃ i : Nat, i ≤ L.length ∧ vi = .int .i64 i ∧ Below w.heap.size w wr) (fun vi _ => L.length - (intOf vi).toNat)
  case atStart => exact ⟨0, by omega, rfl, Below.refl _ _⟩
  case round =>
    obtain ⟨i, hi, rfl, hB⟩ := hrel
    have HB := Lib.hid hB
    clear hB
    by_cases hlt : i < L.length
    · have kk : (i : Int) < (L.length : Int) := by omega
      obtain ⟨a, rfl, _, ha⟩ := HS.out.get (by simp; omega)
      obtain ⟨b, rfl, _, hb⟩ := HT.out.get (by simp; omega)
      have HA : Hid (∀ w', Below w.heap.size w w' → w'.cell? (a.add i) = some (encStr L[i])) := Lib.hid (fun w' h => by
        obtain ⟨a', e, _, h2⟩ := ((HS.out.keep h).more h.size).get (by simp; omega)
        cases e
        exact h2 i _ (by simp [hlt]))
      have HC : Hid (∀ w', Below w.heap.size w w' → w'.cell? (b.add i) = some (encStr L[i])) := Lib.hid (fun w' h => by
        obtain ⟨a', e, _, h2⟩ := ((HT.out.keep h).more h.size).get (by simp; omega)
        cases e
        exact h2 i _ (by simp [hlt]))
      clear ha hb
      have ktx : ((⟨(L[i]).toArray⟩ : ByteArray).toList == (⟨(L[i]).toArray⟩ : ByteArray).toList) = true := by simp
      have henc : encStr L[i] = .string ⟨(L[i]).toArray⟩ := rfl
      rw [henc] at HA HC
      generalize (⟨(L[i]).toArray⟩ : ByteArray) = x at *
      clear henc
      go_wp2_with fail
      refine wp_region_org [(0, true), (1, true), (2, true), (3, true), (4, true), (5, true), (6, true), (7, true), (8, true)] (by kernel_rfl) (by kernel_rfl) (by kernel_rfl) ?_
      replace HB := Lib.hid HB.out.drew
      generalize wr.drew = wd at *
      simp only [pickOrs, List.getElem?_cons_zero, List.getElem?_cons_succ]
      refine org_pure (v := ?_) (by kernel_rfl) ?_ ?_
      rotate_left
      · intro w' hv; clear hv; go_simp; try with_reducible rfl
      try simp only [Act.put, List.setIfInBounds_toArray, List.set_cons_zero, List.set_cons_succ]
      refine org_pure (v := ?_) (by kernel_rfl) ?_ ?_
      rotate_left
      · intro w' hv; clear hv; go_simp; try with_reducible rfl
      try simp only [Act.put, List.setIfInBounds_toArray, List.set_cons_zero, List.set_cons_succ]
      refine org_pure (v := ?_) (by kernel_rfl) ?_ ?_
      rotate_left
      · intro w' hv; clear hv; go_simp; try with_reducible rfl
      try simp only [Act.put, List.setIfInBounds_toArray, List.set_cons_zero, List.set_cons_succ]
      refine org_pure (v := ?_) (by kernel_rfl) ?_ ?_
      rotate_left
      · intro w' hv; have c1 := HA.out w' (HB.out.trans (Below.mono hv HB.out.size)); clear hv; go_simp; try with_reducible rfl
      try simp only [Act.put, List.setIfInBounds_toArray, List.set_cons_zero, List.set_cons_succ]
      refine org_pure (v := ?_) (by kernel_rfl) ?_ ?_
      rotate_left
      · intro w' hv; clear hv; go_simp; try with_reducible rfl
      try simp only [Act.put, List.setIfInBounds_toArray, List.set_cons_zero, List.set_cons_succ]
      refine org_pure (v := ?_) (by kernel_rfl) ?_ ?_
      rotate_left
      · intro w' hv; clear hv; go_simp; try with_reducible rfl
      try simp only [Act.put, List.setIfInBounds_toArray, List.set_cons_zero, List.set_cons_succ]
      refine org_pure (v := ?_) (by kernel_rfl) ?_ ?_
      rotate_left
      · intro w' hv; clear hv; go_simp; try with_reducible rfl
      try simp only [Act.put, List.setIfInBounds_toArray, List.set_cons_zero, List.set_cons_succ]
      refine org_pure (v := ?_) (by kernel_rfl) ?_ ?_
      rotate_left
      · intro w' hv; have c1 := HC.out w' (HB.out.trans (Below.mono hv HB.out.size)); clear hv; go_simp; try with_reducible rfl
      try simp only [Act.put, List.setIfInBounds_toArray, List.set_cons_zero, List.set_cons_succ]
      refine org_pure (v := ?_) (by kernel_rfl) ?_ ?_
      rotate_left
      · intro w' hv; clear hv; go_simp; try with_reducible rfl
      try simp only [Act.put, List.setIfInBounds_toArray, List.set_cons_zero, List.set_cons_succ]
      refine org_nil ?_
      go_wp2_with fail
      go_roundw
      case rel => exact ⟨i + 1, by omega, by go_num, HB.out⟩
      case measure => simp [intOf]; omega
    · have hil : i = L.length := by omega
      subst hil
      have k0 : ¬ (L.length : Int) < (L.length : Int) := by omega
      clear hlt
      go_wp2_with fail
      go_ret
      exact ⟨rfl, HB.out⟩
end Go.Proofs.YthpendoblgndcaaDoor
/- What the law TreePlays wants: a store into a tree's box leaves rows where they are; a tree with one taken out may be; what Find answers of two trees that read alike. No condition. -/
namespace Go.Proofs.YthpendoblgndcaaDoor
open Go.RowKit
theorem Sees.off1 {w : World} {b g : Nat} {p : Option Addr} {l : List Value} {t : TypeId} {v0 x : Value} (h : Sees w b p l) (hg : Has w g t [v0]) (h0 : ∀ u, l.head? = some u → u ≠ v0) : Sees (w.setCell ⟨g, 0, none⟩ x) b p l := fun hl => by
  obtain ⟨a, e, hb, hc⟩ := h hl
  have hne : a.block ≠ g := fun k => by
    match l, hl with
    | u :: r, _ =>
      have h1 := hc 0 u rfl
      have e0 : a.add 0 = a := by simp [Addr.add]
      have hg' : w.heap[g]? = some (.cells #[v0] t (0, 0)) := hg
      rw [e0] at h1
      unfold World.cell? at h1
      rw [k, hg'] at h1
      simp only [] at h1
      split at h1
      · cases h1
      · have h2 : a.off = 0 ∨ 0 < a.off := by omega
        rcases h2 with h2 | h2
        · rw [h2] at h1
          exact h0 u rfl (by simpa using h1.symm)
        · rw [Array.getElem?_eq_none (by simp; omega)] at h1
          cases h1
  refine ⟨a, e, hb, fun j u hu => (World.cell?_setCell_other _ _ _ _ (fun k => hne ?_)).trans (hc j u hu)⟩
  have := congrArg Addr.block k
  rw [add_block] at this
  exact this.symm
theorem rowC_head (C : List Ent) : ∀ u, (rowC C).head? = some u → ∃ s, u = .string s := fun u hu => by
  cases C with
  | nil => cases hu
  | cons e C =>
    rw [rowC_cons] at hu
    have : u = .string e.1 := by simpa [entC] using hu.symm
    exact ⟨_, this⟩
theorem Sees.offC {w : World} {b g : Nat} {p q : Option Addr} {n c : Nat} {t : TypeId} {C : List Ent} {x : Value} (h : Sees w b p (rowC C)) (hg : Has w g t [.slice q n c]) : Sees (w.setCell ⟨g, 0, none⟩ x) b p (rowC C) :=
  h.off1 hg fun u hu k => by obtain ⟨s, rfl⟩ := rowC_head C u hu; cases k
theorem Bs.offC {w : World} {g : Nat} {q : Option Addr} {n c : Nat} {t : TypeId} {v x : Value} {b : List (BitVec 8)} (h : Bs w v b) (hg : Has w g t [.slice q n c]) : Bs (w.setCell ⟨g, 0, none⟩ x) v b := by
  obtain ⟨p, k, h1, h2, h3, h4⟩ := h
  refine ⟨p, k, h1, h2, h3, ?_⟩
  rw [size_set]
  refine h4.off1 hg fun u hu hk => ?_
  cases b with
  | nil => cases hu
  | cons y b =>
    have : u = u8v y := by simpa using hu.symm
    rw [this] at hk; cases hk
theorem Ents.offC {w : World} {g : Nat} {q : Option Addr} {n c : Nat} {t : TypeId} {x : Value} {C : List Ent} (h : Ents w C) (hg : Has w g t [.slice q n c]) : Ents (w.setCell ⟨g, 0, none⟩ x) C := fun e he => (h e he).offC hg
theorem TrV.offC {w : World} {g : Nat} {q : Option Addr} {n c : Nat} {t : TypeId} {v x : Value} {C : List Ent} (h : TrV w v C) (hg : Has w g t [.slice q n c]) : TrV (w.setCell ⟨g, 0, none⟩ x) v C := by
  obtain ⟨p, k, h1, h2, h3, h4⟩ := h
  refine ⟨p, k, h1, h2, h3, ?_⟩
  rw [size_set]
  exact h4.offC hg
theorem good_small8 {X : List Ent} (h : goodP X = true) : X.length ≤ 40 ∧ bytesT X ≤ 16384 ∧ ∀ e ∈ X, e.1.size ≤ 68 := by
  obtain ⟨h1, _, h3, _⟩ := (goodP_iff X).1 h
  unfold fitsT at h1
  rw [Bool.and_eq_true, decide_eq_true_eq, decide_eq_true_eq] at h1
  exact ⟨h1.1, h1.2, fun e he => ok_size (okEnt_path (h3 e he))⟩
theorem Sim.names {C D : List Ent} (h : Sim C D) {m : Nat} (hn : ∀ e ∈ C, e.1.size ≤ m) : ∀ e ∈ D, e.1.size ≤ m := fun e he => by
  obtain ⟨i, hi, rfl⟩ := List.getElem_of_mem he
  have hl := h.len
  rw [← (h.get (by omega) hi).1]
  exact hn _ (List.getElem_mem _)
/-- One in which nothing stands, taken out: the tree stays one. -/
theorem out_good2 {C : List Ent} (hg : goodP C = true) {i : Nat} (hi : i < C.length) (hk : ∀ e ∈ C, upV e.pa ≠ C[i].pa) : goodP (outI C i) = true := by
  obtain ⟨h1, h2, h3, h4⟩ := (goodP_iff C).1 hg
  have hA : AscE (outI C i) := h2.sublist (outI_sub hi)
  refine (goodP_iff _).2 ⟨?_, hA, fun e he => h3 e (outI_mem he), fun e he => ?_⟩
  · unfold fitsT at h1 ⊢
    rw [Bool.and_eq_true, decide_eq_true_eq, decide_eq_true_eq] at h1 ⊢
    have := outI_len hi
    have := outI_bytes hi
    omega
  · by_cases h0 : upV e.pa = []
    · unfold roomT; rw [if_pos h0]
    · obtain ⟨y, hy, k, hyd⟩ := (room_iff h2 h0).1 (h4 e (outI_mem he))
      exact (room_iff hA h0).2 ⟨y, outI_keeps hi hy (fun k2 => hk e (outI_mem he) (by rw [← k, k2])), k, hyd⟩
theorem remove_good {C : List Ent} (hg : goodP C = true) (p : ByteArray) : goodP (removeP C p).1 = true := by
  unfold removeP
  by_cases h0 : (findP C p).2 = 0
  · simp only [h0, ne_eq, not_true_eq_false, if_false]
    split
    · exact hg
    · rename_i hk
      obtain ⟨_, _, hh, hi, _⟩ := find_at h0
      obtain ⟨hl, hat⟩ := has_at hh
      rw [hi]
      refine out_good2 hg hl fun e he k => hk ?_
      rw [hat] at k
      unfold kidsP inT
      rw [if_pos hg, List.length_map, List.length_pos_iff]
      intro k2
      have : e ∈ C.filter fun e => upV e.pa == p.data.toList := List.mem_filter.2 ⟨he, by rw [k]; simp⟩
      rw [k2] at this; cases this
  · rw [if_pos h0]; exact hg
theorem find_same {w : World} {b : Nat} {X Y : List Ent} {p : ByteArray} {r r' : Ent} (hs : Sim X Y) (h : FindR w b X p r) (h' : RFind Y p.data.toList r') : r.1 = r'.1 ∧ r.2.1 = r'.2.1 ∧ r.by = r'.by := by
  have hf := hs.find p
  obtain ⟨_, h⟩ := h
  unfold RFind at h'
  rw [rerr_P, ← hf] at h'
  rcases h with ⟨h0, hk, a, b, c⟩ | ⟨h0, rfl⟩
  · rcases h' with ⟨_, hk', rfl⟩ | ⟨h1, _⟩
    · have hi : (findP X p).1 = (atT Y p.data.toList).toNat := by
        rw [hf] at h0 ⊢
        obtain ⟨_, _, _, h2, h3⟩ := find_at h0
        rw [h2, h3]; simp
      simp only [hi] at hk a b c
      obtain ⟨x, y, z⟩ := hs.get hk hk'
      exact ⟨a.trans x, b.trans y, c.trans z⟩
    · exact absurd h0 h1
  · rcases h' with ⟨h1, _⟩ | ⟨_, rfl⟩
    · exact absurd h1 h0
    · exact ⟨rfl, rfl, rfl⟩
/-- A call of the law: its number, its two paths, its bytes. -/
abbrev ActE := Int × ByteArray × ByteArray × Value × List (BitVec 8)
def actC (a : ActE) : List Value := [.int .i64 a.1, .string a.2.1, .string a.2.2.1, a.2.2.2.1]
def rowA (L : List ActE) : List Value := L.flatMap actC
theorem rowA_cons (e : ActE) (C : List ActE) : rowA (e :: C) = actC e ++ rowA C := rfl
theorem rowA_len (C : List ActE) : (rowA C).length = 4 * C.length := by
  induction C with
  | nil => rfl
  | cons e C ih => rw [rowA_cons, List.length_append, ih, List.length_cons]; simp [actC]; omega
theorem rowA_get : ∀ (C : List ActE) (i : Nat) (h : i < C.length), (rowA C)[i * 4]? = some (.int .i64 C[i].1) ∧ (rowA C)[i * 4 + 1]? = some (.string C[i].2.1) ∧ (rowA C)[i * 4 + 2]? = some (.string C[i].2.2.1) ∧ (rowA C)[i * 4 + 3]? = some C[i].2.2.2.1
  | [], i, h => absurd h (by simp)
  | e :: C, 0, _ => by rw [rowA_cons]; simp [actC]
  | e :: C, i + 1, h => by
    have ih := rowA_get C i (by simpa using h)
    rw [rowA_cons]
    have hl : (actC e).length = 4 := rfl
    rw [List.getElem?_append_right (by rw [hl]; omega), List.getElem?_append_right (by rw [hl]; omega), List.getElem?_append_right (by rw [hl]; omega), List.getElem?_append_right (by rw [hl]; omega), hl]
    rw [show (i + 1) * 4 - 4 = i * 4 by omega, show (i + 1) * 4 + 1 - 4 = i * 4 + 1 by omega, show (i + 1) * 4 + 2 - 4 = i * 4 + 2 by omega, show (i + 1) * 4 + 3 - 4 = i * 4 + 3 by omega]
    simpa using ih
theorem Sees.act {w : World} {b : Nat} {q : Option Addr} {C : List ActE} (h : Sees w b q (rowA C)) {i : Nat} (hi : i < C.length) :
    ∃ a, q = some a ∧ a.block < b ∧ ∀ w', Below b w w' → w'.cell? (a.add (i * 4)) = some (.int .i64 C[i].1) ∧ w'.cell? ⟨(a.add (i * 4)).block, (a.add (i * 4)).off + 1, none⟩ = some (.string C[i].2.1) ∧ w'.cell? ⟨(a.add (i * 4)).block, (a.add (i * 4)).off + 2, none⟩ = some (.string C[i].2.2.1) ∧ w'.cell? ⟨(a.add (i * 4)).block, (a.add (i * 4)).off + 3, none⟩ = some C[i].2.2.2.1 := by
  obtain ⟨a, rfl, hb, hc⟩ := h.get (by rw [rowA_len]; omega)
  obtain ⟨h1, h2, h3, h4⟩ := rowA_get C i hi
  have e1 : (⟨(a.add (i * 4)).block, (a.add (i * 4)).off + 1, none⟩ : Addr) = a.add (i * 4 + 1) := by rw [← add_add]; rfl
  have e2 : (⟨(a.add (i * 4)).block, (a.add (i * 4)).off + 2, none⟩ : Addr) = a.add (i * 4 + 2) := by rw [← add_add]; rfl
  have e3 : (⟨(a.add (i * 4)).block, (a.add (i * 4)).off + 3, none⟩ : Addr) = a.add (i * 4 + 3) := by rw [← add_add]; rfl
  refine ⟨a, rfl, hb, fun w' hw => ⟨(hw.cell (by rw [add_block]; exact hb)).trans (hc _ _ h1), ?_, ?_, ?_⟩⟩
  · rw [e1]; exact (hw.cell (by rw [add_block]; exact hb)).trans (hc _ _ h2)
  · rw [e2]; exact (hw.cell (by rw [add_block]; exact hb)).trans (hc _ _ h3)
  · rw [e3]; exact (hw.cell (by rw [add_block]; exact hb)).trans (hc _ _ h4)
end Go.Proofs.YthpendoblgndcaaDoor
/- A slice of the law's calls that came in. No condition. -/
namespace Go.Proofs.YthpendoblgndcaaDoor
open Go.ChangeShapes Go.WideShapes Go.ChangeAt Go.RowKit Go.ChangeMaps Go.Deep Go.Joins
set_option maxRecDepth 100000 in
theorem open_actF {H : Type} {enc : TypeId × Value → H} {w : World} {base fuel : Nat} {held : Bool} {cs : List Value} {y : DataW H × List MemPlace}
    (hf : DataW.trod enc Tryd.prog w base (fun _ => true) held fuel 46 cs = some y) :
    ∃ e : ActE, cs = actC e ∧ Bs w e.2.2.2.1 e.2.2.2.2 := by
  obtain ⟨y0, y1, y2, y3, n, hy, hl, h0, h1, h2, h3⟩ := trod_struct4 Tryd.underlying46 hf
  have hc4 : Tryd.prog.cellsOf 46 = 4 := by kernel_rfl
  have hcs : Tryd.prog.cellsOf 9 = 1 := by kernel_rfl
  have hci : Tryd.prog.cellsOf 3 = 1 := by kernel_rfl
  have hcu : Tryd.prog.cellsOf 30 = 1 := by kernel_rfl
  match cs, hl.trans hc4 with
  | [c0, c1, c2, c3], _ =>
    have g0 : DataW.trod enc Tryd.prog w base (fun _ => true) held n 3 [c0] = some y0 := by simpa [hci] using h0
    have g1 : DataW.trod enc Tryd.prog w base (fun _ => true) held n 9 [c1] = some y1 := by simpa [hci, hcs] using h1
    have g2 : DataW.trod enc Tryd.prog w base (fun _ => true) held n 9 [c2] = some y2 := by simpa [hci, hcs] using h2
    have g3 : DataW.trod enc Tryd.prog w base (fun _ => true) held n 30 [c3] = some y3 := by simpa [hci, hcs, hcu] using h3
    obtain ⟨k, e0, _, _⟩ := DataW.trod_int Tryd.underlying3 g0
    obtain ⟨s, e1, _, _⟩ := DataW.trod_string Tryd.underlying9 g1
    obtain ⟨t, e2, _, _⟩ := DataW.trod_string Tryd.underlying9 g2
    obtain ⟨b, hb, _, _⟩ := open_bytesF g3
    obtain rfl : c0 = .int .i64 k := by simpa using e0
    obtain rfl : c1 = .string s := by simpa using e1
    obtain rfl : c2 = .string t := by simpa using e2
    exact ⟨(k, s, t, c3, b), rfl, hb⟩
set_option maxRecDepth 100000 in
theorem open_acts {H : Type} {enc : TypeId × Value → H} {w : World} {base b0 : Nat} {held : Bool} {r : Reach} {v : Value} {d : DataW H} {ps : List MemPlace}
    (hval : Value.okWide Tryd.prog w r b0 42 v) (h : DataW.Trod enc Tryd.prog w base (fun _ => true) held 42 v d ps) :
    ∃ (C : List ActE) (q : Option Addr) (c : Nat), v = .slice q C.length c ∧ Sees w w.heap.size q (rowA C) ∧ ∀ a ∈ C, Bs w a.2.2.2.1 a.2.2.2.2 := by
  obtain ⟨a0, len0, cap0, rfl⟩ := okWide_slice Tryd.underlying42 hval
  obtain ⟨fuel, hf⟩ := h
  have hc4 : Tryd.prog.cellsOf 46 = 4 := by kernel_rfl
  rcases open_slice Tryd.underlying42 hf with ⟨hcs, _⟩ | ⟨a, len, cap, m, n, D, Pl, hcs, hbk, hl, hm, hmm, hx, hel⟩
  · simp [Value.cells] at hcs
    obtain ⟨rfl, rfl, rfl⟩ := hcs
    exact ⟨[], none, 0, rfl, Sees.nil _ _ _, (fun _ hx => nomatch hx)⟩
  · simp [Value.cells] at hcs
    obtain ⟨rfl, rfl, rfl⟩ := hcs
    have hmc : m = cap0 := by rw [hmm]; rfl
    have key : ∀ i, i < len0 → ∃ e : ActE, (∀ j, j < 4 → w.cell? (a.add (i * 4 + j)) = (actC e)[j]?) ∧ Bs w e.2.2.2.1 e.2.2.2.2 := fun i hi => by
      obtain ⟨cs', h1, h2⟩ := hel i (by omega)
      obtain ⟨e, rfl, hb⟩ := open_actF h2
      rw [hc4] at h1
      obtain ⟨_, _, h5⟩ := World.cells?_some h1
      exact ⟨e, fun j hj => by rw [← add_add]; exact h5 j hj, hb⟩
    have ⟨f, hfk⟩ : ∃ f : Nat → ActE, ∀ i, i < len0 → (∀ j, j < 4 → w.cell? (a.add (i * 4 + j)) = (actC (f i))[j]?) ∧ Bs w (f i).2.2.2.1 (f i).2.2.2.2 := by
      refine ⟨fun i => if h : i < len0 then Classical.choose (key i h) else (0, ⟨#[]⟩, ⟨#[]⟩, .slice none 0 0, []), fun i hi => ?_⟩
      simp only [dif_pos hi]
      exact Classical.choose_spec (key i hi)
    have hlen : ((List.range len0).map f).length = len0 := by simp
    have hmem : ∀ e ∈ (List.range len0).map f, ∃ i, i < len0 ∧ e = f i := fun e he => by
      obtain ⟨i, hi, rfl⟩ := List.mem_map.1 he
      exact ⟨i, List.mem_range.1 hi, rfl⟩
    refine ⟨(List.range len0).map f, some a, cap0, by rw [hlen], fun h0 => ?_, fun e he => ?_⟩
    · rw [rowA_len, hlen] at h0
      have hp : 0 < len0 := by omega
      have hc0 : w.cell? (a.add 0) = some (.int .i64 (f 0).1) := by have := (hfk 0 hp).1 0 (by omega); simpa [actC] using this
      refine ⟨a, rfl, by have := cell_lt hc0; rwa [add_block] at this, fun j u hu => ?_⟩
      have hj := (List.getElem?_eq_some_iff.1 hu).1
      rw [rowA_len, hlen] at hj
      have hi : j / 4 < len0 := by omega
      have hcc := (hfk (j / 4) hi).1 (j % 4) (by omega)
      rw [show j / 4 * 4 + j % 4 = j by omega] at hcc
      rw [hcc, ← hu]
      obtain ⟨r1, r2, r3, r4⟩ := rowA_get ((List.range len0).map f) (j / 4) (by rw [hlen]; exact hi)
      have hg : ((List.range len0).map f)[j / 4]'(by rw [hlen]; exact hi) = f (j / 4) := by simp
      rw [hg] at r1 r2 r3 r4
      have h4 : j % 4 = 0 ∨ j % 4 = 1 ∨ j % 4 = 2 ∨ j % 4 = 3 := by omega
      rcases h4 with h | h | h | h
      · rw [show j / 4 * 4 = j by omega] at r1; rw [h, r1]; rfl
      · rw [show j / 4 * 4 + 1 = j by omega] at r2; rw [h, r2]; rfl
      · rw [show j / 4 * 4 + 2 = j by omega] at r3; rw [h, r3]; rfl
      · rw [show j / 4 * 4 + 3 = j by omega] at r4; rw [h, r4]; rfl
    · obtain ⟨i, hi, rfl⟩ := hmem e he
      exact (hfk i hi).2
end Go.Proofs.YthpendoblgndcaaDoor
