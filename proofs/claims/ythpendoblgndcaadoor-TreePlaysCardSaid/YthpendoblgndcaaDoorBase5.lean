/- Contract: the document's own Kids. Conditions: at most 50000 entries, paths of at most 2^20 bytes, all bytes together at most 2^61. -/
import Derived.Test.YthpendoblgndcaaDoorBase3
import Derived.Test.YthpendoblgndcaaDoorBase4
import Derived.Test.YthpendoblgndcaaDoorBase2
import Derived.Test.YthpendoblgndcaaDoorBase1
import Derived.Test.YthpendoblgndcaaDoorRows
import Derived.Lay
import Derived.ProofKit
import Derived.LaidMore
import Derived.OpenShut
import Derived.SliceStrings
import Derived.ChangeMaps5
import Derived.Below
namespace Go.Proofs.YthpendoblgndcaaDoor
open Go.RowKit Go.Sort
def inT (C : List Ent) (p : Tx) : List Tx := (C.filter fun e => upV e.pa == p).map Ent.pa
def kidsT (C : List Ent) (p : Tx) : List Tx := if goodT C = true then inT C p else []
set_option maxHeartbeats 4000000 in
set_option maxRecDepth 100000 in
theorem rkids_any (C : List Ent) (q : Option Addr) (c : Nat) (p : ByteArray) (hm : C.length ≤ 50000) (hb : bytesT C ≤ 2305843009213693952) (hn : ∀ e ∈ C, e.1.size ≤ 1048576) (w : World) (hs : Sees w w.heap.size q (rowC C)) (hE : Ents w C) :
    Calls Tryd.prog 28 #[.slice q C.length c, .string p] w fun e w' => (∃ v, e = .returned v ∧ Ts w' v (kidsT C p.data.toList)) ∧ Below w.heap.size w w' := by
  have HS := Lib.hid hs
  have HE := Lib.hid hE
  have HN := Lib.hid hn
  have HGT := Lib.hid (fun w1 h1 h2 => rgt_any C q c (by omega) (by omega) hn w1 h1 h2)
  have HNIL := Lib.hid (World.ownsRow_nil w w.heap.size 9 1)
  clear hs hE hn
  unfold kidsT
  generalize goodT C = G at *
  go_enter Tryd.func28, Tryd.ntmps28
  go_wp2_with fail
  go_loopw [5, 6, 7, 8] (fun v vi _ _ wr => ∃ i : Nat, i ≤ C.length ∧ vi = .int .i64 i ∧ (G = false → i = 0) ∧ wr.ownsRow w.heap.size 9 1 v ((inT (C.take i) p.data.toList).map encStr).length ((inT (C.take i) p.data.toList).map encStr) ∧ Below w.heap.size w wr) (fun _ vi _ _ _ => C.length - (intOf vi).toNat)
  case atStart => exact ⟨0, by omega, rfl, fun _ => rfl, HNIL.out, Below.refl _ _⟩
  case round =>
    rename_i wr
    obtain ⟨i, hi, rfl, hg0, hrow, hB⟩ := hrel
    have HROW := Lib.hid hrow
    have HB := Lib.hid hB
    have HG0 := Lib.hid hg0
    clear hrow hB hg0
    by_cases hlt : i < C.length
    · have kk : (i : Int) < (C.length : Int) := by omega
      go_wp2_with fail
      refine (HGT.out _ ((HS.out.keep HB.out).more HB.out.size) (HE.out.keep HB.out)).mono ?_
      rintro e w1 ⟨rfl, hb1⟩
      replace HROW := Lib.hid (own_below7 HROW.out hb1)
      replace HB := Lib.hid (HB.out.trans (hb1.mono HB.out.size))
      clear hb1
      cases G with
      | false =>
        have h0 : i = 0 := HG0.out rfl
        have HTR : Hid (Ts w1 _ []) := Lib.hid (Ts.own (L := []) (by have h := HROW.out; rw [h0] at h; exact h))
        clear h0 HROW HG0
        go_wp2_with fail
        go_ret
        first | exact ⟨⟨_, rfl, HTR.out⟩, HB.out⟩ | exact ⟨HTR.out, HB.out⟩
      | true =>
        obtain ⟨a, rfl, ha, hc⟩ := HS.out.ent hlt
        have HCX : Hid (∀ w', Below w.heap.size w w' → w'.cell? (a.add (i * 3)) = some (.string C[i].1)) := Lib.hid (fun w' h => (hc w' h).1)
        have hsz := HN.out C[i] (List.getElem_mem hlt)
        have hgl : ((inT (C.take i) p.data.toList).map encStr).length ≤ 1000000 := by
          unfold inT
          rw [List.length_map, List.length_map]
          have h1 := List.length_filter_le (fun e : Ent => upV e.pa == p.data.toList) (C.take i)
          have h2 : (C.take i).length ≤ i := List.length_take_le _ _
          omega
        have HLEN := Lib.hid hgl
        have htk : inT (C.take (i + 1)) p.data.toList = inT (C.take i) p.data.toList ++ (if (upV C[i].pa == p.data.toList) = true then [C[i].pa] else []) := by
          unfold inT
          rw [List.take_add_one, List.getElem?_eq_getElem hlt, List.filter_append, List.map_append]
          cases hk : (upV C[i].pa == p.data.toList) <;> simp [hk]
        have HTK := Lib.hid htk
        have hpa : C[i].pa = C[i].1.data.toList := rfl
        rw [hpa] at HTK
        clear hc ha htk hpa hgl
        generalize C[i].1 = x at *
        have HU := Lib.hid (fun w2 => rup_any x hsz w2)
        obtain ⟨U, hU⟩ : ∃ U : ByteArray, (⟨(upV x.data.toList).toArray⟩ : ByteArray) = U := ⟨_, rfl⟩
        have hUt : upV x.data.toList = U.data.toList := by rw [← hU]
        rw [hU] at HU
        rw [hUt] at HTK
        have hlu : U.toList = U.data.toList := Lib.toList_data U
        have hlp : p.toList = p.data.toList := Lib.toList_data p
        have c1 := HCX.out w1 HB.out
        generalize okPath x.data.toList = G2 at *
        clear hU hUt hsz
        go_wp2_with fail
        refine (HU.out _).mono ?_
        rintro e w2 ⟨rfl, hb2⟩
        replace HROW := Lib.hid (own_below7 HROW.out hb2)
        replace HB := Lib.hid (HB.out.trans (hb2.mono HB.out.size))
        clear hb2 c1
        have c1 := HCX.out w2 HB.out
        cases hup : (U.data.toList == p.data.toList) with
        | true =>
          have HNX : Hid (inT (C.take (i + 1)) p.data.toList = inT (C.take i) p.data.toList ++ [x.data.toList]) := Lib.hid (by rw [HTK.out, if_pos hup])
          go_wp2_with (refine wp_addT rfl (.tmp 31) (.tmp 37) rfl (base := w.heap.size) (HROW.out.alloc (.cells #[.string x] 9)) (by have := HB.out.size; simp; omega) rfl w2.heap.size (.string x) rfl (by simp) rfl HLEN.out ?_; intro v3 w3 ho3 hb3; have HROW2 := Lib.hid ho3; have HB5 := Lib.hid hb3; clear ho3 hb3 HROW)
          go_roundw
          case rel =>
            have hrow := HROW2.out
            rw [show (inT (C.take i) p.data.toList).map encStr ++ [.string x] = (inT (C.take i) p.data.toList ++ [x.data.toList]).map encStr by rw [List.map_append]; rfl, ← HNX.out] at hrow
            exact ⟨i + 1, by omega, by go_num, (fun h => by cases h), hrow, (HB.out.alloc HB.out.size _).trans HB5.out⟩
          case measure => simp [intOf]; omega
        | false =>
          have HNX : Hid (inT (C.take (i + 1)) p.data.toList = inT (C.take i) p.data.toList) := Lib.hid (by rw [HTK.out, if_neg (by rw [hup]; simp), List.append_nil])
          go_wp2_with fail
          go_roundw
          case rel => exact ⟨i + 1, by omega, by go_num, (fun h => by cases h), by rw [HNX.out]; exact HROW.out, HB.out⟩
          case measure => simp [intOf]; omega
    · have hil : i = C.length := by omega
      subst hil
      have k0 : ¬ (C.length : Int) < (C.length : Int) := by omega
      have hfin : inT (C.take C.length) p.data.toList = if G = true then inT C p.data.toList else [] := by
        cases G with
        | true => rw [List.take_length, if_pos rfl]
        | false =>
          have h0 := HG0.out rfl
          have hc0 : C = [] := List.eq_nil_of_length_eq_zero h0
          subst hc0; rfl
      have HTR := Lib.hid (Ts.own HROW.out)
      rw [hfin] at HTR
      clear hlt HROW hfin
      cases G with
      | true =>
        rw [if_pos rfl] at HTR
        go_wp2_with fail
        go_ret
        first | exact ⟨⟨_, rfl, HTR.out⟩, HB.out⟩ | exact ⟨HTR.out, HB.out⟩
      | false =>
        rw [if_neg (by simp)] at HTR
        go_wp2_with fail
        go_ret
        first | exact ⟨⟨_, rfl, HTR.out⟩, HB.out⟩ | exact ⟨HTR.out, HB.out⟩
end Go.Proofs.YthpendoblgndcaaDoor
/- Contract: package tree's Kids. Conditions: at most 50000 entries, all bytes together at most 2^62, paths shorter than 2^63 bytes. -/
namespace Go.Proofs.YthpendoblgndcaaDoor
open Go.RowKit Go.Sort
theorem goodQ_all : ∀ (C pre : List Ent), goodQ pre C = true → ∀ e ∈ C, okEnt e = true
  | [], _, _, _, h => by cases h
  | x :: C, pre, hg, e, he => by
    rw [goodQ, Bool.and_eq_true, Bool.and_eq_true, Bool.and_eq_true] at hg
    rcases List.mem_cons.1 he with rfl | he
    · exact hg.1
    · exact goodQ_all C _ hg.2.2.2 e he
theorem goodP_ok {C : List Ent} (h : goodP C = true) : ∀ e ∈ C, okPath e.pa = true := fun e he => by
  unfold goodP at h
  rw [Bool.and_eq_true] at h
  have := goodQ_all C [] h.2 e he
  unfold okEnt at this
  rw [Bool.and_eq_true, Bool.and_eq_true] at this
  exact this.2.1
def kidsP (C : List Ent) (p : Tx) : List Tx := if goodP C = true then inT C p else []
set_option maxHeartbeats 4000000 in
set_option maxRecDepth 100000 in
theorem tkids_any (C : List Ent) (q : Option Addr) (c : Nat) (p : ByteArray) (hm : C.length ≤ 50000) (hcap : C.length ≤ c) (hb : bytesT C ≤ 4611686018427387904) (hn : ∀ e ∈ C, e.1.size < 9223372036854775808) (w : World) (hs : Sees w w.heap.size q (rowC C)) (hE : Ents w C) :
    Calls Tryd.prog 18 #[.agg #[.slice q C.length c], .string p] w fun e w' => (∃ v, e = .returned v ∧ Ts w' v (kidsP C p.data.toList)) ∧ Below w.heap.size w w' := by
  have HS := Lib.hid hs
  have HE := Lib.hid hE
  have HGO : Hid (goodP C = true → ∀ e ∈ C, e.1.size < 2305843009213693952) := Lib.hid (fun h e he => by have := ok_size (p := e.1) (goodP_ok h e he); omega)
  have HG := Lib.hid (fun w1 (h : Below w.heap.size w w1) => tgood_any C q c (by omega) hcap hb hn w1 ((hs.keep h).more h.size) (hE.keep h))
  have HNIL := Lib.hid (World.ownsRow_nil w w.heap.size 9 1)
  have HB : Hid (Below w.heap.size w (w.alloc (.cells #[.slice q C.length c] 25))) := Lib.hid ((Below.refl _ _).alloc (Nat.le_refl _) _)
  have HX : Hid (Has (w.alloc (.cells #[.slice q C.length c] 25)) w.heap.size 25 [.slice q C.length c]) := Lib.hid (Has.made w _ _)
  clear hs hE hn
  unfold kidsP
  generalize goodP C = G at *
  go_enter Tryd.func18, Tryd.ntmps18
  go_wp2_with fail
  refine (HG.out _ HB.out).mono ?_
  rintro e w1 ⟨rfl, hb1⟩
  replace HB := Lib.hid (HB.out.trans (hb1.mono HB.out.size))
  replace HX := Lib.hid (HX.out.keep hb1 HX.out.lt)
  clear hb1
  cases G with
  | false =>
    have HTR : Hid (Ts w1 (.slice none 0 0) []) := Lib.hid (Ts.own (L := []) (by exact World.ownsRow_nil w1 w1.heap.size 9 1))
    go_wp2_with fail
    go_ret
    first | exact ⟨⟨_, rfl, HTR.out⟩, HB.out⟩ | exact ⟨HTR.out, HB.out⟩
  | true =>
    have HN := Lib.hid (HGO.out rfl)
    have cx := HX.out.cellv (i := 0) (v := .slice q C.length c) rfl
    clear HGO
    go_wp2_with fail
    clear cx HX
    go_loopw [5, 7, 8, 9, 16] (fun v _ _ _ vi wr => ∃ i : Nat, i ≤ C.length ∧ vi = .int .i64 i ∧ wr.ownsRow w.heap.size 9 1 v ((inT (C.take i) p.data.toList).map encStr).length ((inT (C.take i) p.data.toList).map encStr) ∧ Below w.heap.size w wr) (fun _ _ _ _ vi _ => C.length - (intOf vi).toNat)
    case atStart => exact ⟨0, by omega, rfl, World.ownsRow_nil _ _ _ _, HB.out⟩
    case round =>
      rename_i wr
      clear HB
      obtain ⟨i, hi, rfl, hrow, hB⟩ := hrel
      have HROW := Lib.hid hrow
      have HB := Lib.hid hB
      clear hrow hB
      by_cases hlt : i < C.length
      · have kk : (i : Int) < (C.length : Int) := by omega
        obtain ⟨a, rfl, ha, hc⟩ := HS.out.ent hlt
        obtain ⟨c1, c2, c3⟩ := hc wr HB.out
        obtain ⟨qb, cb, hv, _, _, _⟩ := HE.out C[i] (List.getElem_mem hlt)
        have hv2 : C[i].2.2.1 = .slice qb C[i].2.2.2.length cb := hv
        rw [hv2] at c3
        have hsz := HN.out C[i] (List.getElem_mem hlt)
        have hgl : ((inT (C.take i) p.data.toList).map encStr).length ≤ 1000000 := by
          unfold inT
          rw [List.length_map, List.length_map]
          have h1 := List.length_filter_le (fun e : Ent => upV e.pa == p.data.toList) (C.take i)
          have h2 : (C.take i).length ≤ i := List.length_take_le _ _
          omega
        have HLEN := Lib.hid hgl
        have htk : inT (C.take (i + 1)) p.data.toList = inT (C.take i) p.data.toList ++ (if (upV C[i].pa == p.data.toList) = true then [C[i].pa] else []) := by
          unfold inT
          rw [List.take_add_one, List.getElem?_eq_getElem hlt, List.filter_append, List.map_append]
          cases hk : (upV C[i].pa == p.data.toList) <;> simp [hk]
        have HTK := Lib.hid htk
        have hpa : C[i].pa = C[i].1.data.toList := rfl
        rw [hpa] at HTK
        clear hc ha htk hpa hgl hv hv2
        generalize C[i].1 = x at *
        generalize C[i].2.1 = d at *
        generalize C[i].2.2.2.length = nb at *
        have HU := Lib.hid (fun w2 => up_any x hsz w2)
        obtain ⟨U, hU⟩ : ∃ U : ByteArray, (⟨(upV x.data.toList).toArray⟩ : ByteArray) = U := ⟨_, rfl⟩
        have hUt : upV x.data.toList = U.data.toList := by rw [← hU]
        rw [hU] at HU
        rw [hUt] at HTK
        have hlu : U.toList = U.data.toList := Lib.toList_data U
        have hlp : p.toList = p.data.toList := Lib.toList_data p
        generalize okPath x.data.toList = G2 at *
        clear hU hUt hsz
        go_wp2_with fail
        refine (HU.out _).mono ?_
        rintro e w2 ⟨rfl, hb2⟩
        have q0 := (boxed hb2).cellv (i := 0) (v := .string x) rfl
        have hba : Below wr.heap.size wr w2 := ((Below.refl _ wr).alloc (Nat.le_refl _) _).trans (hb2.mono (by simp))
        replace HROW := Lib.hid (own_below7 HROW.out hba)
        replace HB := Lib.hid (HB.out.trans (hba.mono HB.out.size))
        generalize wr.heap.size = BX at *
        clear hb2 c1 c2 c3 hba
        cases hup : (U.data.toList == p.data.toList) with
        | true =>
          have HNX : Hid (inT (C.take (i + 1)) p.data.toList = inT (C.take i) p.data.toList ++ [x.data.toList]) := Lib.hid (by rw [HTK.out, if_pos hup])
          go_wp2_with (refine wp_addT rfl (.tmp 29) (.tmp 32) rfl (base := w.heap.size) (HROW.out.alloc (.cells #[.string x] 9)) (by have := HB.out.size; simp; omega) rfl w2.heap.size (.string x) rfl (by simp) rfl HLEN.out ?_; intro v3 w3 ho3 hb3; have HROW2 := Lib.hid ho3; have HB5 := Lib.hid hb3; clear ho3 hb3 HROW)
          go_roundw
          case rel =>
            have hrow := HROW2.out
            rw [show (inT (C.take i) p.data.toList).map encStr ++ [.string x] = (inT (C.take i) p.data.toList ++ [x.data.toList]).map encStr by rw [List.map_append]; rfl, ← HNX.out] at hrow
            exact ⟨i + 1, by omega, by go_num, hrow, (HB.out.alloc HB.out.size _).trans HB5.out⟩
          case measure => simp [intOf]; omega
        | false =>
          have HNX : Hid (inT (C.take (i + 1)) p.data.toList = inT (C.take i) p.data.toList) := Lib.hid (by rw [HTK.out, if_neg (by rw [hup]; simp), List.append_nil])
          go_wp2_with fail
          go_roundw
          case rel => exact ⟨i + 1, by omega, by go_num, by rw [HNX.out]; exact HROW.out, HB.out⟩
          case measure => simp [intOf]; omega
      · have hil : i = C.length := by omega
        subst hil
        have k0 : ¬ (C.length : Int) < (C.length : Int) := by omega
        have HTR := Lib.hid (Ts.own HROW.out)
        rw [List.take_length] at HTR
        clear hlt HROW
        go_wp2_with fail
        go_ret
        first | exact ⟨⟨_, rfl, HTR.out⟩, HB.out⟩ | exact ⟨HTR.out, HB.out⟩
end Go.Proofs.YthpendoblgndcaaDoor
/- Contracts: package tree's asked. Conditions: at most 1000 entries, all bytes together at most 2^62, paths shorter than 2^63 bytes. -/
namespace Go.Proofs.YthpendoblgndcaaDoor
open Go.RowKit
def askT (C : List Ent) (L : List ByteArray) : Int := if goodP C = false then 1 else if (L.all fun p => okPath p.data.toList) = true then 0 else 4
set_option maxHeartbeats 4000000 in
set_option maxRecDepth 100000 in
theorem tasked_any (C : List Ent) (q : Option Addr) (c : Nat) (L : List ByteArray) (q2 : Option Addr) (c2 : Nat) (hm : C.length ≤ 1000) (hcap : C.length ≤ c) (hb : bytesT C ≤ 4611686018427387904) (hn : ∀ e ∈ C, e.1.size < 9223372036854775808) (hL : L.length ≤ 10) (hLn : ∀ p ∈ L, p.size < 9223372036854775808)
    (w : World) (hs : Sees w w.heap.size q (rowC C)) (hE : Ents w C) (ht : Sees w w.heap.size q2 (L.map Value.string)) :
    Calls Tryd.prog 32 #[.agg #[.slice q C.length c], .slice q2 L.length c2] w fun e w' => e = .returned (.int .i64 (askT C L)) ∧ Below w.heap.size w w' := by
  have HG := Lib.hid (fun w1 (h : Below w.heap.size w w1) => tgood_any C q c (by omega) hcap hb hn w1 ((hs.keep h).more h.size) (hE.keep h))
  have HT := Lib.hid ht
  have HN := Lib.hid hLn
  have HB : Hid (Below w.heap.size w (w.alloc (.cells #[.slice q C.length c] 25))) := Lib.hid ((Below.refl _ _).alloc (Nat.le_refl _) _)
  obtain ⟨V, hV⟩ : ∃ V, askT C L = V := ⟨_, rfl⟩
  rw [hV]
  unfold askT at hV
  have HV := Lib.hid hV
  clear hs hE ht hLn hn hV
  generalize goodP C = GC at *
  go_enter Tryd.func32, Tryd.ntmps32
  go_wp2_with fail
  refine (HG.out _ HB.out).mono ?_
  rintro e w1 ⟨rfl, hb⟩
  replace HB := Lib.hid (HB.out.trans (hb.mono HB.out.size))
  clear hb
  cases GC with
  | false =>
    have hv : V = 1 := HV.out.symm
    subst hv
    go_wp2_with fail
    go_ret
    exact ⟨rfl, HB.out⟩
  | true =>
    have HV2 : Hid ((if ((L.drop 0).all fun p => okPath p.data.toList) = true then (0 : Int) else 4) = V) := Lib.hid HV.out
    clear HV
    go_wp2_with fail
    go_loopw [6, 12] (fun _ vi wr => ∃ i : Nat, i ≤ L.length ∧ vi = .int .i64 i ∧ ((if ((L.drop i).all fun p => okPath p.data.toList) = true then (0 : Int) else 4) = V) ∧ Below w.heap.size w wr) (fun _ vi _ => L.length - (intOf vi).toNat)
    case atStart => exact ⟨0, by omega, rfl, HV2.out, HB.out⟩
    case round =>
      rename_i wr
      clear HB HV2
      obtain ⟨i, hi, rfl, hv, hB⟩ := hrel
      have HB := Lib.hid hB
      clear hB
      by_cases hlt : i < L.length
      · have kk : (i : Int) < (L.length : Int) := by omega
        obtain ⟨a, rfl, ha, hc⟩ := HT.out.get (by rw [List.length_map]; omega)
        have c1 : wr.cell? (a.add i) = some (.string L[i]) := (HB.out.cell (by rw [add_block]; exact ha)).trans (hc i _ (by rw [List.getElem?_map, List.getElem?_eq_getElem hlt]; rfl))
        have hsz := HN.out L[i] (List.getElem_mem hlt)
        rw [List.drop_eq_getElem_cons hlt, List.all_cons] at hv
        have HC := Lib.hid (fun w1 => good_any L[i] hsz w1)
        clear hc ha hsz
        generalize L[i] = x at *
        generalize okPath x.data.toList = OK at *
        cases OK with
        | true =>
          have HV2 : Hid ((if ((L.drop (i + 1)).all fun p => okPath p.data.toList) = true then (0 : Int) else 4) = V) := Lib.hid (by rw [Bool.true_and] at hv; exact hv)
          clear hv
          go_wp2_with (first | ((with_reducible refine (HC.out _).mono ?_); rintro e w2 ⟨rfl, hb2⟩; replace HB := Lib.hid (HB.out.trans (hb2.mono HB.out.size)); clear hb2))
          go_roundw
          case rel => exact ⟨i + 1, by omega, by go_num, HV2.out, HB.out⟩
          case measure => simp [intOf]; omega
        | false =>
          have hv' : V = 4 := hv.symm
          subst hv'
          clear hv
          go_wp2_with (first | ((with_reducible refine (HC.out _).mono ?_); rintro e w2 ⟨rfl, hb2⟩; replace HB := Lib.hid (HB.out.trans (hb2.mono HB.out.size)); clear hb2))
          go_ret
          exact ⟨rfl, HB.out⟩
      · have hil : i = L.length := by omega
        subst hil
        have k0 : ¬ (L.length : Int) < (L.length : Int) := by omega
        have hv' : V = 0 := by rw [← hv, List.drop_length]; rfl
        subst hv'
        clear hlt hv
        go_wp2_with fail
        go_ret
        exact ⟨rfl, HB.out⟩
end Go.Proofs.YthpendoblgndcaaDoor
/- Contract: package tree's find. Conditions: at most 1000 entries, all bytes together at most 2^62, paths shorter than 2^63 bytes. -/
namespace Go.Proofs.YthpendoblgndcaaDoor
open Go.RowKit
theorem goodQ_asc : ∀ (C pre : List Ent), goodQ pre C = true → AscE pre → AscE (pre ++ C)
  | [], pre, _, h => by rw [List.append_nil]; exact h
  | x :: C, pre, hg, h => by
    rw [goodQ, Bool.and_eq_true, Bool.and_eq_true, Bool.and_eq_true] at hg
    have := goodQ_asc C (pre ++ [x]) hg.2.2.2 (h.snoc hg.2.1)
    rwa [List.append_assoc] at this
theorem goodP_asc {C : List Ent} (h : goodP C = true) : AscE C := by
  unfold goodP at h
  rw [Bool.and_eq_true] at h
  exact goodQ_asc C [] h.2 List.Pairwise.nil
theorem askT_good {C : List Ent} {L : List ByteArray} (h : askT C L = 0) : goodP C = true ∧ ∀ p ∈ L, okPath p.data.toList = true := by
  unfold askT at h
  cases hg : goodP C with
  | false => rw [hg] at h; simp at h
  | true =>
    rw [hg] at h
    cases ha : L.all fun p => okPath p.data.toList with
    | false => rw [ha] at h; simp at h
    | true => exact ⟨rfl, fun p hp => List.all_eq_true.1 ha p hp⟩
def findP (C : List Ent) (p : ByteArray) : Nat × Int := if askT C [p] ≠ 0 then (0, askT C [p]) else if hasT C p.data.toList = true then (posT C p.data.toList, 0) else (0, 5)
theorem has_sees {w : World} {g : Nat} {t : TypeId} {l : List Value} (h : Has w g t l) : Sees w w.heap.size (some ⟨g, 0, none⟩) l := fun _ =>
  ⟨_, rfl, h.lt, fun j u hu => by
    have e2 : (Addr.add ⟨g, 0, none⟩ j) = ⟨g, j, none⟩ := by unfold Addr.add; split <;> simp_all
    rw [e2]
    exact h.cellv hu⟩
set_option maxHeartbeats 4000000 in
set_option maxRecDepth 100000 in
theorem tfind_any (C : List Ent) (q : Option Addr) (c : Nat) (p : ByteArray) (hm : C.length ≤ 1000) (hcap : C.length ≤ c) (hb : bytesT C ≤ 4611686018427387904) (hn : ∀ e ∈ C, e.1.size < 9223372036854775808) (hp : p.size < 9223372036854775808)
    (w : World) (hs : Sees w w.heap.size q (rowC C)) (hE : Ents w C) :
    Calls Tryd.prog 39 #[.agg #[.slice q C.length c], .string p] w fun e w' => e = .returned (.tuple #[.int .i64 ((findP C p).1 : Int), .int .i64 (findP C p).2]) ∧ Below w.heap.size w w' := by
  have HAK : Hid (∀ w1 (_ : Below w.heap.size w w1) q2 (_ : Sees w1 w1.heap.size q2 ([p].map Value.string)), Calls Tryd.prog 32 #[.agg #[.slice q C.length c], .slice q2 1 1] w1 fun e w' => e = .returned (.int .i64 (askT C [p])) ∧ Below w1.heap.size w1 w') :=
    Lib.hid (fun w1 h q2 h2 => tasked_any C q c [p] q2 1 hm hcap hb hn (by simp) (by simpa using hp) w1 ((hs.keep h).more h.size) (hE.keep h) h2)
  have HWH : Hid (goodP C = true → ∀ w1 (_ : Below w.heap.size w w1), Calls Tryd.prog 33 #[.slice q C.length c, .string p] w1 fun e w' => e = .returned (.tuple #[.int .i64 (posT C p.data.toList : Int), .bool (hasT C p.data.toList)]) ∧ Below w1.heap.size w1 w') :=
    Lib.hid (fun hg w1 h => twhere_any C q c p (by omega) hn hp ((goodP_asc hg).up _) w1 ((hs.keep h).more h.size))
  have HB : Hid (Below w.heap.size w (w.alloc (.cells #[.slice q C.length c] 25))) := Lib.hid ((Below.refl _ _).alloc (Nat.le_refl _) _)
  have HX : Hid (Has (w.alloc (.cells #[.slice q C.length c] 25)) w.heap.size 25 [.slice q C.length c]) := Lib.hid (Has.made w _ _)
  have HS1 : Hid (Sees ((w.alloc (.cells #[.slice q C.length c] 25)).alloc (.cells #[.string p] 9)) ((w.alloc (.cells #[.slice q C.length c] 25)).alloc (.cells #[.string p] 9)).heap.size (some ⟨w.heap.size + 1, 0, none⟩) ([p].map Value.string)) := Lib.hid (has_sees (Has.made1 w _ 9 #[.string p] _ rfl))
  obtain ⟨V, hV⟩ : ∃ V, findP C p = V := ⟨_, rfl⟩
  rw [hV]
  unfold findP at hV
  have HV := Lib.hid hV
  have HGD : Hid (askT C [p] = 0 → goodP C = true) := Lib.hid (fun h => (askT_good h).1)
  clear hs hE hn hV
  generalize askT C [p] = A at *
  generalize hasT C p.data.toList = H at *
  generalize posT C p.data.toList = PS at *
  go_enter Tryd.func39, Tryd.ntmps39
  go_wp2_with fail
  refine (HAK.out _ (HB.out.alloc HB.out.size _) _ HS1.out).mono ?_
  rintro e w1 ⟨rfl, hb⟩
  replace HX := Lib.hid ((HX.out.alloc _).keep hb (HX.out.alloc _).lt)
  replace HB := Lib.hid ((HB.out.alloc HB.out.size _).trans (hb.mono (HB.out.alloc HB.out.size _).size))
  clear hb
  by_cases hA : A = 0
  · subst hA
    have hg := HGD.out rfl
    replace HWH := Lib.hid (HWH.out hg)
    have cx := HX.out.cellv (i := 0) (v := .slice q C.length c) rfl
    clear hg HGD
    go_wp2_with fail
    refine (HWH.out _ HB.out).mono ?_
    rintro e w2 ⟨rfl, hb⟩
    replace HB := Lib.hid (HB.out.trans (hb.mono HB.out.size))
    clear hb cx
    cases H with
    | true =>
      have hv : V = (PS, 0) := by rw [← HV.out]; rfl
      subst hv
      go_wp2_with fail
      go_ret2
      exact ⟨rfl, HB.out⟩
    | false =>
      have hv : V = (0, 5) := by rw [← HV.out]; rfl
      subst hv
      go_wp2_with fail
      go_ret2
      exact ⟨rfl, HB.out⟩
  · have hv : V = (0, A) := by rw [← HV.out, if_pos hA]
    subst hv
    have kA : (A = 0) = False := eq_false hA
    have kAb : (A == 0) = false := by simpa using hA
    have kAn : (A != 0) = true := by simpa using hA
    go_wp2_with fail
    go_ret2
    exact ⟨rfl, HB.out⟩
end Go.Proofs.YthpendoblgndcaaDoor
/- Contract: package tree's within. Conditions: at most 10^5 entries, all bytes together at most 2^62. -/
namespace Go.Proofs.YthpendoblgndcaaDoor
open Go.RowKit
set_option maxHeartbeats 4000000 in
set_option maxRecDepth 100000 in
theorem twithin_any (D : List Ent) (q : Option Addr) (c : Nat) (qt : Option Addr) (nt ct : Nat) (hm : D.length ≤ 100000) (hb : bytesT D ≤ 4611686018427387904) (w : World) (hs : Sees w w.heap.size q (rowC D)) (hE : Ents w D) :
    Calls Tryd.prog 35 #[.agg #[.slice qt nt ct], .slice q D.length c] w fun e w' => e = .returned (.tuple #[.agg #[if fitsT D = true then .slice q D.length c else .slice qt nt ct], .int .i64 (if fitsT D = true then 0 else 9)]) ∧ Below w.heap.size w w' := by
  have HF := Lib.hid (fun w1 (h : Below w.heap.size w w1) => tfits_any D q c hm hb w1 ((hs.keep h).more h.size) (hE.keep h))
  have HB : Hid (Below w.heap.size w ((w.alloc (.cells #[.slice qt nt ct] 25)).alloc (.cells #[.slice none 0 0] 25))) := Lib.hid (((Below.refl _ _).alloc (Nat.le_refl _) _).alloc (by simp) _)
  have HX : Hid (Has ((w.alloc (.cells #[.slice qt nt ct] 25)).alloc (.cells #[.slice none 0 0] 25)) w.heap.size 25 [.slice qt nt ct]) := Lib.hid ((Has.made w _ _).alloc _)
  have HY : Hid (Has ((w.alloc (.cells #[.slice qt nt ct] 25)).alloc (.cells #[.slice none 0 0] 25)) (w.heap.size + 1) 25 [.slice none 0 0]) := Lib.hid (Has.made1 w _ _ _ _ rfl)
  clear hs hE
  generalize fitsT D = F at *
  go_enter Tryd.func35, Tryd.ntmps35
  go_wp2_with fail
  refine (HF.out _ HB.out).mono ?_
  rintro e w1 ⟨rfl, hb⟩
  replace HB := Lib.hid (HB.out.trans (hb.mono HB.out.size))
  replace HX := Lib.hid (HX.out.keep hb HX.out.lt)
  replace HY := Lib.hid (HY.out.keep hb HY.out.lt)
  clear hb
  have cx := HX.out.cellv (i := 0) (v := .slice qt nt ct) rfl
  have cy := HY.out.cellv (i := 0) (v := .slice none 0 0) rfl
  have fy := HY.out.free 0
  have hle : w.heap.size ≤ w.heap.size + 1 := by omega
  cases F with
  | false =>
    go_wp2_with fail
    have cz : (w1.setCell ⟨w.heap.size + 1, 0, none⟩ (.slice qt nt ct)).cell? ⟨w.heap.size + 1, 0, none⟩ = some (.slice qt nt ct) := World.cell?_setCell_same' _ _ _ (by rw [cy]; rfl)
    refine bodyPost_ret (by simp [results, Tryd.results35, go_sem, cz]; try rfl) rfl ?_
    exact ⟨rfl, HB.out.setCell (p := ⟨w.heap.size + 1, 0, none⟩) hle _⟩
  | true =>
    go_wp2_with fail
    have cz : (w1.setCell ⟨w.heap.size + 1, 0, none⟩ (.slice q D.length c)).cell? ⟨w.heap.size + 1, 0, none⟩ = some (.slice q D.length c) := World.cell?_setCell_same' _ _ _ (by rw [cy]; rfl)
    refine bodyPost_ret (by simp [results, Tryd.results35, go_sem, cz]; try rfl) rfl ?_
    exact ⟨rfl, HB.out.setCell (p := ⟨w.heap.size + 1, 0, none⟩) hle _⟩
end Go.Proofs.YthpendoblgndcaaDoor
/- Contract: bytes.Clone: a row of its own. Condition: a nil slice has no capacity. -/
namespace Go.Proofs.YthpendoblgndcaaDoor
open Go.RowKit
set_option maxHeartbeats 400000 in
theorem tbclone_any (x : List (BitVec 8)) (q : Option Addr) (c : Nat) (w : World) (hx : Sees w w.heap.size q (x.map u8v)) (hq : q = none → c = 0) (hl : x.length ≤ 140737488355328) :
    Calls Tryd.prog 40 #[.slice q x.length c] w fun e w' => (∃ v, e = .returned v ∧ w'.ownsRow w.heap.size 5 1 v x.length (x.map u8v)) ∧ Below w.heap.size w w' := by
  have HX := Lib.hid hx
  have HQ := Lib.hid hq
  have HL := Lib.hid hl
  have hn := run_eql_slice_nil (P := Tryd.prog) w 30 5 q x.length c Tryd.underlying30
  clear hx hq hl
  rcases q with _ | a
  · have hx0 : x = [] := by
      rcases x with _ | ⟨y, l⟩
      · rfl
      · obtain ⟨a, h1, _⟩ := HX.out.get (by simp)
        cases h1
    subst hx0
    simp only [Option.isNone_none, List.length_nil] at hn
    go_enter Tryd.func40, Tryd.ntmps40
    go_wp2_with fail
    go_ret
    exact ⟨⟨_, rfl, World.ownsRow_nil _ _ _ _⟩, Below.refl _ _⟩
  · simp only [Option.isNone_some] at hn
    have ho : (w.alloc (.cells #[] 5)).ownsRow w.heap.size 5 1 (.slice (some ⟨w.heap.size, 0, none⟩) 0 0) 0 [] := World.ownsRow_made w #[] 0 (Nat.le_refl _) (by unfold maxLen; omega) (by simp)
    have HO := Lib.hid ho
    have HS : Hid (Sees (w.alloc (.cells #[] 5)) w.heap.size (some a) (x.map u8v)) := Lib.hid (HX.out.keep ((Below.refl _ _).alloc (Nat.le_refl _) _))
    have HB : Hid (Below w.heap.size w (w.alloc (.cells #[] 5))) := Lib.hid ((Below.refl _ _).alloc (Nat.le_refl _) _)
    clear ho
    go_enter Tryd.func40, Tryd.ntmps40
    go_wp2_with (at_builtin; refine wpList_append_sees rfl _ _ rfl w.heap.size _ 0 [] rfl HO.out (some a) x c w.heap.size rfl HQ.out HS.out (by have := HL.out; omega) HB.out.size ?_; intro v' w' h1 h2; have H1 := Lib.hid h1; have H2 := Lib.hid (HB.out.trans h2); clear h1 h2)
    go_ret
    have h1 := H1.out
    rw [List.nil_append] at h1
    exact ⟨⟨_, rfl, by simpa using h1⟩, H2.out⟩
theorem own_off {w : World} {base n size : Nat} {e : TypeId} {v : Value} {xs : List Value} (h : w.ownsRow base e size v n xs) {g : Nat} (hg : g < base) (o : Nat) (vs : List Value) : (w.setCells g o vs).ownsRow base e size v n xs := by
  rcases h.2 with ⟨rfl, h0⟩ | ⟨g', cap, cur, rfl, hb, hg', h1, h2, h3, h4⟩
  · exact ⟨h.1, .inl ⟨rfl, h0⟩⟩
  · have hh : Has w g' e cur.toList := by unfold Has; simpa using hg'
    have h5 := Has.offMid (g := g') (g' := g) (by omega) vs o w hh
    unfold Has at h5
    exact ⟨h.1, .inr ⟨g', cap, cur, rfl, hb, by simpa using h5, h1, h2, h3, h4⟩⟩
theorem own_below1 {w w' : World} {base n : Nat} {e : TypeId} {v : Value} {xs : List Value} (h : w.ownsRow base e 1 v n xs) (hb : Below w.heap.size w w') : w'.ownsRow base e 1 v n xs := by
  rcases h.2 with ⟨rfl, h0⟩ | ⟨g', cap, cur, rfl, hb', hg', h1, h2, h3, h4⟩
  · exact ⟨h.1, .inl ⟨rfl, h0⟩⟩
  · exact ⟨h.1, .inr ⟨g', cap, cur, rfl, hb', (hb.block g' (Array.getElem?_eq_some_iff.1 hg').1).trans hg', h1, h2, h3, h4⟩⟩
end Go.Proofs.YthpendoblgndcaaDoor
/- Contract: package tree's put: into entries in order, at a path. Conditions: at most 900 entries, all bytes together at most 2^61, paths shorter than 2^61 bytes. -/
namespace Go.Proofs.YthpendoblgndcaaDoor
open Go.RowKit
theorem has_seesE {w : World} {g : Nat} {t : TypeId} {D : List Ent} {l : List Value} (h : Has w g t (rowC D ++ l)) : Sees w w.heap.size (some ⟨g, 0, none⟩) (rowC D) := by
  have h1 := (has_sees h).head (rowC D).length
  rwa [List.take_left' rfl] at h1
theorem OwnT.less {w : World} {base b : Nat} {v : Value} {C : List Ent} (h : OwnT w base v C) (hb : b ≤ base) : OwnT w b v C := by
  rcases h.has with ⟨rfl, rfl⟩ | ⟨g, cap, l, rfl, h0, hg, h1, h2, h3⟩
  · exact OwnT.nil _ _
  · exact OwnT.of (by omega) hg h1 h2 h3
/-- Bytes in a row of the call's own. -/
def OwnB (w : World) (base : Nat) (y : Ent) : Prop := w.ownsRow base 5 1 y.val y.by.length (y.by.map u8v)
theorem OwnB.less {w : World} {base b : Nat} {y : Ent} (h : OwnB w base y) (hb : b ≤ base) : OwnB w b y := by
  rcases h.2 with ⟨h1, h0⟩ | ⟨g', cap, cur, h1, hb', r⟩
  · exact ⟨h.1, .inl ⟨h1, h0⟩⟩
  · exact ⟨h.1, .inr ⟨g', cap, cur, h1, by omega, r⟩⟩
theorem OwnB.bs {w : World} {base : Nat} {y : Ent} (h : OwnB w base y) : Bs w y.val y.by := Bs.own h
theorem OwnB.keep {w w' : World} {base : Nat} {y : Ent} (h : OwnB w base y) (hb : Below w.heap.size w w') : OwnB w' base y := own_below1 h hb
theorem OwnB.set {w : World} {base : Nat} {y : Ent} (h : OwnB w base y) {g o : Nat} (hg : g < base) (u : Value) : OwnB (w.setCell ⟨g, o, none⟩ u) base y := own_off h hg o [u]
/-- What a call answers: the tree as it was, or a list of its own; the bytes those that came in, or of its own. -/
def ResT (w : World) (base : Nat) (old : Value) (C : List Ent) (v : Value) (D : List Ent) : Prop :=
  ((v = old ∧ D = C) ∨ OwnT w base v D) ∧ ∀ y ∈ D, y ∈ C ∨ OwnB w base y
theorem ResT.slice {w : World} {base : Nat} {q : Option Addr} {n c : Nat} {v : Value} {C D : List Ent} (h : ResT w base (.slice q n c) C v D) : ∃ x m k, v = .slice x m k := by
  rcases h.1 with ⟨rfl, _⟩ | h
  · exact ⟨_, _, _, rfl⟩
  · exact own_slice' h
theorem ResT.old (w : World) (base : Nat) (old : Value) (C : List Ent) : ResT w base old C old C := ⟨.inl ⟨rfl, rfl⟩, fun _ h => .inl h⟩
theorem ResT.keep {w w' : World} {base : Nat} {old v : Value} {C D : List Ent} (h : ResT w base old C v D) (hb : Below w.heap.size w w') : ResT w' base old C v D :=
  ⟨h.1.imp id fun h => h.keep hb, fun y hy => (h.2 y hy).imp id fun h => h.keep hb⟩
theorem ResT.set {w : World} {base : Nat} {old v : Value} {C D : List Ent} (h : ResT w base old C v D) {g o : Nat} (hg : g < base) (u : Value) : ResT (w.setCell ⟨g, o, none⟩ u) base old C v D :=
  ⟨h.1.imp id fun h => h.set hg u, fun y hy => (h.2 y hy).imp id fun h => h.set hg u⟩
theorem ResT.less {w : World} {base b : Nat} {old v : Value} {C D : List Ent} (h : ResT w base old C v D) (hb : b ≤ base) : ResT w b old C v D :=
  ⟨h.1.imp id fun h => h.less hb, fun y hy => (h.2 y hy).imp id fun h => h.less hb⟩
theorem ResT.tr {w : World} {base : Nat} {old v : Value} {C D : List Ent} (h : ResT w base old C v D) (ht : TrV w old C) (he : Ents w C) : TrV w v D ∧ Ents w D :=
  ⟨by rcases h.1 with ⟨rfl, rfl⟩ | h1; exact ht; exact h1.tr, fun y hy => by rcases h.2 y hy with h1 | h1; exact he y h1; exact h1.bs⟩
def fileE (p : ByteArray) (v : Value) (b : List (BitVec 8)) : Ent := (p, false, v, b)
def putL (C : List Ent) (e : Ent) : List Ent := C.take (posT C e.pa) ++ e :: C.drop (if hasT C e.pa = true then posT C e.pa + 1 else posT C e.pa)
def putP (C : List Ent) (p : ByteArray) (b : List (BitVec 8)) (v : Value) : List Ent × Int :=
  if roomT C p.data.toList ≠ 0 then (C, roomT C p.data.toList) else if hasT C p.data.toList = true ∧ dirT C (posT C p.data.toList) = true then (C, 7) else
  if 2048 < b.length then (C, 9) else if fitsT (putL C (fileE p v b)) = true then (putL C (fileE p v b), 0) else (C, 9)
theorem put_row {w : World} {g : Nat} {A B : List Ent} {x y : Ent} {l : List Value} (h : Has w g 32 (rowC (A ++ x :: B) ++ l)) : Has (w.setCells g (A.length * 3) (entC y)) g 32 (rowC (A ++ y :: B) ++ l) := by
  rw [rowC_app, rowC_cons, List.append_assoc, List.append_assoc] at h
  have h1 := h.swap (Y := entC y) rfl
  rw [rowC_len, Nat.mul_comm] at h1
  rw [rowC_app, rowC_cons, List.append_assoc, List.append_assoc]
  exact h1
theorem bytesT_app' (A B : List Ent) : bytesT (A ++ B) = bytesT A + bytesT B := by unfold bytesT; rw [List.map_append, List.sum_append]
theorem bytesT_cons (e : Ent) (B : List Ent) : bytesT (e :: B) = e.by.length + bytesT B := by unfold bytesT; rw [List.map_cons, List.sum_cons]
theorem bytesT_drop (C : List Ent) (i : Nat) : bytesT (C.drop i) ≤ bytesT C := by
  have h := congrArg bytesT (List.take_append_drop i C)
  rw [bytesT_app'] at h
  omega
theorem putL_bytes (C : List Ent) (e : Ent) : bytesT (putL C e) ≤ bytesT C + e.by.length := by
  have key : ∀ i j, i ≤ j → bytesT (C.take i ++ e :: C.drop j) ≤ bytesT C + e.by.length := fun i j hij => by
    rw [bytesT_app', bytesT_cons]
    have h := congrArg bytesT (List.take_append_drop i C)
    rw [bytesT_app'] at h
    have h2 := bytesT_drop (C.drop i) (j - i)
    rw [List.drop_drop, show i + (j - i) = j by omega] at h2
    omega
  unfold putL
  split
  · exact key _ _ (by omega)
  · exact key _ _ (Nat.le_refl _)
theorem hasT_lt {C : List Ent} {p : Tx} (h : hasT C p = true) : posT C p < C.length := by
  unfold hasT at h
  rcases Nat.lt_or_ge (posT C p) C.length with h1 | h1
  · exact h1
  · rw [List.getElem?_eq_none h1] at h; cases h
theorem putL_len (C : List Ent) (e : Ent) : (putL C e).length = C.length + (if hasT C e.pa = true then 0 else 1) := by
  have hl := posT_le C e.pa
  unfold putL
  cases h : hasT C e.pa with
  | true =>
    have := hasT_lt h
    simp only [if_true]
    rw [List.length_append, List.length_cons, List.length_take, List.length_drop]; omega
  | false =>
    simp only [Bool.false_eq_true, if_false]
    rw [List.length_append, List.length_cons, List.length_take, List.length_drop]; omega
theorem putL_mem {C : List Ent} {e y : Ent} (h : y ∈ putL C e) : y = e ∨ y ∈ C := by
  unfold putL at h
  rcases List.mem_append.1 h with h | h
  · exact .inr (List.mem_of_mem_take h)
  · rcases List.mem_cons.1 h with h | h
    · exact .inl h
    · exact .inr (List.mem_of_mem_drop h)
set_option maxHeartbeats 16000000 in
set_option maxRecDepth 100000 in
theorem tput0_any (C : List Ent) (q : Option Addr) (c : Nat) (p : ByteArray) (b : List (BitVec 8)) (qb : Option Addr) (cb : Nat) (hm : C.length ≤ 900) (hcap : C.length ≤ c) (hq : q = none → c = 0) (hb : bytesT C ≤ 2305843009213693952) (hn : ∀ e ∈ C, e.1.size < 9223372036854775808) (hA : AscE C) (hp : p.size < 2305843009213693952) (hqb : qb = none → cb = 0) (hbl : b.length ≤ 9223372036854775807)
    (w : World) (hs : Sees w w.heap.size q (rowC C)) (hE : Ents w C) (hsb : Sees w w.heap.size qb (b.map u8v)) :
    Calls Tryd.prog 38 #[.agg #[.slice q C.length c], .string p, .slice qb b.length cb] w fun e w' => (∃ v v5, e = .returned (.tuple #[.agg #[v], .int .i64 (putP C p b v5).2]) ∧ ResT w' w.heap.size (.slice q C.length c) C v (putP C p b v5).1) ∧ Below w.heap.size w w' := by
  have HUP := Lib.hid (fun w1 (h : Below w.heap.size w w1) => tupIn_any C q c p (by omega) hn hA hp w1 ((hs.keep h).more h.size))
  have HWH := Lib.hid (fun w1 (h : Below w.heap.size w w1) => twhere_any C q c p (by omega) hn (by omega) (hA.up _) w1 ((hs.keep h).more h.size))
  have HCL := Lib.hid (fun w1 (h : Below w.heap.size w w1) => tclone_any C q c (by omega) w1 hq ((hs.keep h).more h.size) (hE.keep h))
  have HBC : Hid (b.length ≤ 2048 → ∀ w1 (h : Below w.heap.size w w1), Calls Tryd.prog 40 #[.slice qb b.length cb] w1 fun e w' => (∃ v, e = .returned v ∧ w'.ownsRow w1.heap.size 5 1 v b.length (b.map u8v)) ∧ Below w1.heap.size w1 w') := Lib.hid (fun h0 w1 h => tbclone_any b qb cb w1 ((hsb.keep h).more h.size) hqb (by omega))
  have HINS := Lib.hid (fun e v base g2 i h1 w1 hO hb0 hg2 h1C h1e hne => tinsert_any C e i v base g2 h1 (by omega) w1 hO hb0 hg2 h1C h1e hne)
  have HWI := Lib.hid (fun (D : List Ent) q1 c1 w1 (h1 : D.length ≤ 1000) (h2 : bytesT D ≤ 4611686018427387904) h3 h4 => twithin_any D q1 c1 q C.length c (by omega) h2 w1 h3 h4)
  have HTR : Hid (∀ w', Below w.heap.size w w' → TrV w' (.slice q C.length c) C ∧ Ents w' C) := Lib.hid (fun w' h => ⟨⟨q, c, rfl, hcap, hq, (hs.keep h).more h.size⟩, hE.keep h⟩)
  have HONE := Lib.hid (one_row hE)
  have HB : Hid (Below w.heap.size w ((w.alloc (.cells #[.slice q C.length c] 25)).alloc (.cells #[.slice none 0 0] 25))) := Lib.hid (((Below.refl _ _).alloc (Nat.le_refl _) _).alloc (by simp) _)
  have HX : Hid (Has ((w.alloc (.cells #[.slice q C.length c] 25)).alloc (.cells #[.slice none 0 0] 25)) w.heap.size 25 [.slice q C.length c]) := Lib.hid ((Has.made w _ _).alloc _)
  have HY : Hid (Has ((w.alloc (.cells #[.slice q C.length c] 25)).alloc (.cells #[.slice none 0 0] 25)) (w.heap.size + 1) 25 [.slice none 0 0]) := Lib.hid (Has.made1 w _ _ _ _ rfl)
  have HV : Hid (∀ v, putP C p b v = if roomT C p.data.toList ≠ 0 then (C, roomT C p.data.toList) else if hasT C p.data.toList = true ∧ dirT C (posT C p.data.toList) = true then (C, 7) else
    if 2048 < b.length then (C, 9) else if fitsT (putL C (fileE p v b)) = true then (putL C (fileE p v b), 0) else (C, 9)) := Lib.hid (fun _ => rfl)
  have HPB := Lib.hid (fun v => putL_bytes C (fileE p v b))
  have HPL : Hid (∀ v, (putL C (fileE p v b)).length = C.length + (if hasT C p.data.toList = true then 0 else 1)) := Lib.hid (fun v => putL_len C (fileE p v b))
  have HPM := Lib.hid (fun v y => putL_mem (C := C) (e := fileE p v b) (y := y))
  have HPE : Hid (∀ v, putL C (fileE p v b) = C.take (posT C p.data.toList) ++ fileE p v b :: C.drop (if hasT C p.data.toList = true then posT C p.data.toList + 1 else posT C p.data.toList)) := Lib.hid (fun _ => rfl)
  have HPO : Hid (posT C p.data.toList ≤ C.length) := Lib.hid (posT_le C _)
  have HHL : Hid (hasT C p.data.toList = true → posT C p.data.toList < C.length) := Lib.hid (fun h => hasT_lt h)
  have HDI : Hid (∀ h : posT C p.data.toList < C.length, dirT C (posT C p.data.toList) = C[posT C p.data.toList].2.1) := Lib.hid (fun h => by unfold dirT; rw [List.getElem?_eq_getElem h]; rfl)
  have HSR := Lib.hid hs
  generalize putP C p b = PV at *
  generalize putL C = PL at *
  generalize roomT C p.data.toList = RM at *
  generalize hasT C p.data.toList = HS at *
  generalize posT C p.data.toList = PS at *
  clear hs hE hn hA hsb hq
  go_enter Tryd.func38, Tryd.ntmps38
  have cx := HX.out.cellv (i := 0) (v := .slice q C.length c) rfl
  go_wp2_with fail
  refine (HUP.out _ HB.out).mono ?_
  rintro e w1 ⟨rfl, hb1⟩
  replace HB := Lib.hid (HB.out.trans (hb1.mono HB.out.size))
  replace HX := Lib.hid (HX.out.keep hb1 HX.out.lt)
  replace HY := Lib.hid (HY.out.keep hb1 HY.out.lt)
  clear hb1 cx
  have hle : w.heap.size ≤ w.heap.size + 1 := by omega
  by_cases hr : RM = 0
  · subst hr
    have cx := HX.out.cellv (i := 0) (v := .slice q C.length c) rfl
    go_wp2_with fail
    refine (HWH.out _ HB.out).mono ?_
    rintro e w2 ⟨rfl, hb1⟩
    replace HB := Lib.hid (HB.out.trans (hb1.mono HB.out.size))
    replace HX := Lib.hid (HX.out.keep hb1 HX.out.lt)
    replace HY := Lib.hid (HY.out.keep hb1 HY.out.lt)
    clear hb1 cx
    cases HS with
    | true =>
      have hps := HHL.out rfl
      obtain ⟨a, rfl, ha, hc⟩ := HSR.out.ent hps
      obtain ⟨c1, c2, c3⟩ := hc w2 HB.out
      have kk : (PS : Int) < (C.length : Int) := by omega
      have hdi := HDI.out hps
      have HDJ := Lib.hid hdi
      have HXO : Hid (C.take PS ++ C[PS] :: C.drop (PS + 1) = C) := Lib.hid (by rw [← List.drop_eq_getElem_cons hps, List.take_append_drop])
      generalize C[PS].2.1 = D at *
      clear hc ha hdi c1 c3
      cases D with
      | true =>
        have cx := HX.out.cellv (i := 0) (v := .slice (some a) C.length c) rfl
        have cy := HY.out.cellv (i := 0) (v := .slice none 0 0) rfl
        have fy := HY.out.free 0
        have hv : PV undef = (C, 7) := by rw [HV.out]; simp [HDJ.out]
        go_wp2_with fail
        have cz : (w2.setCell ⟨w.heap.size + 1, 0, none⟩ (.slice (some a) C.length c)).cell? ⟨w.heap.size + 1, 0, none⟩ = some (.slice (some a) C.length c) := World.cell?_setCell_same' _ _ _ (by rw [cy]; rfl)
        refine bodyPost_ret (by simp [results, Tryd.results38, go_sem, cz]; try rfl) rfl ?_
        have hbz := HB.out.setCell (p := ⟨w.heap.size + 1, 0, none⟩) hle (.slice (some a) C.length c)
        exact ⟨⟨.slice (some a) C.length c, undef, by rw [hv], by rw [hv]; exact ResT.old _ _ _ _⟩, hbz⟩
      | false =>
        have HD := HDJ
        have cx := HX.out.cellv (i := 0) (v := .slice (some a) C.length c) rfl
        by_cases hbl : 2048 < b.length
        · have kb : (2048 : Int) < (b.length : Int) := by omega
          clear cx
          have cx := HX.out.cellv (i := 0) (v := .slice (some a) C.length c) rfl
          have cy := HY.out.cellv (i := 0) (v := .slice none 0 0) rfl
          have fy := HY.out.free 0
          have hv : PV undef = (C, 9) := by rw [HV.out]; simp [HD.out, hbl]
          go_wp2_with fail
          have cz : (w2.setCell ⟨w.heap.size + 1, 0, none⟩ (.slice (some a) C.length c)).cell? ⟨w.heap.size + 1, 0, none⟩ = some (.slice (some a) C.length c) := World.cell?_setCell_same' _ _ _ (by rw [cy]; rfl)
          refine bodyPost_ret (by simp [results, Tryd.results38, go_sem, cz]; try rfl) rfl ?_
          have hbz := HB.out.setCell (p := ⟨w.heap.size + 1, 0, none⟩) hle (.slice (some a) C.length c)
          exact ⟨⟨.slice (some a) C.length c, undef, by rw [hv], by rw [hv]; exact ResT.old _ _ _ _⟩, hbz⟩
        · have hbl2 : b.length ≤ 2048 := by omega
          have kb : ((b.length : Int) ≤ 2048) := by omega
          have kb2 : ((2048 : Int) < (b.length : Int)) = False := eq_false (by omega)
          go_wp2_with fail
          have HYL2 := Lib.hid HY.out.lt
          have HZ2 := Lib.hid HB.out.size
          refine (HCL.out _ HB.out).mono ?_
          rintro e w4 ⟨⟨v4, rfl, hO4⟩, hb1⟩
          replace HB := Lib.hid (HB.out.trans (hb1.mono HB.out.size))
          replace HX := Lib.hid (HX.out.keep hb1 HX.out.lt)
          replace HY := Lib.hid (HY.out.keep hb1 HY.out.lt)
          generalize w2.heap.size = BX at *
          clear hb1 cx c2
          rcases hO4.has with ⟨rfl, hC0⟩ | ⟨g, cap, l, rfl, hgb, hG, hcap4, hcm, hl4⟩
          · rw [hC0] at hps; simp at hps
          · have hGl : (rowC C ++ l).length = cap * 3 := by rw [List.length_append, rowC_len]; omega
            have HTH : Hid (PS * 3 + 3 ≤ (rowC (C.take PS ++ C[PS] :: C.drop (PS + 1)) ++ l).length) := Lib.hid (by rw [HXO.out, hGl]; omega)
            have HG : Hid (Has w4 g 32 (rowC (C.take PS ++ C[PS] :: C.drop (PS + 1)) ++ l)) := Lib.hid (by rw [HXO.out]; exact hG)
            have HTL : Hid ((C.take PS).length = PS) := Lib.hid (by rw [List.length_take]; omega)
            have HYB : Hid (w.heap.size + 1 < w4.heap.size) := Lib.hid (by have h1 := HYL2.out; have h2 := hG.lt; omega)
            generalize C[PS] = xo at *
            clear hO4 hG hGl
            go_wp2_with fail
            refine (HBC.out hbl2 _ HB.out).mono ?_
            rintro e w5 ⟨⟨v5, rfl, hO5⟩, hb1⟩
            have HG5 := Lib.hid (HG.out.keep hb1 HG.out.lt)
            have HGS := Lib.hid HG.out.lt
            have HO5 := Lib.hid hO5
            replace HB := Lib.hid (HB.out.trans (hb1.mono HB.out.size))
            replace HX := Lib.hid (HX.out.keep hb1 HX.out.lt)
            replace HY := Lib.hid (HY.out.keep hb1 HY.out.lt)
            obtain ⟨x5, m5, k5, rfl⟩ := own_slice' hO5
            have ht := HG5.out.there (PS * 3) 3 (by have h := HTH.out; omega)
            obtain ⟨u0, hu0⟩ := Option.isSome_iff_exists.1 (ht 0 (by omega)).1
            obtain ⟨u1, hu1⟩ := Option.isSome_iff_exists.1 (ht 1 (by omega)).1
            obtain ⟨u2, hu2⟩ := Option.isSome_iff_exists.1 (ht 2 (by omega)).1
            have hf0 := (ht 0 (by omega)).2
            have hf1 := (ht 1 (by omega)).2
            have hf2 := (ht 2 (by omega)).2
            rw [Nat.add_zero] at hu0 hf0
            have HROW : Hid (Has (w5.setCells g (PS * 3) [.string p, .bool false, .slice x5 m5 k5]) g 32 (rowC (PL (fileE p (.slice x5 m5 k5) b)) ++ l)) := Lib.hid (by
              have h := put_row (y := fileE p (.slice x5 m5 k5) b) HG5.out
              rw [HTL.out] at h
              rw [HPE.out]
              exact h)
            have HO6 := Lib.hid (own_off HO5.out HGS.out (PS * 3) [.string p, .bool false, .slice x5 m5 k5])
            have HB6 := Lib.hid (below_setCells (Nat.le_trans HZ2.out hgb) [.string p, .bool false, .slice x5 m5 k5] (PS * 3) _ HB.out)
            have HX6 := Lib.hid (Has.offMid (show w.heap.size ≠ g by have := HYL2.out; omega) [.string p, .bool false, .slice x5 m5 k5] (PS * 3) _ HX.out)
            have HY6 := Lib.hid (Has.offMid (show w.heap.size + 1 ≠ g by have := HYL2.out; omega) [.string p, .bool false, .slice x5 m5 k5] (PS * 3) _ HY.out)
            have cx : (((w5.setCell ⟨g, PS * 3, none⟩ (.string p)).setCell ⟨g, PS * 3 + 1, none⟩ (.bool false)).setCell ⟨g, PS * 3 + 2, none⟩ (.slice x5 m5 k5)).cell? ⟨w.heap.size, 0, none⟩ = some (.slice (some a) C.length c) := HX6.out.cellv (i := 0) (v := .slice (some a) C.length c) rfl
            clear ht hO5 hb1 HG HG5 HO5 HB HX HY
            go_wp2_with fail
            have e5 : ((w5.setCell ⟨g, PS * 3, none⟩ (.string p)).setCell ⟨g, PS * 3 + 1, none⟩ (.bool false)).setCell ⟨g, PS * 3 + 2, none⟩ (.slice x5 m5 k5) = w5.setCells g (PS * 3) [.string p, .bool false, .slice x5 m5 k5] := rfl
            rw [e5]
            clear e5 hu0 hu1 hu2 hf0 hf1 hf2 cx
            generalize w5.setCells g (PS * 3) [.string p, .bool false, .slice x5 m5 k5] = W6 at *
            have hbw : Below w.heap.size w W6 := HB6.out
            have HVV := Lib.hid (HV.out (.slice x5 m5 k5))
            have HPMX := Lib.hid (HPM.out (.slice x5 m5 k5))
            have HLN : Hid ((PL (fileE p (.slice x5 m5 k5) b)).length = C.length) := Lib.hid (by rw [HPL.out]; first | rfl | (simp; done))
            have HEN : Hid (∀ w', Below w.heap.size w w' → w'.ownsRow w4.heap.size 5 1 (.slice x5 m5 k5) b.length (b.map u8v) → Ents w' (PL (fileE p (.slice x5 m5 k5) b))) := Lib.hid (fun w' h1 h2 y hy => by
              rcases HPM.out _ _ hy with rfl | hy
              · exact Bs.own h2
              · exact (HTR.out _ h1).2 y hy)
            have HWIX := Lib.hid (HWI.out (PL (fileE p (.slice x5 m5 k5) b)) (some ⟨g, 0, none⟩) cap W6 (by rw [HLN.out]; omega) (by have h := HPB.out (.slice x5 m5 k5); have h2 : (fileE p (.slice x5 m5 k5) b).by.length = b.length := rfl; omega) (has_seesE HROW.out) (HEN.out _ HB6.out HO6.out))
            rw [HLN.out] at HWIX
            have HOW : Hid (OwnT W6 BX (.slice (some ⟨g, 0, none⟩) C.length cap) (PL (fileE p (.slice x5 m5 k5) b))) := Lib.hid (by
              have h := OwnT.of (base := BX) (cap := cap) (C := PL (fileE p (.slice x5 m5 k5) b)) hgb HROW.out (by rw [HLN.out]; omega) hcm (by rw [HLN.out]; omega)
              rw [HLN.out] at h
              exact h)
            generalize PL (fileE p (.slice x5 m5 k5) b) = DD at *
            generalize fitsT DD = FT at *
            clear HPE HPB HPL HPM HV HROW hbw
            refine HWIX.out.mono ?_
            rintro e w7 ⟨rfl, hb1⟩
            have HO7 := Lib.hid (own_below1 HO6.out hb1)
            have HOW7 := Lib.hid (HOW.out.keep hb1)
            have HB7 := Lib.hid (HB6.out.trans (hb1.mono HB6.out.size))
            have HY7 := Lib.hid (HY6.out.keep hb1 HY6.out.lt)
            clear hb1 HWIX HO6 HOW HB6 HX6 HY6
            have cy := HY7.out.cellv (i := 0) (v := .slice none 0 0) rfl
            have fy := HY7.out.free 0
            cases FT with
            | true =>
              have hv : PV (.slice x5 m5 k5) = (DD, 0) := by rw [HVV.out]; simp [HD.out, hbl]
              simp only [if_true]
              go_wp2_with fail
              have cz : (w7.setCell ⟨w.heap.size + 1, 0, none⟩ (.slice (some ⟨g, 0, none⟩) C.length cap)).cell? ⟨w.heap.size + 1, 0, none⟩ = some (.slice (some ⟨g, 0, none⟩) C.length cap) := World.cell?_setCell_same' _ _ _ (by rw [cy]; rfl)
              refine bodyPost_ret (by simp [results, Tryd.results38, go_sem, cz]; try rfl) rfl ?_
              have hbz := HB7.out.setCell (p := ⟨w.heap.size + 1, 0, none⟩) hle (.slice (some ⟨g, 0, none⟩) C.length cap)
              exact ⟨⟨_, .slice x5 m5 k5, by rw [hv], by rw [hv]; exact ⟨.inr ((HOW7.out.set (p := ⟨w.heap.size + 1, 0, none⟩) HYL2.out _).less HZ2.out), fun y hy => by
                rcases HPMX.out y hy with rfl | hy
                · exact .inr (OwnB.less (own_off HO7.out HYB.out 0 [.slice (some ⟨g, 0, none⟩) C.length cap]) (by have := HYB.out; omega))
                · exact .inl hy⟩⟩, hbz⟩
            | false =>
              have hv : PV (.slice x5 m5 k5) = (C, 9) := by rw [HVV.out]; simp [HD.out, hbl]
              simp only [Bool.false_eq_true, if_false]
              go_wp2_with fail
              have cz : (w7.setCell ⟨w.heap.size + 1, 0, none⟩ (.slice (some a) C.length c)).cell? ⟨w.heap.size + 1, 0, none⟩ = some (.slice (some a) C.length c) := World.cell?_setCell_same' _ _ _ (by rw [cy]; rfl)
              refine bodyPost_ret (by simp [results, Tryd.results38, go_sem, cz]; try rfl) rfl ?_
              have hbz := HB7.out.setCell (p := ⟨w.heap.size + 1, 0, none⟩) hle (.slice (some a) C.length c)
              exact ⟨⟨.slice (some a) C.length c, .slice x5 m5 k5, by rw [hv], by rw [hv]; exact ResT.old _ _ _ _⟩, hbz⟩
    | false =>
      by_cases hbl : 2048 < b.length
      · have kb : (2048 : Int) < (b.length : Int) := by omega
        have cx := HX.out.cellv (i := 0) (v := .slice q C.length c) rfl
        have cy := HY.out.cellv (i := 0) (v := .slice none 0 0) rfl
        have fy := HY.out.free 0
        have hv : PV undef = (C, 9) := by rw [HV.out]; simp [hbl]
        go_wp2_with fail
        have cz : (w2.setCell ⟨w.heap.size + 1, 0, none⟩ (.slice q C.length c)).cell? ⟨w.heap.size + 1, 0, none⟩ = some (.slice q C.length c) := World.cell?_setCell_same' _ _ _ (by rw [cy]; rfl)
        refine bodyPost_ret (by simp [results, Tryd.results38, go_sem, cz]; try rfl) rfl ?_
        have hbz := HB.out.setCell (p := ⟨w.heap.size + 1, 0, none⟩) hle (.slice q C.length c)
        exact ⟨⟨.slice q C.length c, undef, by rw [hv], by rw [hv]; exact ResT.old _ _ _ _⟩, hbz⟩
      · have hbl2 : b.length ≤ 2048 := by omega
        have kb : ((b.length : Int) ≤ 2048) := by omega
        have kb2 : ((2048 : Int) < (b.length : Int)) = False := eq_false (by omega)
        have cx := HX.out.cellv (i := 0) (v := .slice q C.length c) rfl
        go_wp2_with fail
        have HYL2 := Lib.hid HY.out.lt
        have HZ2 := Lib.hid HB.out.size
        refine (HCL.out _ HB.out).mono ?_
        rintro e w4 ⟨⟨v4, rfl, hO4⟩, hb1⟩
        have HS4 := Lib.hid hb1.size
        replace HB := Lib.hid (HB.out.trans (hb1.mono HB.out.size))
        replace HX := Lib.hid (HX.out.keep hb1 HX.out.lt)
        replace HY := Lib.hid (HY.out.keep hb1 HY.out.lt)
        generalize w2.heap.size = BX at *
        have HO4 := Lib.hid hO4
        have HA4 : Hid (OwnT (w4.alloc (.cells #[.string ⟨#[]⟩, .bool false, .slice none 0 0] 32)) BX v4 C) := Lib.hid (hO4.alloc _)
        have HG2 : Hid (Has (w4.alloc (.cells #[.string ⟨#[]⟩, .bool false, .slice none 0 0] 32)) w4.heap.size 32 (entC ((⟨#[]⟩, false, .slice none 0 0, []) : Ent))) := Lib.hid (Has.made' w4 _ _ _ rfl)
        have HNE : Hid (∀ k, Value.ownBlock v4 = some k → w4.heap.size ≠ k) := Lib.hid (fun k hk => by have := (hO4.lt k hk).2; omega)
        have HBA : Hid (Below w.heap.size w (w4.alloc (.cells #[.string ⟨#[]⟩, .bool false, .slice none 0 0] 32))) := Lib.hid (HB.out.alloc HB.out.size _)
        have HXA := Lib.hid (HX.out.alloc (.cells #[.string ⟨#[]⟩, .bool false, .slice none 0 0] 32))
        have HYA := Lib.hid (HY.out.alloc (.cells #[.string ⟨#[]⟩, .bool false, .slice none 0 0] 32))
        have HSA : Hid (BX ≤ (w4.alloc (.cells #[.string ⟨#[]⟩, .bool false, .slice none 0 0] 32)).heap.size) := Lib.hid (by have := HS4.out; simp; omega)
        obtain ⟨x4, m4, k4, rfl⟩ := own_slice' hO4
        clear hb1 cx hO4
        go_wp2_with fail
        refine (HINS.out (⟨#[]⟩, false, .slice none 0 0, []) _ BX _ PS HPO.out _ HA4.out HSA.out HG2.out HONE.out rfl HNE.out).mono ?_
        rintro e w6 ⟨⟨v6, rfl, hO6⟩, hb1⟩
        replace HB := Lib.hid (HBA.out.trans (hb1.mono HZ2.out))
        replace HX := Lib.hid (HXA.out.keep hb1 (by have := HYL2.out; omega))
        replace HY := Lib.hid (HYA.out.keep hb1 HYL2.out)
        clear hb1 HBA HXA HYA HSA HNE HG2 HA4 HO4 HS4
        rcases hO6.has with ⟨rfl, hC0⟩ | ⟨g, cap, l, rfl, hgb, hG, hcap4, hcm, hl4⟩
        · simp at hC0
        · have hnl : (C.take PS ++ ((⟨#[]⟩, false, .slice none 0 0, []) : Ent) :: C.drop PS).length = C.length + 1 := by
            rw [List.length_append, List.length_cons, List.length_take, List.length_drop]; have := HPO.out; omega
          have HTL : Hid ((C.take PS).length = PS) := Lib.hid (by rw [List.length_take]; have := HPO.out; omega)
          have HG := Lib.hid hG
          have HTH : Hid (PS * 3 + 3 ≤ (rowC (C.take PS ++ ((⟨#[]⟩, false, .slice none 0 0, []) : Ent) :: C.drop PS) ++ l).length) := Lib.hid (by rw [List.length_append, rowC_len, hnl]; have := HPO.out; omega)
          rw [hnl] at hcap4 hl4
          rw [hnl]
          clear hO6 hG hnl
          generalize ((⟨#[]⟩, false, .slice none 0 0, []) : Ent) = xo at *
          have HYB : Hid (w.heap.size + 1 < w6.heap.size) := Lib.hid (by have h1 := HYL2.out; have h2 := HG.out.lt; omega)
          have kk : (PS : Int) < (C.length : Int) + 1 := by have := HPO.out; omega
          go_wp2_with fail
          refine (HBC.out hbl2 _ HB.out).mono ?_
          rintro e w5 ⟨⟨v5, rfl, hO5⟩, hb1⟩
          have HG5 := Lib.hid (HG.out.keep hb1 HG.out.lt)
          have HGS := Lib.hid HG.out.lt
          have HO5 := Lib.hid hO5
          replace HB := Lib.hid (HB.out.trans (hb1.mono HB.out.size))
          replace HX := Lib.hid (HX.out.keep hb1 HX.out.lt)
          replace HY := Lib.hid (HY.out.keep hb1 HY.out.lt)
          obtain ⟨x5, m5, k5, rfl⟩ := own_slice' hO5
          have ht := HG5.out.there (PS * 3) 3 (by have h := HTH.out; omega)
          obtain ⟨u0, hu0⟩ := Option.isSome_iff_exists.1 (ht 0 (by omega)).1
          obtain ⟨u1, hu1⟩ := Option.isSome_iff_exists.1 (ht 1 (by omega)).1
          obtain ⟨u2, hu2⟩ := Option.isSome_iff_exists.1 (ht 2 (by omega)).1
          have hf0 := (ht 0 (by omega)).2
          have hf1 := (ht 1 (by omega)).2
          have hf2 := (ht 2 (by omega)).2
          rw [Nat.add_zero] at hu0 hf0
          have HROW : Hid (Has (w5.setCells g (PS * 3) [.string p, .bool false, .slice x5 m5 k5]) g 32 (rowC (PL (fileE p (.slice x5 m5 k5) b)) ++ l)) := Lib.hid (by
            have h := put_row (y := fileE p (.slice x5 m5 k5) b) HG5.out
            rw [HTL.out] at h
            rw [HPE.out]
            exact h)
          have HO6 := Lib.hid (own_off HO5.out HGS.out (PS * 3) [.string p, .bool false, .slice x5 m5 k5])
          have HB6 := Lib.hid (below_setCells (Nat.le_trans HZ2.out hgb) [.string p, .bool false, .slice x5 m5 k5] (PS * 3) _ HB.out)
          have HX6 := Lib.hid (Has.offMid (show w.heap.size ≠ g by have := HYL2.out; omega) [.string p, .bool false, .slice x5 m5 k5] (PS * 3) _ HX.out)
          have HY6 := Lib.hid (Has.offMid (show w.heap.size + 1 ≠ g by have := HYL2.out; omega) [.string p, .bool false, .slice x5 m5 k5] (PS * 3) _ HY.out)
          have cx : (((w5.setCell ⟨g, PS * 3, none⟩ (.string p)).setCell ⟨g, PS * 3 + 1, none⟩ (.bool false)).setCell ⟨g, PS * 3 + 2, none⟩ (.slice x5 m5 k5)).cell? ⟨w.heap.size, 0, none⟩ = some (.slice q C.length c) := HX6.out.cellv (i := 0) (v := .slice q C.length c) rfl
          clear ht hO5 hb1 HG HG5 HO5 HB HX HY
          go_wp2_with fail
          have e5 : ((w5.setCell ⟨g, PS * 3, none⟩ (.string p)).setCell ⟨g, PS * 3 + 1, none⟩ (.bool false)).setCell ⟨g, PS * 3 + 2, none⟩ (.slice x5 m5 k5) = w5.setCells g (PS * 3) [.string p, .bool false, .slice x5 m5 k5] := rfl
          rw [e5]
          clear e5 hu0 hu1 hu2 hf0 hf1 hf2 cx
          generalize w5.setCells g (PS * 3) [.string p, .bool false, .slice x5 m5 k5] = W6 at *
          have hbw : Below w.heap.size w W6 := HB6.out
          have HVV := Lib.hid (HV.out (.slice x5 m5 k5))
          have HPMX := Lib.hid (HPM.out (.slice x5 m5 k5))
          have HLN : Hid ((PL (fileE p (.slice x5 m5 k5) b)).length = (C.length + 1)) := Lib.hid (by rw [HPL.out]; first | rfl | (simp; done))
          have HEN : Hid (∀ w', Below w.heap.size w w' → w'.ownsRow w6.heap.size 5 1 (.slice x5 m5 k5) b.length (b.map u8v) → Ents w' (PL (fileE p (.slice x5 m5 k5) b))) := Lib.hid (fun w' h1 h2 y hy => by
            rcases HPM.out _ _ hy with rfl | hy
            · exact Bs.own h2
            · exact (HTR.out _ h1).2 y hy)
          have HWIX := Lib.hid (HWI.out (PL (fileE p (.slice x5 m5 k5) b)) (some ⟨g, 0, none⟩) cap W6 (by rw [HLN.out]; omega) (by have h := HPB.out (.slice x5 m5 k5); have h2 : (fileE p (.slice x5 m5 k5) b).by.length = b.length := rfl; omega) (has_seesE HROW.out) (HEN.out _ HB6.out HO6.out))
          rw [HLN.out] at HWIX
          have HOW : Hid (OwnT W6 BX (.slice (some ⟨g, 0, none⟩) (C.length + 1) cap) (PL (fileE p (.slice x5 m5 k5) b))) := Lib.hid (by
            have h := OwnT.of (base := BX) (cap := cap) (C := PL (fileE p (.slice x5 m5 k5) b)) hgb HROW.out (by rw [HLN.out]; omega) hcm (by rw [HLN.out]; omega)
            rw [HLN.out] at h
            exact h)
          generalize PL (fileE p (.slice x5 m5 k5) b) = DD at *
          generalize fitsT DD = FT at *
          clear HPE HPB HPL HPM HV HROW hbw
          refine HWIX.out.mono ?_
          rintro e w7 ⟨rfl, hb1⟩
          have HO7 := Lib.hid (own_below1 HO6.out hb1)
          have HOW7 := Lib.hid (HOW.out.keep hb1)
          have HB7 := Lib.hid (HB6.out.trans (hb1.mono HB6.out.size))
          have HY7 := Lib.hid (HY6.out.keep hb1 HY6.out.lt)
          clear hb1 HWIX HO6 HOW HB6 HX6 HY6
          have cy := HY7.out.cellv (i := 0) (v := .slice none 0 0) rfl
          have fy := HY7.out.free 0
          cases FT with
          | true =>
            have hv : PV (.slice x5 m5 k5) = (DD, 0) := by rw [HVV.out]; simp [hbl]
            simp only [if_true]
            go_wp2_with fail
            have cz : (w7.setCell ⟨w.heap.size + 1, 0, none⟩ (.slice (some ⟨g, 0, none⟩) (C.length + 1) cap)).cell? ⟨w.heap.size + 1, 0, none⟩ = some (.slice (some ⟨g, 0, none⟩) (C.length + 1) cap) := World.cell?_setCell_same' _ _ _ (by rw [cy]; rfl)
            refine bodyPost_ret (by simp [results, Tryd.results38, go_sem, cz]; try rfl) rfl ?_
            have hbz := HB7.out.setCell (p := ⟨w.heap.size + 1, 0, none⟩) hle (.slice (some ⟨g, 0, none⟩) (C.length + 1) cap)
            exact ⟨⟨_, .slice x5 m5 k5, by rw [hv], by rw [hv]; exact ⟨.inr ((HOW7.out.set (p := ⟨w.heap.size + 1, 0, none⟩) HYL2.out _).less HZ2.out), fun y hy => by
              rcases HPMX.out y hy with rfl | hy
              · exact .inr (OwnB.less (own_off HO7.out HYB.out 0 [.slice (some ⟨g, 0, none⟩) (C.length + 1) cap]) (by have := HYB.out; omega))
              · exact .inl hy⟩⟩, hbz⟩
          | false =>
            have hv : PV (.slice x5 m5 k5) = (C, 9) := by rw [HVV.out]; simp [hbl]
            simp only [Bool.false_eq_true, if_false]
            go_wp2_with fail
            have cz : (w7.setCell ⟨w.heap.size + 1, 0, none⟩ (.slice q C.length c)).cell? ⟨w.heap.size + 1, 0, none⟩ = some (.slice q C.length c) := World.cell?_setCell_same' _ _ _ (by rw [cy]; rfl)
            refine bodyPost_ret (by simp [results, Tryd.results38, go_sem, cz]; try rfl) rfl ?_
            have hbz := HB7.out.setCell (p := ⟨w.heap.size + 1, 0, none⟩) hle (.slice q C.length c)
            exact ⟨⟨.slice q C.length c, .slice x5 m5 k5, by rw [hv], by rw [hv]; exact ResT.old _ _ _ _⟩, hbz⟩
  · have kA : (RM = 0) = False := eq_false hr
    have kAb : (RM == 0) = false := by simpa using hr
    have kAn : (RM != 0) = true := by simpa using hr
    have cx := HX.out.cellv (i := 0) (v := .slice q C.length c) rfl
    have cy := HY.out.cellv (i := 0) (v := .slice none 0 0) rfl
    have fy := HY.out.free 0
    have hv : PV undef = (C, RM) := by rw [HV.out, if_pos hr]
    go_wp2_with fail
    have cz : (w1.setCell ⟨w.heap.size + 1, 0, none⟩ (.slice q C.length c)).cell? ⟨w.heap.size + 1, 0, none⟩ = some (.slice q C.length c) := World.cell?_setCell_same' _ _ _ (by rw [cy]; rfl)
    refine bodyPost_ret (by simp [results, Tryd.results38, go_sem, cz]; try rfl) rfl ?_
    have hbz := HB.out.setCell (p := ⟨w.heap.size + 1, 0, none⟩) hle (.slice q C.length c)
    exact ⟨⟨.slice q C.length c, undef, by rw [hv], by rw [hv]; exact ResT.old _ _ _ _⟩, hbz⟩
end Go.Proofs.YthpendoblgndcaaDoor
/- A drawn region in which two operations that are no reads interleave (a call, memory made), with pure ones ahead, and one named order behind. No condition. -/
namespace Go.Proofs.YthpendoblgndcaaDoor
open Go.RowKit
section
variable {P : Program} {md : Region.Mode} {ops : Array Oper} {Q : Exit → Act → World → Prop}
theorem wanted_plain2 {o : Oper} (h : o.guard = none) (y : Nat → Option Bool) : Region.wanted o y = true := by unfold Region.wanted; rw [h]
theorem wpOp_plain2 {i : Nat} {o : Oper} {K : Act → World → Prop} {a : Act} {w : World} (ho : ops[i]? = some o) (hg : o.guard = none) (h : o.wp P a w K Q) : wpOp P ops Q i K a w := by
  unfold wpOp
  rw [ho]
  show if _ then _ else _
  rw [if_pos (wanted_plain2 hg _)]
  exact .inl h
/-- An operation leaves these worlds, with this value. -/
def Leaves2 (P : Program) (Q : Exit → Act → World → Prop) (S : World → Prop) (o : Oper) (a : Act) (w : World) (R : Value → World → Prop) : Prop :=
  ∀ K : Act → World → Prop, (∀ v w1, S w1 → R v w1 → K (a.put o.dst v) w1) → o.wp P a w K Q
theorem wpAnyH_pair {S : World → Prop} {fuel : Nat} {listed : Array Bool} {a : Act} {w : World} (i k : Nat) (oi ok : Oper)
    (hi : ops[i]? = some oi) (hk : ops[k]? = some ok) (gi : oi.guard = none) (gk : ok.guard = none) (nik : i ≠ k)
    (b0 : Region.ready md ops listed = [i, k]) (b1 : Region.ready md ops (listed.setIfInBounds i true) = [k]) (b2 : Region.ready md ops (listed.setIfInBounds k true) = [i])
    (Si Sk : Value → World → Prop) (Sik : Value → Value → World → Prop) (cik : ∀ v u, (a.put ok.dst u).put oi.dst v = (a.put oi.dst v).put ok.dst u)
    (h1 : Leaves2 P Q S oi a w Si) (h2 : Leaves2 P Q S ok a w Sk)
    (h3 : ∀ v w1, Si v w1 → Leaves2 P Q S ok (a.put oi.dst v) w1 (Sik v))
    (h4 : ∀ u w1, Sk u w1 → Leaves2 P Q S oi (a.put ok.dst u) w1 (fun v => Sik v u))
    (h : ∀ v u w', S w' → Sik v u w' → wpAnyH P md ops Q S fuel ((listed.setIfInBounds i true).setIfInBounds k true) ((a.put oi.dst v).put ok.dst u) w') :
    wpAnyH P md ops Q S (fuel + 2) listed a w := by
  have sik : (listed.setIfInBounds i true).setIfInBounds k true = (listed.setIfInBounds k true).setIfInBounds i true := Array.setIfInBounds_comm _ _ nik
  refine wpAnyH_all b0 (by simp) fun x hx => ?_
  rcases (show x = i ∨ x = k by simpa using hx) with rfl | rfl
  · refine wpOp_plain2 hi gi (h1 _ fun v w1 e1 s1 => ⟨e1, ?_⟩)
    refine wpAnyH_all b1 (by simp) fun y hy => ?_
    obtain rfl : y = k := by simpa using hy
    exact wpOp_plain2 hk gk (h3 v w1 s1 _ fun u w2 e2 s2 => ⟨e2, h v u w2 e2 s2⟩)
  · refine wpOp_plain2 hk gk (h2 _ fun u w1 e1 s1 => ⟨e1, ?_⟩)
    refine wpAnyH_all b2 (by simp) fun y hy => ?_
    obtain rfl : y = i := by simpa using hy
    refine wpOp_plain2 hi gi (h4 u w1 s1 _ fun v w2 e2 s2 => ⟨e2, ?_⟩)
    rw [cik, ← sik]
    exact h v u w2 e2 s2
/-- A run of pure operations at a region's head. -/
def purB2 (md : Region.Mode) (ops : Array Oper) : List Nat → Array Bool → Bool
  | [], _ => true
  | i :: r, listed => Region.free md ops listed i && ((Region.ready md ops listed).contains i && purB2 md ops r (listed.setIfInBounds i true))
def setAll2 : List Nat → Array Bool → Array Bool
  | [], l => l
  | i :: r, l => setAll2 r (l.setIfInBounds i true)
def wpPur2 (P : Program) (ops : Array Oper) (S : World → Prop) (K : Act → Prop) : List Oper → Act → Prop
  | [], a => K a
  | o :: r, a => ∃ v, YieldsIf P ops S o v a ∧ wpPur2 P ops S K r (a.put o.dst v)
def pickPur2 (l : List Oper) : List Nat → List Oper
  | [] => []
  | i :: r => match l[i]? with
    | some o => o :: pickPur2 l r
    | none => pickPur2 l r
theorem wpAnyH_pur2 {S : World → Prop} (hs : Region.noSelect ops = true) (hQ : ∀ c a d v w, Q (.panic c) (a.put d v) w → Q (.panic c) a w) (fuel : Nat) :
    ∀ (l : List Nat) (listed : Array Bool) (a : Act) (w : World), S w → purB2 md ops l listed = true → (l.all fun x => decide (x < ops.size)) = true →
      wpPur2 P ops S (fun a' => wpAnyH P md ops Q S fuel (setAll2 l listed) a' w) (pickPur2 ops.toList l) a → wpAnyH P md ops Q S (fuel + l.length) listed a w
  | [], _, _, _, _, _, _, h => h
  | i :: r, listed, a, w, hS, hB, hl, h => by
    simp only [List.all_cons, Bool.and_eq_true, decide_eq_true_eq] at hl
    have ho : ops.toList[i]? = some ops[i] := by simp [hl.1]
    have ho' : ops[i]? = some ops[i] := by simp [hl.1]
    rw [pickPur2, ho] at h
    obtain ⟨v, hy, hr⟩ := h
    simp only [purB2, Bool.and_eq_true] at hB
    exact wpAnyH_take ho' hs hB.1 hB.2.1 (fun c a w => hQ c a _ v w) hy hS (wpAnyH_pur2 hs hQ fuel r _ _ _ hS hB.2.2 hl.2 hr)
theorem pur_step2 {S : World → Prop} {o : Oper} {r : List Oper} {a : Act} {K : Act → Prop} {v : Value} (hw : Region.wanted o (yielded ops a.tmps) = true)
    (hy : ∀ w', S w' → (execOp a.eval o).run P w' = .ok (.value v) w') (h : wpPur2 P ops S K r (a.put o.dst v)) : wpPur2 P ops S K (o :: r) a := ⟨v, .inl ⟨hw, hy⟩, h⟩
theorem pur_nil2 {S : World → Prop} {a : Act} {K : Act → Prop} (h : K a) : wpPur2 P ops S K [] a := h
theorem wpPur2_mono {S : World → Prop} {K K' : Act → Prop} (hK : ∀ a, K a → K' a) : ∀ (l : List Oper) (a : Act), wpPur2 P ops S K l a → wpPur2 P ops S K' l a
  | [], _, h => hK _ h
  | _ :: r, _, h => by obtain ⟨v, h1, h2⟩ := h; exact ⟨v, h1, wpPur2_mono hK r _ h2⟩
end
def PairGoal (P : Program) (Q : Exit → Act → World → Prop) (oi ok : Oper) (S : World → Prop) (C : Act → World → Prop) (w : World) (a : Act) : Prop :=
  ∃ (Si Sk : Value → World → Prop) (Sik : Value → Value → World → Prop),
    Leaves2 P Q S oi a w Si ∧ Leaves2 P Q S ok a w Sk ∧
    (∀ v w1, Si v w1 → Leaves2 P Q S ok (a.put oi.dst v) w1 (Sik v)) ∧
    (∀ u w1, Sk u w1 → Leaves2 P Q S oi (a.put ok.dst u) w1 (fun v => Sik v u)) ∧
    ∀ v u w', S w' → Sik v u w' → C ((a.put oi.dst v).put ok.dst u) w'
def pairB (q : Array Oper) (l : List Nat) (i k : Nat) (l2 : List (Nat × Bool)) : Bool :=
  let l0 := setAll2 l (Array.replicate q.size false)
  (decide (q.size = l2.length + 2 + l.length) && (purB2 .any q l (Array.replicate q.size false) && l.all fun x => decide (x < q.size))) &&
  ((decide (Region.ready .any q l0 = [i, k]) && (decide (Region.ready .any q (l0.setIfInBounds i true) = [k]) && decide (Region.ready .any q (l0.setIfInBounds k true) = [i]))) &&
  (orsB .any q l2 ((l0.setIfInBounds i true).setIfInBounds k true) && l2.all fun x => decide (x.1 < q.size)))
theorem wp_region_pair {P : Program} {Q : Exit → Act → World → Prop} {id : Nat} {a : Act} {w : World} {lo : List Oper} (l : List Nat) (i k : Nat) (l2 : List (Nat × Bool)) (oi ok : Oper)
    (hi : lo[i]? = some oi) (hk : lo[k]? = some ok) (gi : oi.guard = none) (gk : ok.guard = none) (nik : i ≠ k)
    (di : ∀ d, ok.dst = some d → oi.dst ≠ some d)
    (hm : P.follows .mixedOrders = true) (hs : Region.noSelect lo.toArray = true) (q : Array Oper) (hB : pairB q l i k l2 = true) (hq : lo.toArray = q) (S : World → Prop) (hS : S w.drew)
    (h : wpPur2 P lo.toArray S (PairGoal P (NoPanic Q) oi ok S (fun a' w' => wpOrsL P lo.toArray S (NoPanic Q) (pickOrs lo l2) a' w') w.drew) (pickPur2 lo l) a) : (Code.region id lo.toArray true).wp P Q a w := by
  subst hq
  unfold pairB at hB
  simp only [Bool.and_eq_true, decide_eq_true_eq] at hB
  obtain ⟨⟨b0, b1, b2⟩, ⟨b3, b4, b5⟩, b6, b7⟩ := hB
  refine wp_region_noPanic (wp_region_held_drew (S := S) hm hS fun _ => ?_)
  have hi' : lo.toArray[i]? = some oi := by simpa using hi
  have hk' : lo.toArray[k]? = some ok := by simpa using hk
  refine (congrArg (fun n => wpAnyH P .any lo.toArray (NoPanic Q) S n (Array.replicate lo.toArray.size false) a w.drew) b0).mpr ?_
  refine wpAnyH_pur2 hs (fun _ _ _ _ _ h => h) _ l _ _ _ hS b1 b2 ?_
  refine wpPur2_mono (fun a' h' => ?_) _ _ h
  obtain ⟨Si, Sk, Sik, h1, h2, h3, h4, h5⟩ := h'
  exact wpAnyH_pair i k oi ok hi' hk' gi gk nik b3 b4 b5 Si Sk Sik (fun v u => Act.put_comm _ u v di) h1 h2 h3 h4 fun v u w' e f =>
    wpAnyH_of_ors hs (fun _ _ _ _ _ h => h) l2 _ _ _ _ (Nat.le_refl _) b6 e (wpOrs_of_L _ _ _ _ b7 (h5 v u w' e f))
end Go.Proofs.YthpendoblgndcaaDoor
/- Contract: package tree's Make. Conditions: at most 900 entries, all bytes together at most 2^61, paths shorter than 2^61 bytes. -/
namespace Go.Proofs.YthpendoblgndcaaDoor
open Go.RowKit
def dirE (p : ByteArray) : Ent := (p, true, .slice none 0 0, [])
def makeP (C : List Ent) (p : ByteArray) : List Ent × Int :=
  if askT C [p] ≠ 0 then (C, askT C [p]) else if hasT C p.data.toList = true then (C, 6) else if roomT C p.data.toList ≠ 0 then (C, roomT C p.data.toList) else
  if fitsT (putL C (dirE p)) = true then (putL C (dirE p), 0) else (C, 9)
noncomputable def chkMk : Array Oper := regOf Tryd.f10.body 10
set_option maxRecDepth 100000 in
theorem chkMk_ok : pairB chkMk [0, 1, 2, 4, 5, 6] 3 7 [(8, false), (9, false), (10, true), (11, true), (12, false), (13, true)] = true := by kernel_rfl
set_option maxHeartbeats 16000000 in
set_option maxRecDepth 100000 in
theorem tmake_any (C : List Ent) (q : Option Addr) (c : Nat) (p : ByteArray) (hm : C.length ≤ 900) (hcap : C.length ≤ c) (hq : q = none → c = 0) (hb : bytesT C ≤ 2305843009213693952) (hn : ∀ e ∈ C, e.1.size < 9223372036854775808) (hp : p.size < 2305843009213693952)
    (w : World) (hs : Sees w w.heap.size q (rowC C)) (hE : Ents w C) :
    Calls Tryd.prog 10 #[.agg #[.slice q C.length c], .string p] w fun e w' => (∃ v, e = .returned (.tuple #[.agg #[v], .int .i64 (makeP C p).2]) ∧ ResT w' w.heap.size (.slice q C.length c) C v (makeP C p).1) ∧ Below w.heap.size w w' := by
  have HAK : Hid (∀ w1 (_ : Below w.heap.size w w1) q2 (_ : Sees w1 w1.heap.size q2 ([p].map Value.string)), Calls Tryd.prog 32 #[.agg #[.slice q C.length c], .slice q2 1 1] w1 fun e w' => e = .returned (.int .i64 (askT C [p])) ∧ Below w1.heap.size w1 w') :=
    Lib.hid (fun w1 h q2 h2 => tasked_any C q c [p] q2 1 (by omega) hcap (by omega) hn (by simp) (by simp; omega) w1 ((hs.keep h).more h.size) (hE.keep h) h2)
  have HUP := Lib.hid (fun (hA : AscE C) w1 (h : Below w.heap.size w w1) => tupIn_any C q c p (by omega) hn hA hp w1 ((hs.keep h).more h.size))
  have HWH := Lib.hid (fun (hA : AscE C) w1 (h : Below w.heap.size w w1) => twhere_any C q c p (by omega) hn (by omega) (hA.up _) w1 ((hs.keep h).more h.size))
  have HCL := Lib.hid (fun w1 (h : Below w.heap.size w w1) => tclone_any C q c (by omega) w1 hq ((hs.keep h).more h.size) (hE.keep h))
  have HINS := Lib.hid (fun e v base g2 i h1 w1 hO hb0 hg2 h1C h1e hne => tinsert_any C e i v base g2 h1 (by omega) w1 hO hb0 hg2 h1C h1e hne)
  have HWI := Lib.hid (fun (D : List Ent) q1 c1 w1 (h1 : D.length ≤ 1000) (h2 : bytesT D ≤ 4611686018427387904) h3 h4 => twithin_any D q1 c1 q C.length c (by omega) h2 w1 h3 h4)
  have HTR : Hid (∀ w', Below w.heap.size w w' → TrV w' (.slice q C.length c) C ∧ Ents w' C) := Lib.hid (fun w' h => ⟨⟨q, c, rfl, hcap, hq, (hs.keep h).more h.size⟩, hE.keep h⟩)
  have HONE := Lib.hid (one_row hE)
  have HB : Hid (Below w.heap.size w ((w.alloc (.cells #[.slice q C.length c] 25)).alloc (.cells #[.slice none 0 0] 25))) := Lib.hid (((Below.refl _ _).alloc (Nat.le_refl _) _).alloc (by simp) _)
  have HX : Hid (Has ((w.alloc (.cells #[.slice q C.length c] 25)).alloc (.cells #[.slice none 0 0] 25)) w.heap.size 25 [.slice q C.length c]) := Lib.hid ((Has.made w _ _).alloc _)
  have HY : Hid (Has ((w.alloc (.cells #[.slice q C.length c] 25)).alloc (.cells #[.slice none 0 0] 25)) (w.heap.size + 1) 25 [.slice none 0 0]) := Lib.hid (Has.made1 w _ _ _ _ rfl)
  have HS1 : Hid (Sees (((w.alloc (.cells #[.slice q C.length c] 25)).alloc (.cells #[.slice none 0 0] 25)).alloc (.cells #[.string p] 9)) (((w.alloc (.cells #[.slice q C.length c] 25)).alloc (.cells #[.slice none 0 0] 25)).alloc (.cells #[.string p] 9)).heap.size (some ⟨w.heap.size + 1 + 1, 0, none⟩) ([p].map Value.string)) := Lib.hid (has_sees (by have h := Has.made1 (w.alloc (.cells #[.slice q C.length c] 25)) (.cells #[.slice none 0 0] 25) 9 #[.string p] _ rfl; simpa using h))
  have HPB := Lib.hid (putL_bytes C (dirE p))
  have HPL : Hid ((putL C (dirE p)).length = C.length + (if hasT C p.data.toList = true then 0 else 1)) := Lib.hid (putL_len C (dirE p))
  have HPM := Lib.hid (fun y => putL_mem (C := C) (e := dirE p) (y := y))
  have HPE : Hid (putL C (dirE p) = C.take (posT C p.data.toList) ++ dirE p :: C.drop (if hasT C p.data.toList = true then posT C p.data.toList + 1 else posT C p.data.toList)) := Lib.hid rfl
  have HPO : Hid (posT C p.data.toList ≤ C.length) := Lib.hid (posT_le C _)
  have HGD : Hid (askT C [p] = 0 → AscE C) := Lib.hid (fun h => goodP_asc (askT_good h).1)
  obtain ⟨V, hV⟩ : ∃ V, makeP C p = V := ⟨_, rfl⟩
  rw [hV]
  unfold makeP at hV
  have HV := Lib.hid hV
  generalize putL C (dirE p) = DD at *
  generalize askT C [p] = AK at *
  generalize roomT C p.data.toList = RM at *
  generalize hasT C p.data.toList = HS at *
  generalize posT C p.data.toList = PS at *
  clear hs hE hn hq hV
  go_enter Tryd.func10, Tryd.ntmps10
  go_wp2_with fail
  refine (HAK.out _ (HB.out.alloc HB.out.size _) _ HS1.out).mono ?_
  rintro e w1 ⟨rfl, hb1⟩
  replace HX := Lib.hid ((HX.out.alloc _).keep hb1 (HX.out.alloc _).lt)
  replace HY := Lib.hid ((HY.out.alloc _).keep hb1 (HY.out.alloc _).lt)
  replace HB := Lib.hid ((HB.out.alloc HB.out.size _).trans (hb1.mono (HB.out.alloc HB.out.size _).size))
  have hle : w.heap.size ≤ w.heap.size + 1 := by omega
  clear hb1 HS1 HAK
  by_cases hA : AK = 0
  · subst hA
    have HAS := Lib.hid (HGD.out rfl)
    replace HUP := Lib.hid (HUP.out HAS.out)
    replace HWH := Lib.hid (HWH.out HAS.out)
    have cx := HX.out.cellv (i := 0) (v := .slice q C.length c) rfl
    clear HGD
    go_wp2_with fail
    refine (HWH.out _ HB.out).mono ?_
    rintro e w2 ⟨rfl, hb1⟩
    replace HB := Lib.hid (HB.out.trans (hb1.mono HB.out.size))
    replace HX := Lib.hid (HX.out.keep hb1 HX.out.lt)
    replace HY := Lib.hid (HY.out.keep hb1 HY.out.lt)
    clear hb1 cx
    cases HS with
    | true =>
      have cx := HX.out.cellv (i := 0) (v := .slice q C.length c) rfl
      have cy := HY.out.cellv (i := 0) (v := .slice none 0 0) rfl
      have fy := HY.out.free 0
      have hv : V = (C, 6) := by rw [← HV.out]; simp
      subst hv
      go_wp2_with fail
      have cz : (w2.setCell ⟨w.heap.size + 1, 0, none⟩ (.slice q C.length c)).cell? ⟨w.heap.size + 1, 0, none⟩ = some (.slice q C.length c) := World.cell?_setCell_same' _ _ _ (by rw [cy]; rfl)
      refine bodyPost_ret (by simp [results, Tryd.results10, go_sem, cz]; try rfl) rfl ?_
      have hbz := HB.out.setCell (p := ⟨w.heap.size + 1, 0, none⟩) hle (.slice q C.length c)
      exact ⟨⟨.slice q C.length c, rfl, ResT.old _ _ _ _⟩, hbz⟩
    | false =>
    have cx := HX.out.cellv (i := 0) (v := .slice q C.length c) rfl
    go_wp2_with fail
    refine (HUP.out _ HB.out).mono ?_
    rintro e w3 ⟨rfl, hb1⟩
    replace HB := Lib.hid (HB.out.trans (hb1.mono HB.out.size))
    replace HX := Lib.hid (HX.out.keep hb1 HX.out.lt)
    replace HY := Lib.hid (HY.out.keep hb1 HY.out.lt)
    clear hb1 cx
    by_cases hr : RM = 0
    · subst hr
      have hle2 := HB.out.size
      go_wp2_with fail
      refine wp_region_pair [0, 1, 2, 4, 5, 6] 3 7 [(8, false), (9, false), (10, true), (11, true), (12, false), (13, true)] _ _ rfl rfl rfl rfl (by decide) (by intro d h; cases h; decide) (by kernel_rfl) (by kernel_rfl) _ chkMk_ok rfl (fun w' => Below w.heap.size w w' ∧ Has w' w.heap.size 25 [.slice q C.length c]) ⟨HB.out.drew, HX.out.drew⟩ ?_
      replace HB := Lib.hid HB.out.drew
      replace HX := Lib.hid HX.out.drew
      replace HY := Lib.hid HY.out.drew
      replace hle2 : w.heap.size ≤ w3.drew.heap.size := hle2
      generalize w3.drew = wd at *
      have HYL := Lib.hid HY.out.lt
      simp only [pickPur2, pickOrs, List.getElem?_cons_zero, List.getElem?_cons_succ]
      refine pur_step2 (v := ?_) (by kernel_rfl) ?_ ?_
      rotate_left
      · intro w' hv; have cx := hv.2.cellv (i := 0) (v := .slice q C.length c) rfl; clear hv; go_simp; try with_reducible rfl
      try simp only [Act.put, List.setIfInBounds_toArray, List.set_cons_zero, List.set_cons_succ]
      refine pur_step2 (v := ?_) (by kernel_rfl) ?_ ?_
      rotate_left
      · intro w' hv; clear hv; go_simp; try with_reducible rfl
      try simp only [Act.put, List.setIfInBounds_toArray, List.set_cons_zero, List.set_cons_succ]
      refine pur_step2 (v := ?_) (by kernel_rfl) ?_ ?_
      rotate_left
      · intro w' hv; have cx := hv.2.cellv (i := 0) (v := .slice q C.length c) rfl; clear hv; go_simp; try with_reducible rfl
      try simp only [Act.put, List.setIfInBounds_toArray, List.set_cons_zero, List.set_cons_succ]
      refine pur_step2 (v := ?_) (by kernel_rfl) ?_ ?_
      rotate_left
      · intro w' hv; clear hv; go_simp; try with_reducible rfl
      try simp only [Act.put, List.setIfInBounds_toArray, List.set_cons_zero, List.set_cons_succ]
      refine pur_step2 (v := ?_) (by kernel_rfl) ?_ ?_
      rotate_left
      · intro w' hv; clear hv; go_simp; try with_reducible rfl
      try simp only [Act.put, List.setIfInBounds_toArray, List.set_cons_zero, List.set_cons_succ]
      refine pur_step2 (v := ?_) (by kernel_rfl) ?_ ?_
      rotate_left
      · intro w' hv; clear hv; go_simp; try with_reducible rfl
      try simp only [Act.put, List.setIfInBounds_toArray, List.set_cons_zero, List.set_cons_succ]
      refine pur_nil2 ?_
      refine ⟨fun v w1 => (Below w.heap.size w w1 ∧ Has w1 w.heap.size 25 [.slice q C.length c]) ∧ OwnT w1 wd.heap.size v C ∧ wd.heap.size ≤ w1.heap.size ∧ Has w1 (w.heap.size + 1) 25 [.slice none 0 0],
        fun u w1 => (Below w.heap.size w w1 ∧ Has w1 w.heap.size 25 [.slice q C.length c]) ∧ (∃ g, u = .slice (some ⟨g, 0, none⟩) 1 1 ∧ Has w1 g 32 (entC (dirE p))) ∧ wd.heap.size ≤ w1.heap.size ∧ Has w1 (w.heap.size + 1) 25 [.slice none 0 0],
        fun v u w1 => OwnT w1 wd.heap.size v C ∧ (∃ g, u = .slice (some ⟨g, 0, none⟩) 1 1 ∧ Has w1 g 32 (entC (dirE p)) ∧ ∀ k, Value.ownBlock v = some k → g ≠ k) ∧ wd.heap.size ≤ w1.heap.size ∧ Has w1 (w.heap.size + 1) 25 [.slice none 0 0], ?_, ?_, ?_, ?_, ?_⟩
      · intro K hK
        go_wp2_with fail
        refine (HCL.out _ HB.out).mono ?_
        rintro e w4 ⟨⟨v4, rfl, hO4⟩, hb1⟩
        have hS : Below w.heap.size w w4 ∧ Has w4 w.heap.size 25 [.slice q C.length c] := ⟨HB.out.trans (hb1.mono HB.out.size), HX.out.keep hb1 HX.out.lt⟩
        exact hK _ _ hS ⟨hS, hO4, hb1.size, HY.out.keep hb1 HY.out.lt⟩
      · intro K hK
        go_wp2_with fail
        have hS : Below w.heap.size w (wd.alloc (.cells #[.string p, .bool true, .slice none 0 0] 32)) ∧ Has (wd.alloc (.cells #[.string p, .bool true, .slice none 0 0] 32)) w.heap.size 25 [.slice q C.length c] := ⟨HB.out.alloc HB.out.size _, HX.out.alloc _⟩
        exact hK _ _ hS ⟨hS, ⟨_, rfl, Has.made' wd _ _ _ rfl⟩, by simp, HY.out.alloc _⟩
      · rintro v w1 ⟨⟨hs1, hs2⟩, hO1, hsz, hY1⟩ K hK
        go_wp2_with fail
        have hS : Below w.heap.size w (w1.alloc (.cells #[.string p, .bool true, .slice none 0 0] 32)) ∧ Has (w1.alloc (.cells #[.string p, .bool true, .slice none 0 0] 32)) w.heap.size 25 [.slice q C.length c] := ⟨hs1.alloc hs1.size _, hs2.alloc _⟩
        exact hK _ _ hS ⟨hO1.alloc _, ⟨_, rfl, Has.made' w1 _ _ _ rfl, fun k hk => by have := (hO1.lt k hk).2; omega⟩, by simp; omega, hY1.alloc _⟩
      · rintro u w1 ⟨⟨hs1, hs2⟩, ⟨g, rfl, hG⟩, hsz, hY1⟩ K hK
        go_wp2_with fail
        refine (HCL.out _ hs1).mono ?_
        rintro e w4 ⟨⟨v4, rfl, hO4⟩, hb1⟩
        have hS : Below w.heap.size w w4 ∧ Has w4 w.heap.size 25 [.slice q C.length c] := ⟨hs1.trans (hb1.mono hs1.size), hs2.keep hb1 hs2.lt⟩
        exact hK _ _ hS ⟨hO4.less hsz, ⟨g, rfl, hG.keep hb1 hG.lt, fun k hk => by have h1 := (hO4.lt k hk).1; have h2 := hG.lt; omega⟩, Nat.le_trans hsz hb1.size, hY1.keep hb1 hY1.lt⟩
      · rintro v u w4 hS ⟨hO4, ⟨g, rfl, hG, hne⟩, hsz, hY4⟩
        have HS4 := Lib.hid hS
        have HY4 := Lib.hid hY4
        have HO4 := Lib.hid hO4
        have HG4 := Lib.hid hG
        have HNE := Lib.hid hne
        obtain ⟨x4, m4, k4, rfl⟩ := own_slice' hO4
        clear hS hY4 hO4 hG hne
        try simp only [Act.put, List.setIfInBounds_toArray, List.set_cons_zero, List.set_cons_succ]
        refine ors_step (by kernel_rfl) (fun K hK => ?_)
        go_wp2_with fail
        refine (HINS.out (dirE p) _ wd.heap.size g PS HPO.out w4 HO4.out hsz HG4.out HONE.out rfl HNE.out).mono ?_
        rintro e w5 ⟨⟨v5, rfl, hO5⟩, hb5⟩
        have HS5 : Hid (Below w.heap.size w w5 ∧ Has w5 w.heap.size 25 [.slice q C.length c]) := Lib.hid ⟨HS4.out.1.trans (hb5.mono hle2), HS4.out.2.keep hb5 (by have := HYL.out; omega)⟩
        have HY5 := Lib.hid (HY4.out.keep hb5 HYL.out)
        have hde : C.take PS ++ dirE p :: C.drop PS = DD := HPE.out.symm
        rw [hde] at hO5
        have hll : DD.length = C.length + 1 := HPL.out
        refine hK _ _ ⟨HS5.out, ?_⟩
        clear hK hb5 HS4 HY4 HO4 HG4 HNE HX HY HB
        rcases hO5.has with ⟨rfl, hC0⟩ | ⟨g5, cap5, l5, rfl, _, _, hcap5, _, _⟩
        · rw [hC0] at hll; simp at hll
        have HEN : Hid (∀ w', Below w.heap.size w w' → Ents w' DD) := Lib.hid (fun w' h y hy => by
          rcases HPM.out y hy with rfl | hy
          · exact Bs.nil _
          · exact (HTR.out _ h).2 y hy)
        have HWIX := Lib.hid (HWI.out DD (some ⟨g5, 0, none⟩) cap5 w5 (by omega) (by have h := HPB.out; have h2 : (dirE p).by.length = 0 := rfl; omega) (by
          obtain ⟨_, _, e, _, _, hs⟩ := hO5.tr
          cases e
          exact hs) (HEN.out _ HS5.out.1))
        have HOW := Lib.hid hO5
        rw [hll] at HWIX HOW ⊢
        clear hO5 hde hcap5
        generalize fitsT DD = FT at *
        try simp only [Act.put, List.setIfInBounds_toArray, List.set_cons_zero, List.set_cons_succ]
        cases FT with
        | true =>
          have hv : V = (DD, 0) := by rw [← HV.out]; simp
          subst hv
          refine ors_step (by kernel_rfl) (fun K hK => ?_)
          go_wp2_with fail
          refine HWIX.out.mono ?_
          rintro e w6 ⟨rfl, hb6⟩
          have HS6 : Hid (Below w.heap.size w w6 ∧ Has w6 w.heap.size 25 [.slice q C.length c]) := Lib.hid ⟨HS5.out.1.trans (hb6.mono HS5.out.1.size), HS5.out.2.keep hb6 HS5.out.2.lt⟩
          have HY6 := Lib.hid (HY5.out.keep hb6 HY5.out.lt)
          have HO6 := Lib.hid (HOW.out.keep hb6)
          refine hK _ _ ⟨HS6.out, ?_⟩
          simp only [if_true]
          clear hK hb6 HWIX HOW HS5 HY5
          try simp only [Act.put, List.setIfInBounds_toArray, List.set_cons_zero, List.set_cons_succ]
          refine ors_pure (v := ?_) (by kernel_rfl) ?_ ?_
          rotate_left
          · intro w' hv; clear hv; go_simp; try with_reducible rfl
          try simp only [Act.put, List.setIfInBounds_toArray, List.set_cons_zero, List.set_cons_succ]
          refine ors_pure (v := ?_) (by kernel_rfl) ?_ ?_
          rotate_left
          · intro w' hv; clear hv; go_simp; try with_reducible rfl
          try simp only [Act.put, List.setIfInBounds_toArray, List.set_cons_zero, List.set_cons_succ]
          have cy := HY6.out.cellv (i := 0) (v := .slice none 0 0) rfl
          have fy := HY6.out.free 0
          have hbz := HS6.out.1.setCell (p := ⟨w.heap.size + 1, 0, none⟩) hle (.slice (some ⟨g5, 0, none⟩) (C.length + 1) cap5)
          have HZZ : Hid (Below w.heap.size w (w6.setCell ⟨w.heap.size + 1, 0, none⟩ (.slice (some ⟨g5, 0, none⟩) (C.length + 1) cap5)) ∧ Has (w6.setCell ⟨w.heap.size + 1, 0, none⟩ (.slice (some ⟨g5, 0, none⟩) (C.length + 1) cap5)) w.heap.size 25 [.slice q C.length c]) := Lib.hid ⟨hbz, HS6.out.2.off (by show w.heap.size ≠ w.heap.size + 1; omega) _⟩
          refine ors_step (by kernel_rfl) (fun K hK => ?_)
          go_wp2_with fail
          refine ⟨HZZ.out, ?_⟩
          try simp only [Act.put, List.setIfInBounds_toArray, List.set_cons_zero, List.set_cons_succ]
          refine ors_pure (v := ?_) (by kernel_rfl) ?_ ?_
          rotate_left
          · intro w' hv; clear hv; go_simp; try with_reducible rfl
          try simp only [Act.put, List.setIfInBounds_toArray, List.set_cons_zero, List.set_cons_succ]
          refine ors_nil ?_
          go_wp2_with fail
          have cz : (w6.setCell ⟨w.heap.size + 1, 0, none⟩ (.slice (some ⟨g5, 0, none⟩) (C.length + 1) cap5)).cell? ⟨w.heap.size + 1, 0, none⟩ = some (.slice (some ⟨g5, 0, none⟩) (C.length + 1) cap5) := World.cell?_setCell_same' _ _ _ (by rw [cy]; rfl)
          refine bodyPost_ret (by simp [results, Tryd.results10, go_sem, cz]; try rfl) rfl ?_
          exact ⟨⟨_, rfl, .inr ((HO6.out.set (p := ⟨w.heap.size + 1, 0, none⟩) HYL.out _).less hle2), fun y hy => by
            rcases HPM.out y hy with rfl | hy
            · exact .inr (World.ownsRow_nil _ _ _ _)
            · exact .inl hy⟩, hbz⟩
        | false =>
          have hv : V = (C, 9) := by rw [← HV.out]; simp
          subst hv
          refine ors_step (by kernel_rfl) (fun K hK => ?_)
          go_wp2_with fail
          refine HWIX.out.mono ?_
          rintro e w6 ⟨rfl, hb6⟩
          have HS6 : Hid (Below w.heap.size w w6 ∧ Has w6 w.heap.size 25 [.slice q C.length c]) := Lib.hid ⟨HS5.out.1.trans (hb6.mono HS5.out.1.size), HS5.out.2.keep hb6 HS5.out.2.lt⟩
          have HY6 := Lib.hid (HY5.out.keep hb6 HY5.out.lt)
          have HO6 := Lib.hid (HOW.out.keep hb6)
          refine hK _ _ ⟨HS6.out, ?_⟩
          simp only [Bool.false_eq_true, if_false]
          clear hK hb6 HWIX HOW HS5 HY5
          try simp only [Act.put, List.setIfInBounds_toArray, List.set_cons_zero, List.set_cons_succ]
          refine ors_pure (v := ?_) (by kernel_rfl) ?_ ?_
          rotate_left
          · intro w' hv; clear hv; go_simp; try with_reducible rfl
          try simp only [Act.put, List.setIfInBounds_toArray, List.set_cons_zero, List.set_cons_succ]
          refine ors_pure (v := ?_) (by kernel_rfl) ?_ ?_
          rotate_left
          · intro w' hv; clear hv; go_simp; try with_reducible rfl
          try simp only [Act.put, List.setIfInBounds_toArray, List.set_cons_zero, List.set_cons_succ]
          have cy := HY6.out.cellv (i := 0) (v := .slice none 0 0) rfl
          have fy := HY6.out.free 0
          have hbz := HS6.out.1.setCell (p := ⟨w.heap.size + 1, 0, none⟩) hle (.slice q C.length c)
          have HZZ : Hid (Below w.heap.size w (w6.setCell ⟨w.heap.size + 1, 0, none⟩ (.slice q C.length c)) ∧ Has (w6.setCell ⟨w.heap.size + 1, 0, none⟩ (.slice q C.length c)) w.heap.size 25 [.slice q C.length c]) := Lib.hid ⟨hbz, HS6.out.2.off (by show w.heap.size ≠ w.heap.size + 1; omega) _⟩
          refine ors_step (by kernel_rfl) (fun K hK => ?_)
          go_wp2_with fail
          refine ⟨HZZ.out, ?_⟩
          try simp only [Act.put, List.setIfInBounds_toArray, List.set_cons_zero, List.set_cons_succ]
          refine ors_pure (v := ?_) (by kernel_rfl) ?_ ?_
          rotate_left
          · intro w' hv; clear hv; go_simp; try with_reducible rfl
          try simp only [Act.put, List.setIfInBounds_toArray, List.set_cons_zero, List.set_cons_succ]
          refine ors_nil ?_
          go_wp2_with fail
          have cz : (w6.setCell ⟨w.heap.size + 1, 0, none⟩ (.slice q C.length c)).cell? ⟨w.heap.size + 1, 0, none⟩ = some (.slice q C.length c) := World.cell?_setCell_same' _ _ _ (by rw [cy]; rfl)
          refine bodyPost_ret (by simp [results, Tryd.results10, go_sem, cz]; try rfl) rfl ?_
          exact ⟨⟨.slice q C.length c, rfl, ResT.old _ _ _ _⟩, hbz⟩
    · have kA : (RM = 0) = False := eq_false hr
      have kAb : (RM == 0) = false := by simpa using hr
      have kAn : (RM != 0) = true := by simpa using hr
      have cx := HX.out.cellv (i := 0) (v := .slice q C.length c) rfl
      have cy := HY.out.cellv (i := 0) (v := .slice none 0 0) rfl
      have fy := HY.out.free 0
      have hv : V = (C, RM) := by rw [← HV.out]; simp [hr]
      subst hv
      go_wp2_with fail
      have cz : (w3.setCell ⟨w.heap.size + 1, 0, none⟩ (.slice q C.length c)).cell? ⟨w.heap.size + 1, 0, none⟩ = some (.slice q C.length c) := World.cell?_setCell_same' _ _ _ (by rw [cy]; rfl)
      refine bodyPost_ret (by simp [results, Tryd.results10, go_sem, cz]; try rfl) rfl ?_
      have hbz := HB.out.setCell (p := ⟨w.heap.size + 1, 0, none⟩) hle (.slice q C.length c)
      exact ⟨⟨.slice q C.length c, rfl, ResT.old _ _ _ _⟩, hbz⟩
  · have kA : (AK = 0) = False := eq_false hA
    have kAb : (AK == 0) = false := by simpa using hA
    have kAn : (AK != 0) = true := by simpa using hA
    have cx := HX.out.cellv (i := 0) (v := .slice q C.length c) rfl
    have cy := HY.out.cellv (i := 0) (v := .slice none 0 0) rfl
    have fy := HY.out.free 0
    have hv : V = (C, AK) := by rw [← HV.out, if_pos hA]
    subst hv
    go_wp2_with fail
    have cz : (w1.setCell ⟨w.heap.size + 1, 0, none⟩ (.slice q C.length c)).cell? ⟨w.heap.size + 1, 0, none⟩ = some (.slice q C.length c) := World.cell?_setCell_same' _ _ _ (by rw [cy]; rfl)
    refine bodyPost_ret (by simp [results, Tryd.results10, go_sem, cz]; try rfl) rfl ?_
    have hbz := HB.out.setCell (p := ⟨w.heap.size + 1, 0, none⟩) hle (.slice q C.length c)
    exact ⟨⟨.slice q C.length c, rfl, ResT.old _ _ _ _⟩, hbz⟩
end Go.Proofs.YthpendoblgndcaaDoor
/- Contract: package tree's Put. Conditions: at most 900 entries, all bytes together at most 2^61, paths shorter than 2^61 bytes. -/
namespace Go.Proofs.YthpendoblgndcaaDoor
open Go.RowKit
def puttP (C : List Ent) (p : ByteArray) (b : List (BitVec 8)) (v : Value) : List Ent × Int := if askT C [p] ≠ 0 then (C, askT C [p]) else putP C p b v
set_option maxHeartbeats 16000000 in
set_option maxRecDepth 100000 in
theorem tput_any (C : List Ent) (q : Option Addr) (c : Nat) (p : ByteArray) (b : List (BitVec 8)) (qb : Option Addr) (cb : Nat) (hm : C.length ≤ 900) (hcap : C.length ≤ c) (hq : q = none → c = 0) (hb : bytesT C ≤ 2305843009213693952) (hn : ∀ e ∈ C, e.1.size < 9223372036854775808) (hp : p.size < 2305843009213693952) (hqb : qb = none → cb = 0) (hbl : b.length ≤ 9223372036854775807)
    (w : World) (hs : Sees w w.heap.size q (rowC C)) (hE : Ents w C) (hsb : Sees w w.heap.size qb (b.map u8v)) :
    Calls Tryd.prog 11 #[.agg #[.slice q C.length c], .string p, .slice qb b.length cb] w fun e w' => (∃ v v5, e = .returned (.tuple #[.agg #[v], .int .i64 (puttP C p b v5).2]) ∧ ResT w' w.heap.size (.slice q C.length c) C v (puttP C p b v5).1) ∧ Below w.heap.size w w' := by
  have HAK : Hid (∀ w1 (_ : Below w.heap.size w w1) q2 (_ : Sees w1 w1.heap.size q2 ([p].map Value.string)), Calls Tryd.prog 32 #[.agg #[.slice q C.length c], .slice q2 1 1] w1 fun e w' => e = .returned (.int .i64 (askT C [p])) ∧ Below w1.heap.size w1 w') :=
    Lib.hid (fun w1 h q2 h2 => tasked_any C q c [p] q2 1 (by omega) hcap (by omega) hn (by simp) (by simp; omega) w1 ((hs.keep h).more h.size) (hE.keep h) h2)
  have HPU := Lib.hid (fun (hA : AscE C) w1 (h : Below w.heap.size w w1) => tput0_any C q c p b qb cb hm hcap hq hb hn hA hp hqb hbl w1 ((hs.keep h).more h.size) (hE.keep h) ((hsb.keep h).more h.size))
  have HTR : Hid (∀ w', Below w.heap.size w w' → TrV w' (.slice q C.length c) C ∧ Ents w' C) := Lib.hid (fun w' h => ⟨⟨q, c, rfl, hcap, hq, (hs.keep h).more h.size⟩, hE.keep h⟩)
  have HGD : Hid (askT C [p] = 0 → AscE C) := Lib.hid (fun h => goodP_asc (askT_good h).1)
  have HB : Hid (Below w.heap.size w ((w.alloc (.cells #[.slice q C.length c] 25)).alloc (.cells #[.slice none 0 0] 25))) := Lib.hid (((Below.refl _ _).alloc (Nat.le_refl _) _).alloc (by simp) _)
  have HX : Hid (Has ((w.alloc (.cells #[.slice q C.length c] 25)).alloc (.cells #[.slice none 0 0] 25)) w.heap.size 25 [.slice q C.length c]) := Lib.hid ((Has.made w _ _).alloc _)
  have HY : Hid (Has ((w.alloc (.cells #[.slice q C.length c] 25)).alloc (.cells #[.slice none 0 0] 25)) (w.heap.size + 1) 25 [.slice none 0 0]) := Lib.hid (Has.made1 w _ _ _ _ rfl)
  have HS1 : Hid (Sees (((w.alloc (.cells #[.slice q C.length c] 25)).alloc (.cells #[.slice none 0 0] 25)).alloc (.cells #[.string p] 9)) (((w.alloc (.cells #[.slice q C.length c] 25)).alloc (.cells #[.slice none 0 0] 25)).alloc (.cells #[.string p] 9)).heap.size (some ⟨w.heap.size + 1 + 1, 0, none⟩) ([p].map Value.string)) := Lib.hid (has_sees (by have h := Has.made1 (w.alloc (.cells #[.slice q C.length c] 25)) (.cells #[.slice none 0 0] 25) 9 #[.string p] _ rfl; simpa using h))
  have HV : Hid (∀ v, puttP C p b v = if askT C [p] ≠ 0 then (C, askT C [p]) else putP C p b v) := Lib.hid (fun _ => rfl)
  generalize puttP C p b = PV at *
  generalize askT C [p] = AK at *
  clear hs hE hn hq hsb
  go_enter Tryd.func11, Tryd.ntmps11
  go_wp2_with fail
  refine (HAK.out _ (HB.out.alloc HB.out.size _) _ HS1.out).mono ?_
  rintro e w1 ⟨rfl, hb1⟩
  replace HX := Lib.hid ((HX.out.alloc _).keep hb1 (HX.out.alloc _).lt)
  replace HY := Lib.hid ((HY.out.alloc _).keep hb1 (HY.out.alloc _).lt)
  replace HB := Lib.hid ((HB.out.alloc HB.out.size _).trans (hb1.mono (HB.out.alloc HB.out.size _).size))
  have hle : w.heap.size ≤ w.heap.size + 1 := by omega
  clear hb1 HS1 HAK
  by_cases hA : AK = 0
  · subst hA
    have HPU2 := Lib.hid (HPU.out (HGD.out rfl))
    have cx := HX.out.cellv (i := 0) (v := .slice q C.length c) rfl
    clear HGD HPU
    go_wp2_with fail
    refine (HPU2.out _ HB.out).mono ?_
    rintro e w2 ⟨⟨v2, v5, rfl, hR⟩, hb1⟩
    have hv : putP C p b v5 = PV v5 := by rw [HV.out]; simp
    rw [hv] at hR ⊢
    obtain ⟨x2, m2, c2, rfl⟩ := hR.slice
    generalize hpv : PV v5 = P5 at *
    obtain ⟨DD, ER⟩ := P5
    simp only [] at hR ⊢
    have hY2 := HY.out.keep hb1 HY.out.lt
    have HYB := Lib.hid HY.out.lt
    have HBS := Lib.hid HB.out.size
    replace HB := Lib.hid (HB.out.trans (hb1.mono HB.out.size))
    have cy := hY2.cellv (i := 0) (v := .slice none 0 0) rfl
    have fy := hY2.free 0
    have HR := Lib.hid hR
    have HPV := Lib.hid hpv
    clear hb1 hv cx hY2 hR hpv
    go_wp2_with fail
    have cz : (w2.setCell ⟨w.heap.size + 1, 0, none⟩ (.slice x2 m2 c2)).cell? ⟨w.heap.size + 1, 0, none⟩ = some (.slice x2 m2 c2) := World.cell?_setCell_same' _ _ _ (by rw [cy]; rfl)
    refine bodyPost_ret (by simp [results, Tryd.results11, go_sem, cz]; try rfl) rfl ?_
    have hbz := HB.out.setCell (p := ⟨w.heap.size + 1, 0, none⟩) hle (.slice x2 m2 c2)
    exact ⟨⟨.slice x2 m2 c2, v5, by rw [HPV.out], by rw [HPV.out]; exact (HR.out.set HYB.out _).less HBS.out⟩, hbz⟩
  · have kA : (AK = 0) = False := eq_false hA
    have kAb : (AK == 0) = false := by simpa using hA
    have kAn : (AK != 0) = true := by simpa using hA
    have cx := HX.out.cellv (i := 0) (v := .slice q C.length c) rfl
    have cy := HY.out.cellv (i := 0) (v := .slice none 0 0) rfl
    have fy := HY.out.free 0
    have hv : PV undef = (C, AK) := by rw [HV.out, if_pos hA]
    go_wp2_with fail
    have cz : (w1.setCell ⟨w.heap.size + 1, 0, none⟩ (.slice q C.length c)).cell? ⟨w.heap.size + 1, 0, none⟩ = some (.slice q C.length c) := World.cell?_setCell_same' _ _ _ (by rw [cy]; rfl)
    refine bodyPost_ret (by simp [results, Tryd.results11, go_sem, cz]; try rfl) rfl ?_
    have hbz := HB.out.setCell (p := ⟨w.heap.size + 1, 0, none⟩) hle (.slice q C.length c)
    exact ⟨⟨.slice q C.length c, undef, by rw [hv], by rw [hv]; exact ResT.old _ _ _ _⟩, hbz⟩
end Go.Proofs.YthpendoblgndcaaDoor
/- Contract: the statements' own first look at package tree. No condition. -/
namespace Go.Proofs.YthpendoblgndcaaDoor
open Go.RowKit
theorem freeze_new (w : World) (cs : Array Value) (e : TypeId) (n : Nat) : (w.alloc (.cells cs e)).freeze ⟨w.heap.size, n, none⟩ 1 = w.alloc (.cells cs e (n, n + 1)) := by
  have hm : ∀ (a : Array Obj) (x : Obj) (f : Obj → Obj), (a.push x).modify a.size f = a.push (f x) := by
    intro a x f
    apply Array.ext
    · simp
    · intro i h1 h2
      simp only [Array.getElem_modify, Array.getElem_push]
      by_cases h : a.size = i
      · subst h; simp
      · have hi : i < a.size := by simp at h1; omega
        simp [h, hi]
  unfold World.freeze
  rw [if_neg (by decide)]
  show ({ w.alloc (.cells cs e) with heap := (w.heap.push (.cells cs e)).modify w.heap.size _ } : World) = _
  rw [hm]
  rfl
/-- A byte slice's literal, converted to its own type: the block's end is marked. -/
theorem conv_new (w : World) (cs : Array Value) (n c : Nat) :
    (convert 30 30 (.slice (some ⟨w.heap.size, 0, none⟩) n c)).run Tryd.prog (w.alloc (.cells cs 5)) =
      .ok (.slice (some ⟨w.heap.size, 0, none⟩) n c) (w.alloc (.cells cs 5 (cs.size, cs.size + 1))) := by
  have hsh : (w.alloc (.cells cs 5)).shape? w.heap.size = some (5, cs.size) := by
    have : (w.alloc (.cells cs 5)).heap[w.heap.size]? = some (.cells cs 5) := heap_alloc_new _ _
    unfold World.shape?
    rw [this]
  have hfr := freeze_new w cs 5 cs.size
  simp [convert, run_underlying Tryd.underlying30, run_underlying Tryd.underlying5, markStringish, hsh, hfr]
theorem made_sees (w : World) (x : List (BitVec 8)) (cs : Array Value) (f : Nat × Nat) (hx : cs = (x.map u8v).toArray) :
    Sees (w.alloc (.cells cs 5 f)) (w.heap.size + 1) (some ⟨w.heap.size, 0, none⟩) (x.map u8v) := fun _ =>
  ⟨_, rfl, Nat.lt_succ_self _, fun j u hu => by
    rw [Addr.add_mid, Nat.zero_add]
    exact (cell_of_row _ w.heap.size j cs 5 f (heap_alloc_new w _)).trans (by rw [hx]; simpa using hu)⟩
def pA : ByteArray := ⟨#[97]⟩
def pAB : ByteArray := ⟨#[97, 47, 98]⟩
theorem awk1 : makeP [] pA = ([dirE pA], 0) := by kernel_rfl
theorem awk2 (v : Value) : puttP [dirE pA] pAB [120] v = ([dirE pA, fileE pAB v [120]], 0) := by kernel_rfl
theorem awk3 (v : Value) : goodP [dirE pA, fileE pAB v [120]] = true := by kernel_rfl
theorem ResT.new {w : World} {base : Nat} {old v : Value} {C D : List Ent} (h : ResT w base old C v D) (hne : D ≠ C) : OwnT w base v D := by
  rcases h.1 with ⟨_, h⟩ | h
  · exact absurd h hne
  · exact h
set_option maxHeartbeats 8000000 in
set_option maxRecDepth 100000 in
theorem awake8_any (w : World) : Calls Tryd.prog 9 #[] w fun e w' => e = .returned (.bool true) ∧ Below w.heap.size w w' := by
  have H1 := Lib.hid (tmake_any [] none 0 pA (by simp) (by simp) (fun _ => rfl) (by simp [bytesT]) (fun _ h => by cases h) (by decide) w (Sees.nil _ _ _) (fun _ h => by cases h))
  rw [awk1] at H1
  go_enter Tryd.func9, Tryd.ntmps9
  go_wp2_with fail
  refine H1.out.mono ?_
  rintro e w1 ⟨⟨v1, rfl, hR1⟩, hb1⟩
  have hO1 := hR1.new (by simp)
  obtain ⟨q1, c1, rfl, hc1, hq1, hs1⟩ := hO1.tr
  have HB := Lib.hid hb1
  have HO1 := Lib.hid hO1
  have HC1 := Lib.hid hc1
  have HQ1 := Lib.hid hq1
  clear hb1 hR1 hO1 hc1 hq1 hs1 H1
  obtain ⟨w2, hA⟩ : ∃ w2, w2 = (w1.alloc (.cells #[.slice q1 1 c1] 25)).alloc (.cells #[.int .u8 120] 5 (1, 2)) := ⟨_, rfl⟩
  have hcv := conv_new (w1.alloc (.cells #[.slice q1 1 c1] 25)) #[.int .u8 120] 1 1
  rw [show (#[Value.int .u8 120] : Array Value).size = 1 from rfl, ← hA] at hcv
  simp only [World.size_alloc] at hcv
  have hB2 : Below w1.heap.size w1 w2 := by rw [hA]; exact ((Below.refl _ _).alloc (Nat.le_refl _) _).alloc (by simp) _
  have hX2 : Has w2 w1.heap.size 25 [.slice q1 1 c1] := by rw [hA]; exact (Has.made w1 _ _).alloc _
  have hS2 : Sees w2 w2.heap.size (some ⟨w1.heap.size + 1, 0, none⟩) ([120#8].map u8v) := by
    have h := (made_sees (w1.alloc (.cells #[.slice q1 1 c1] 25)) [120#8] #[.int .u8 120] (1, 2) rfl)
    rw [hA]
    simp only [World.size_alloc] at h ⊢
    exact h
  have H2 := Lib.hid (tput_any [dirE pA] q1 c1 pAB [120] (some ⟨w1.heap.size + 1, 0, none⟩) 1 (by simp) HC1.out HQ1.out (by simp [bytesT, dirE, Ent.by]) (fun e he => by rw [List.mem_singleton.1 he]; decide) (by decide) (fun h => by cases h) (by simp) w2
    (by obtain ⟨_, _, e, _, _, hs⟩ := (HO1.out.keep hB2).tr; cases e; exact hs) (fun e he => by rw [List.mem_singleton.1 he]; exact Bs.nil _) hS2)
  simp only [awk2] at H2
  have cx := hX2.cellv (i := 0) (v := .slice q1 1 c1) rfl
  have hcx : ((w1.alloc (.cells #[.slice q1 1 c1] 25))).cell? ⟨w1.heap.size, 0, none⟩ = some (.slice q1 1 c1) := (Has.made w1 _ _).cellv rfl
  have HB1 := HB
  replace HB := Lib.hid (HB.out.trans (hB2.mono HB.out.size))
  have HX2 := Lib.hid hX2
  have HBS := Lib.hid HB1.out.size
  clear hA hS2 hB2 hX2
  go_wp2_with fail
  refine H2.out.mono ?_
  rintro e w3 ⟨⟨v3, v5, rfl, hR3⟩, hb3⟩
  have hO3 := hR3.new (by simp)
  have hE3 : Bs w3 v5 [120] := (by
    rcases hR3.2 (fileE pAB v5 [120]) (by simp) with h | h
    · exact absurd (List.mem_singleton.1 h) (by intro h; cases h)
    · exact h.bs)
  obtain ⟨qb, cb, hv5, hcb, hqb, hsb⟩ := hE3
  have hv5' : v5 = .slice qb 1 cb := hv5
  subst hv5'
  have hX3 := HX2.out.keep hb3 HX2.out.lt
  have cy := hX3.cellv (i := 0) (v := .slice q1 1 c1) rfl
  have fy := hX3.free 0
  have hlt := HX2.out.lt
  rcases hO3.has with ⟨_, h0⟩ | ⟨g, cap, l, rfl, hgb, hG, hcap, hcm, hl⟩
  · cases h0
  have hw4 := hO3.set (p := ⟨w1.heap.size, 0, none⟩) hlt (.slice (some ⟨g, 0, none⟩) 2 cap)
  have hG4 : Has (w3.setCell ⟨w1.heap.size, 0, none⟩ (.slice (some ⟨g, 0, none⟩) 2 cap)) g 32 (rowC [dirE pA, fileE pAB (.slice qb 1 cb) [120]] ++ l) := hG.off (by show g ≠ w1.heap.size; omega) _
  have hB4 : Below w.heap.size w (w3.setCell ⟨w1.heap.size, 0, none⟩ (.slice (some ⟨g, 0, none⟩) 2 cap)) := (HB.out.trans (hb3.mono HB.out.size)).setCell (p := ⟨w1.heap.size, 0, none⟩) (by show w.heap.size ≤ w1.heap.size; exact HBS.out) _
  have cz : (w3.setCell ⟨w1.heap.size, 0, none⟩ (.slice (some ⟨g, 0, none⟩) 2 cap)).cell? ⟨w1.heap.size, 0, none⟩ = some (.slice (some ⟨g, 0, none⟩) 2 cap) := World.cell?_setCell_same' _ _ _ (by rw [cy]; rfl)
  have hcell1 := hG4.cellv (i := 1) (v := .bool true) rfl
  have hcell5 := hG4.cellv (i := 5) (v := .slice qb 1 cb) rfl
  have hOB : OwnB (w3.setCell ⟨w1.heap.size, 0, none⟩ (.slice (some ⟨g, 0, none⟩) 2 cap)) w2.heap.size (fileE pAB (.slice qb 1 cb) [120]) := by
    rcases hR3.2 (fileE pAB (.slice qb 1 cb) [120]) (by simp) with h | h
    · exact absurd (List.mem_singleton.1 h) (by intro h; cases h)
    · exact h.set hlt _
  have hsb4 : Sees (w3.setCell ⟨w1.heap.size, 0, none⟩ (.slice (some ⟨g, 0, none⟩) 2 cap)) (w3.setCell ⟨w1.heap.size, 0, none⟩ (.slice (some ⟨g, 0, none⟩) 2 cap)).heap.size qb ([120#8].map u8v) := by
    obtain ⟨q', c', e, _, _, h⟩ := hOB.bs
    cases e
    exact h
  have HG := Lib.hid (tgood_any [dirE pA, fileE pAB (.slice qb 1 cb) [120]] (some ⟨g, 0, none⟩) cap (by simp) hcap (by simp [bytesT, dirE, fileE, Ent.by]) (fun e he => by
      rcases List.mem_cons.1 he with rfl | he
      · decide
      · rw [List.mem_singleton.1 he]; show pAB.size < 9223372036854775808; decide) _ (has_seesE hG4) (fun e he => by
      rcases List.mem_cons.1 he with rfl | he
      · exact Bs.nil _
      · rw [List.mem_singleton.1 he]; exact hOB.bs))
  rw [awk3] at HG
  have hstr : (convert 30 9 (.slice qb 1 cb)).run Tryd.prog (w3.setCell ⟨w1.heap.size, 0, none⟩ (.slice (some ⟨g, 0, none⟩) 2 cap)) = .ok (.string ⟨#[120]⟩) (w3.setCell ⟨w1.heap.size, 0, none⟩ (.slice (some ⟨g, 0, none⟩) 2 cap)) := str_run [120] qb cb _ _ hsb4
  have HB4 := Lib.hid hB4
  clear hR3 hO3 hb3 hX3 hG hcap hcm hl hw4 hG4 hB4 hOB hsb4 hsb hv5 hcb hqb H2 hgb
  go_wp2_with fail
  refine HG.out.mono ?_
  rintro e w5 ⟨rfl, hb5⟩
  have HB5 := Lib.hid (HB4.out.trans (hb5.mono HB4.out.size))
  clear hb5 HG HB4 hstr hcell5 hcell1 cz cy fy
  go_wp2_with fail
  go_ret
  exact ⟨rfl, HB5.out⟩
end Go.Proofs.YthpendoblgndcaaDoor
/- Contract: bytes.Equal. No condition. -/
namespace Go.Proofs.YthpendoblgndcaaDoor
open Go.RowKit

theorem equal_any (x y : List (BitVec 8)) (q p : Option Addr) (c d : Nat) (w : World) (hx : Sees w w.heap.size q (x.map u8v)) (hy : Sees w w.heap.size p (y.map u8v)) :
    Calls Tryd.prog 68 #[.slice q x.length c, .slice p y.length d] w fun e w' => e = .returned (.bool (decide (x = y))) ∧ w = w' := by
  have h1 := str_run x q c _ w hx
  have h2 := str_run y p d _ w hy
  have h3 := strB_beq x y
  go_enter Tryd.func68, Tryd.ntmps68
  go_wp2_with fail
  go_ret
  exact ⟨rfl, rfl⟩
end Go.Proofs.YthpendoblgndcaaDoor
/- Contracts: package tree's sameEntry, slices.EqualFunc with it, Same. Conditions: at most 10^5 entries, all bytes together at most 2^62, paths shorter than 2^63 bytes. -/
namespace Go.Proofs.YthpendoblgndcaaDoor
open Go.RowKit
set_option maxHeartbeats 4000000 in
set_option maxRecDepth 100000 in
theorem tsame1_any (x y : ByteArray) (d d2 : Bool) (qb qb2 : Option Addr) (cb cb2 : Nat) (bb bb2 : List (BitVec 8)) (w : World) (h1 : Sees w w.heap.size qb (bb.map u8v)) (h2 : Sees w w.heap.size qb2 (bb2.map u8v)) :
    Calls Tryd.prog 43 #[.agg #[.string x, .bool d, .slice qb bb.length cb], .agg #[.string y, .bool d2, .slice qb2 bb2.length cb2]] w fun e w' => e = .returned (.bool (x.data.toList == y.data.toList && (d == d2 && decide (bb = bb2)))) ∧ Below w.heap.size w w' := by
  have HB : Hid (Below w.heap.size w ((w.alloc (.cells #[.string x, .bool d, .slice qb bb.length cb] 32)).alloc (.cells #[.string y, .bool d2, .slice qb2 bb2.length cb2] 32))) := Lib.hid (((Below.refl _ _).alloc (Nat.le_refl _) _).alloc (by simp) _)
  have HE := Lib.hid (fun w1 h1 h2 => equal_any bb bb2 qb qb2 cb cb2 w1 h1 h2)
  have H1 : Hid (∀ w', Below w.heap.size w w' → Sees w' w'.heap.size qb (bb.map u8v)) := Lib.hid (fun w' h => (h1.keep h).more h.size)
  have H2 : Hid (∀ w', Below w.heap.size w w' → Sees w' w'.heap.size qb2 (bb2.map u8v)) := Lib.hid (fun w' h => (h2.keep h).more h.size)
  have hlx : x.toList = x.data.toList := Lib.toList_data x
  have hly : y.toList = y.data.toList := Lib.toList_data y
  clear h1 h2
  generalize decide (bb = bb2) = EB at *
  cases hxy : (x.data.toList == y.data.toList) with
  | false =>
    go_enter Tryd.func43, Tryd.ntmps43
    go_wp2_with fail
    go_ret
    exact ⟨rfl, HB.out⟩
  | true =>
    by_cases hd : d = d2
    · subst hd
      have kd : (d == d) = true := by cases d <;> rfl
      rw [kd]
      go_enter Tryd.func43, Tryd.ntmps43
      go_wp2_with (first | ((with_reducible refine (HE.out _ (H1.out _ HB.out) (H2.out _ HB.out)).mono ?_); rintro e w1 ⟨rfl, rfl⟩))
      go_ret
      exact ⟨rfl, HB.out⟩
    · have kd : (d == d2) = false := by simpa using hd
      rw [kd]
      go_enter Tryd.func43, Tryd.ntmps43
      go_wp2_with fail
      go_ret
      exact ⟨rfl, HB.out⟩
/-- Two entries alike; two lists of them. -/
def eqE (a b : Ent) : Bool := a.pa == b.pa && (a.dir == b.dir && decide (a.by = b.by))
def likeT : List Ent → List Ent → Bool
  | [], [] => true
  | a :: A, b :: B => eqE a b && likeT A B
  | _, _ => false
theorem likeT_len : ∀ {A B : List Ent}, A.length ≠ B.length → likeT A B = false
  | [], [], h => absurd rfl h
  | a :: A, b :: B, h => by rw [likeT, likeT_len (A := A) (B := B) (by simpa using h), Bool.and_false]
  | [], _ :: _, _ => rfl
  | _ :: _, [], _ => rfl
set_option maxHeartbeats 8000000 in
set_option maxRecDepth 100000 in
theorem tequalF_any (C D : List Ent) (q p : Option Addr) (c d : Nat) (hm : C.length ≤ 100000) (w : World) (hs : Sees w w.heap.size q (rowC C)) (ht : Sees w w.heap.size p (rowC D)) (hE : Ents w C) (hF : Ents w D) :
    Calls Tryd.prog 42 #[.slice q C.length c, .slice p D.length d, .func (.func 43) #[] #[]] w fun e w' => e = .returned (.bool (likeT C D)) ∧ Below w.heap.size w w' := by
  have HS := Lib.hid hs
  have HT := Lib.hid ht
  have HE := Lib.hid hE
  have HF := Lib.hid hF
  obtain ⟨V, hV⟩ : ∃ V, likeT C D = V := ⟨_, rfl⟩
  rw [hV]
  clear hs ht hE hF
  by_cases hl : C.length = D.length
  · have HV := Lib.hid hV
    rw [← hl]
    have HL := Lib.hid hl
    clear hV hl
    go_enter Tryd.func42, Tryd.ntmps42
    go_wp2_with fail
    go_loopw [7, 8, 9, 17] (fun _ _ _ vi wr => ∃ i : Nat, i ≤ C.length ∧ vi = .int .i64 i ∧ likeT (C.drop i) (D.drop i) = V ∧ Below w.heap.size w wr) (fun _ _ _ vi _ => C.length - (intOf vi).toNat)
    case atStart => exact ⟨0, by omega, rfl, HV.out, Below.refl _ _⟩
    case round =>
      rename_i wr
      obtain ⟨i, hi, rfl, hv, hB⟩ := hrel
      have HB := Lib.hid hB
      clear HV hB
      by_cases hlt : i < C.length
      · have hlt2 : i < D.length := by have := HL.out; omega
        obtain ⟨a, rfl, ha, hc⟩ := HS.out.ent hlt
        obtain ⟨a2, rfl, ha2, hc2⟩ := HT.out.ent hlt2
        obtain ⟨c1, c2, c3⟩ := hc wr HB.out
        have hc2' := fun o => hc2 (wr.alloc o) (HB.out.alloc HB.out.size o)
        obtain ⟨qb, cb, hv1, _, _, hb1⟩ := HE.out C[i] (List.getElem_mem hlt)
        obtain ⟨qb2, cb2, hv2, _, _, hb2⟩ := HF.out D[i] (List.getElem_mem hlt2)
        have kk : (i : Int) < (C.length : Int) := by omega
        rw [List.drop_eq_getElem_cons hlt, List.drop_eq_getElem_cons hlt2, likeT] at hv
        have H1 : Hid (∀ w', Below w.heap.size w w' → Sees w' w'.heap.size qb (C[i].by.map u8v)) := Lib.hid (fun w' h => (hb1.keep h).more h.size)
        have H2 : Hid (∀ w', Below w.heap.size w w' → Sees w' w'.heap.size qb2 (D[i].by.map u8v)) := Lib.hid (fun w' h => (hb2.keep h).more h.size)
        obtain ⟨e, he⟩ : ∃ e, C[i] = e := ⟨_, rfl⟩
        obtain ⟨e2, he2⟩ : ∃ e2, D[i] = e2 := ⟨_, rfl⟩
        rw [he] at c1 c2 c3 hv1 hv H1
        rw [he2] at hv2 hv H2
        simp only [he2] at hc2'
        obtain ⟨x, dd, bv, bb⟩ := e
        obtain ⟨y, dd2, bv2, bb2⟩ := e2
        have hv1' : bv = .slice qb (List.length bb) cb := hv1
        have hv2' : bv2 = .slice qb2 (List.length bb2) cb2 := hv2
        subst hv1'
        subst hv2'
        have o1 := fun o => (hc2' o).1
        have o2 := fun o => (hc2' o).2.1
        have o3 := fun o => (hc2' o).2.2
        simp only [] at c1 c2 c3 o1 o2 o3
        have HC := Lib.hid (fun w1 h1 h2 => tsame1_any x y dd dd2 qb qb2 cb cb2 bb bb2 w1 h1 h2)
        have hee : eqE (x, dd, Value.slice qb bb.length cb, bb) (y, dd2, Value.slice qb2 bb2.length cb2, bb2) = (x.data.toList == y.data.toList && (dd == dd2 && decide (bb = bb2))) := rfl
        rw [hee] at hv
        have HV := Lib.hid hv
        have H1' : Hid (∀ w', Below w.heap.size w w' → Sees w' w'.heap.size qb (bb.map u8v)) := H1
        have H2' : Hid (∀ w', Below w.heap.size w w' → Sees w' w'.heap.size qb2 (bb2.map u8v)) := H2
        clear hc hc2 hc2' ha ha2 he he2 hv1 hv2 hb1 hb2 hee hv H1 H2
        generalize (x.data.toList == y.data.toList && (dd == dd2 && decide (bb = bb2))) = EB at *
        have HB2 : Hid (Below w.heap.size w ((wr.alloc (.cells #[.string x, .bool dd, .slice qb bb.length cb] 32)).alloc (.cells #[.string y, .bool dd2, .slice qb2 bb2.length cb2] 32))) := Lib.hid ((HB.out.alloc HB.out.size _).alloc (by have := HB.out.size; simp; omega) _)
        cases EB with
        | true =>
          have HV2 : Hid (likeT (C.drop (i + 1)) (D.drop (i + 1)) = V) := HV
          go_wp2_with fail
          refine (HC.out _ (H1'.out _ HB2.out) (H2'.out _ HB2.out)).mono ?_
          rintro e w2 ⟨rfl, hb2⟩
          replace HB := Lib.hid (HB2.out.trans (hb2.mono HB2.out.size))
          clear hb2 c1 c2 c3 o1 o2 o3
          go_wp2_with fail
          go_roundw
          case rel => exact ⟨i + 1, by omega, by go_num, HV2.out, HB.out⟩
          case measure => simp [intOf]; omega
        | false =>
          have hv : V = false := HV.out.symm
          subst hv
          go_wp2_with fail
          refine (HC.out _ (H1'.out _ HB2.out) (H2'.out _ HB2.out)).mono ?_
          rintro e w2 ⟨rfl, hb2⟩
          replace HB := Lib.hid (HB2.out.trans (hb2.mono HB2.out.size))
          clear hb2 c1 c2 c3 o1 o2 o3
          go_wp2_with fail
          go_ret
          exact ⟨rfl, HB.out⟩
      · have hil : i = C.length := by omega
        subst hil
        have k0 : ¬ (C.length : Int) < (C.length : Int) := by omega
        have hv' : V = true := by rw [← hv, List.drop_length, HL.out, List.drop_length]; rfl
        subst hv'
        clear hlt hv
        go_wp2_with fail
        go_ret
        exact ⟨rfl, HB.out⟩
  · have hv : V = false := by rw [← hV, likeT_len hl]
    subst hv
    have kl : ((C.length : Int) = (D.length : Int)) = False := eq_false (by omega)
    have klb : ((C.length : Int) == (D.length : Int)) = false := by rw [beq_eq_false_iff_ne]; omega
    clear hV
    go_enter Tryd.func42, Tryd.ntmps42
    go_wp2_with fail
    go_ret
    exact ⟨rfl, Below.refl _ _⟩
def sameT (C D : List Ent) : Bool := goodP C && (goodP D && likeT C D)
set_option maxHeartbeats 8000000 in
set_option maxRecDepth 100000 in
theorem tsame_any (C D : List Ent) (q p : Option Addr) (c d : Nat) (hmC : C.length ≤ 100000) (hmD : D.length ≤ 100000) (hcC : C.length ≤ c) (hcD : D.length ≤ d) (hbC : bytesT C ≤ 4611686018427387904) (hbD : bytesT D ≤ 4611686018427387904) (hnC : ∀ e ∈ C, e.1.size < 9223372036854775808) (hnD : ∀ e ∈ D, e.1.size < 9223372036854775808)
    (w : World) (hs : Sees w w.heap.size q (rowC C)) (ht : Sees w w.heap.size p (rowC D)) (hE : Ents w C) (hF : Ents w D) :
    Calls Tryd.prog 15 #[.agg #[.slice q C.length c], .agg #[.slice p D.length d]] w fun e w' => e = .returned (.bool (sameT C D)) ∧ Below w.heap.size w w' := by
  have HGC := Lib.hid (fun w1 (h : Below w.heap.size w w1) => tgood_any C q c hmC hcC hbC hnC w1 ((hs.keep h).more h.size) (hE.keep h))
  have HGD := Lib.hid (fun w1 (h : Below w.heap.size w w1) => tgood_any D p d hmD hcD hbD hnD w1 ((ht.keep h).more h.size) (hF.keep h))
  have HEQ := Lib.hid (fun w1 (h : Below w.heap.size w w1) => tequalF_any C D q p c d hmC w1 ((hs.keep h).more h.size) ((ht.keep h).more h.size) (hE.keep h) (hF.keep h))
  have HB : Hid (Below w.heap.size w ((w.alloc (.cells #[.slice q C.length c] 25)).alloc (.cells #[.slice p D.length d] 25))) := Lib.hid (((Below.refl _ _).alloc (Nat.le_refl _) _).alloc (by simp) _)
  have HX : Hid (Has ((w.alloc (.cells #[.slice q C.length c] 25)).alloc (.cells #[.slice p D.length d] 25)) w.heap.size 25 [.slice q C.length c]) := Lib.hid ((Has.made w _ _).alloc _)
  have HY : Hid (Has ((w.alloc (.cells #[.slice q C.length c] 25)).alloc (.cells #[.slice p D.length d] 25)) (w.heap.size + 1) 25 [.slice p D.length d]) := Lib.hid (Has.made1 w _ _ _ _ rfl)
  unfold sameT
  clear hs ht hE hF
  generalize goodP C = GC at *
  generalize goodP D = GD at *
  generalize likeT C D = LK at *
  go_enter Tryd.func15, Tryd.ntmps15
  go_wp2_with fail
  refine (HGC.out _ HB.out).mono ?_
  rintro e w1 ⟨rfl, hb⟩
  replace HB := Lib.hid (HB.out.trans (hb.mono HB.out.size))
  replace HX := Lib.hid (HX.out.keep hb HX.out.lt)
  replace HY := Lib.hid (HY.out.keep hb HY.out.lt)
  clear hb
  cases GC with
  | false =>
    go_wp2_with fail
    go_ret
    exact ⟨rfl, HB.out⟩
  | true =>
    have cy := HY.out.cellv (i := 0) (v := .slice p D.length d) rfl
    go_wp2_with fail
    refine (HGD.out _ HB.out).mono ?_
    rintro e w2 ⟨rfl, hb⟩
    replace HB := Lib.hid (HB.out.trans (hb.mono HB.out.size))
    replace HX := Lib.hid (HX.out.keep hb HX.out.lt)
    replace HY := Lib.hid (HY.out.keep hb HY.out.lt)
    clear hb cy
    cases GD with
    | false =>
      go_wp2_with fail
      go_ret
      exact ⟨rfl, HB.out⟩
    | true =>
      have cy := HY.out.cellv (i := 0) (v := .slice p D.length d) rfl
      have cx := HX.out.cellv (i := 0) (v := .slice q C.length c) rfl
      go_wp2_with fail
      refine (HEQ.out _ HB.out).mono ?_
      rintro e w3 ⟨rfl, hb⟩
      replace HB := Lib.hid (HB.out.trans (hb.mono HB.out.size))
      clear hb cy cx
      go_wp2_with fail
      go_ret
      exact ⟨rfl, HB.out⟩
end Go.Proofs.YthpendoblgndcaaDoor
/- Plain laws of trees that may be: what makes one; what is worked on taken away; kids counted. No condition. -/
namespace Go.Proofs.YthpendoblgndcaaDoor
open Go.RowKit
theorem atT_app {A B : List Ent} {u : Tx} (h : ∀ e ∈ B, e.pa ≠ u) : atT (A ++ B) u = atT A u := by
  induction A with
  | nil => rw [List.nil_append, atT_no h]; rfl
  | cons x A ih => rw [List.cons_append, atT, atT, ih]
theorem dirT_app {A B : List Ent} {k : Nat} (h : k < A.length) : dirT (A ++ B) k = dirT A k := by
  unfold dirT; rw [List.getElem?_append_left h]
theorem roomT_app {A B : List Ent} {p : Tx} (h : ∀ e ∈ B, e.pa ≠ upV p) : roomT (A ++ B) p = roomT A p := by
  have hlt := atT_lt A (upV p)
  unfold roomT
  rw [atT_app h]
  by_cases h0 : upV p = []
  · rw [if_pos h0, if_pos h0]
  · rw [if_neg h0, if_neg h0]
    by_cases h1 : atT A (upV p) < 0
    · rw [if_pos h1, if_pos h1]
    · rw [if_neg h1, if_neg h1, dirT_app (by omega)]
theorem up_before {p : Tx} (h : okPath p = true) (hu : upV p ≠ []) : cmpL (upV p) p < 0 := by
  have e : upV p = upL p := by unfold upV; rw [if_pos h]
  rw [e] at hu ⊢
  rw [(up_within h hu).2.1]; decide
theorem okEnt_path {e : Ent} (h : okEnt e = true) : okPath e.pa = true := by
  unfold okEnt at h
  rw [Bool.and_eq_true, Bool.and_eq_true] at h
  exact h.2.1
theorem prev_of_asc {pre : List Ent} {x : Ent} {C : List Ent} (h : AscE (pre ++ x :: C)) : prevB pre.getLast? x.pa = true := by
  rcases List.eq_nil_or_concat pre with rfl | ⟨L, y, rfl⟩
  · rfl
  · rw [List.concat_eq_append, List.getLast?_concat]
    rw [List.concat_eq_append, List.append_assoc] at h
    have h1 := (List.pairwise_append.1 h).2.1
    exact decide_eq_true ((List.pairwise_cons.1 h1).1 x (List.mem_cons_self ..))
theorem room_prefix {pre : List Ent} {x : Ent} {C : List Ent} (h : AscE (pre ++ x :: C)) (hx : okPath x.pa = true) : roomT (pre ++ x :: C) x.pa = roomT pre x.pa := by
  by_cases h0 : upV x.pa = []
  · unfold roomT; rw [if_pos h0, if_pos h0]
  · refine roomT_app fun e he k => ?_
    have hb := up_before hx h0
    rw [← k] at hb
    rcases List.mem_cons.1 he with rfl | he
    · rw [cmpL_self] at hb; omega
    · have h1 := (List.pairwise_cons.1 (List.pairwise_append.1 h).2.1).1 e he
      have h2 := cmpL_lt_le hb (Int.le_of_lt h1)
      rw [cmpL_self] at h2; omega
theorem goodQ_iff : ∀ (C pre : List Ent), AscE pre → (goodQ pre C = true ↔ AscE (pre ++ C) ∧ (∀ e ∈ C, okEnt e = true) ∧ ∀ e ∈ C, roomT (pre ++ C) e.pa = 0)
  | [], pre, h => by
    rw [List.append_nil]
    exact ⟨fun _ => ⟨h, (fun _ hx => nomatch hx), (fun _ hx => nomatch hx)⟩, fun _ => rfl⟩
  | x :: C, pre, h => by
    have happ : pre ++ [x] ++ C = pre ++ x :: C := by rw [List.append_assoc]; rfl
    rw [goodQ, Bool.and_eq_true, Bool.and_eq_true, Bool.and_eq_true, decide_eq_true_eq]
    constructor
    · rintro ⟨h1, h2, h3, h4⟩
      have ih := (goodQ_iff C (pre ++ [x]) (h.snoc h2)).1 h4
      rw [happ] at ih
      refine ⟨ih.1, fun e he => ?_, fun e he => ?_⟩
      · rcases List.mem_cons.1 he with rfl | he
        · exact h1
        · exact ih.2.1 e he
      · rcases List.mem_cons.1 he with rfl | he
        · rw [room_prefix ih.1 (okEnt_path h1)]; exact h3
        · exact ih.2.2 e he
    · rintro ⟨h1, h2, h3⟩
      have hx := h2 x (List.mem_cons_self ..)
      have hp := prev_of_asc h1
      refine ⟨hx, hp, ?_, (goodQ_iff C (pre ++ [x]) (h.snoc hp)).2 ⟨by rw [happ]; exact h1, fun e he => h2 e (List.mem_cons_of_mem _ he), fun e he => by rw [happ]; exact h3 e (List.mem_cons_of_mem _ he)⟩⟩
      rw [← room_prefix h1 (okEnt_path hx)]
      exact h3 x (List.mem_cons_self ..)
/-- What makes a tree that may be. -/
theorem goodP_iff (C : List Ent) : goodP C = true ↔ fitsT C = true ∧ AscE C ∧ (∀ e ∈ C, okEnt e = true) ∧ ∀ e ∈ C, roomT C e.pa = 0 := by
  unfold goodP
  rw [Bool.and_eq_true, goodQ_iff C [] List.Pairwise.nil, List.nil_append]
theorem atT_mem {C : List Ent} {u : Tx} (h : 0 ≤ atT C u) : ∃ e ∈ C, e.pa = u := by
  induction C with
  | nil => exact absurd (show (0 : Int) ≤ -1 from h) (by decide)
  | cons x C ih =>
    unfold atT at h
    split at h
    · exact ⟨x, List.mem_cons_self .., by assumption⟩
    · split at h
      · exact absurd h (by decide)
      · obtain ⟨e, he, k⟩ := ih (by omega)
        exact ⟨e, List.mem_cons_of_mem _ he, k⟩
theorem atT_has {C : List Ent} {e : Ent} (he : e ∈ C) : 0 ≤ atT C e.pa := by
  rcases Int.lt_or_le (atT C e.pa) 0 with h | h
  · exfalso
    induction C with
    | nil => cases he
    | cons x C ih =>
      unfold atT at h
      split at h
      · omega
      · rcases List.mem_cons.1 he with rfl | he
        · contradiction
        · refine ih he ?_
          split at h
          · assumption
          · omega
  · exact h
theorem asc_one {C : List Ent} (h : AscE C) {a b : Ent} (ha : a ∈ C) (hb : b ∈ C) (k : a.pa = b.pa) : a = b := by
  obtain ⟨i, hi, rfl⟩ := List.getElem_of_mem ha
  obtain ⟨j, hj, rfl⟩ := List.getElem_of_mem hb
  rcases Nat.lt_trichotomy i j with h1 | h1 | h1
  · have := h.lt hi hj h1; rw [k, cmpL_self] at this; omega
  · subst h1; rfl
  · have := h.lt hj hi h1; rw [k, cmpL_self] at this; omega
/-- What something stands in, in order: a directory of that path is there. -/
theorem room_iff {C : List Ent} (h : AscE C) {p : Tx} (h0 : upV p ≠ []) : roomT C p = 0 ↔ ∃ e ∈ C, e.pa = upV p ∧ e.dir = true := by
  have key : ∀ e ∈ C, e.pa = upV p → dirT C (atT C (upV p)).toNat = e.dir := fun e he k => by
    have h1 := atT_has he
    rw [k] at h1
    have hl := atT_lt C (upV p)
    have hi : (atT C (upV p)).toNat < C.length := by omega
    rcases asc_at h (upV p) with ⟨h2, h3, h4⟩ | ⟨h2, h3⟩
    · unfold dirT
      rw [List.getElem?_eq_getElem hi]
      have hp : C[(atT C (upV p)).toNat].pa = upV p := by
        have e1 : (atT C (upV p)).toNat = posT C (upV p) := by omega
        simp only [e1]
        unfold hasT at h2
        rw [List.getElem?_eq_getElem h4] at h2
        exact cmpL_zero.1 (of_decide_eq_true h2)
      have := asc_one h (List.getElem_mem hi) he (hp.trans k.symm)
      rw [this]; rfl
    · omega
  unfold roomT
  rw [if_neg h0]
  constructor
  · intro hr
    split at hr
    · cases hr
    · rename_i hx
      obtain ⟨e, he, k⟩ := atT_mem (Int.not_lt.1 hx)
      refine ⟨e, he, k, ?_⟩
      rw [key e he k] at hr
      split at hr
      · assumption
      · cases hr
  · rintro ⟨e, he, k, hd⟩
    have h1 := atT_has he
    rw [k] at h1
    rw [if_neg (by omega), key e he k, hd, if_pos rfl]
theorem bytesT_filter (C : List Ent) (f : Ent → Bool) : bytesT (C.filter f) ≤ bytesT C := by
  induction C with
  | nil => exact Nat.le_refl _
  | cons x C ih =>
    rw [List.filter_cons]
    have h : ∀ D : List Ent, bytesT (x :: D) = x.by.length + bytesT D := fun D => by unfold bytesT; rw [List.map_cons, List.sum_cons]
    split
    · rw [h, h]; omega
    · rw [h]; omega
theorem fitsT_filter {C : List Ent} (f : Ent → Bool) (h : fitsT C = true) : fitsT (C.filter f) = true := by
  unfold fitsT at h ⊢
  rw [Bool.and_eq_true, decide_eq_true_eq, decide_eq_true_eq] at h ⊢
  have h1 := List.length_filter_le f C
  have h2 := bytesT_filter C f
  omega
theorem inside_up {p : Tx} (h : okPath p = true) (h0 : upV p ≠ []) (hi : insideL (upV p) = true) : insideL p = true := by
  have e : upV p = upL p := by unfold upV; rw [if_pos h]
  rw [e] at h0 hi
  have hw := (up_within h h0).1
  unfold insideL at hi ⊢
  rw [Bool.or_eq_true] at hi ⊢
  rcases hi with hi | hi
  · have := eq_of_beq hi
    rw [this] at hw
    exact .inr hw
  · exact .inr (under_trans hi hw)
/-- Without what is worked on it still may be. -/
theorem good_out {C : List Ent} (h : goodP C = true) : goodP (outT C) = true := by
  obtain ⟨h1, h2, h3, h4⟩ := (goodP_iff C).1 h
  have hA : AscE (outT C) := h2.sublist List.filter_sublist
  refine (goodP_iff _).2 ⟨fitsT_filter _ h1, hA, fun e he => h3 e ((List.mem_filter.1 he).1), fun e he => ?_⟩
  have hm := (List.mem_filter.1 he).1
  have hk := okEnt_path (h3 e hm)
  by_cases h0 : upV e.pa = []
  · unfold roomT; rw [if_pos h0]
  · rw [room_iff hA h0]
    obtain ⟨y, hy, k, hd⟩ := (room_iff h2 h0).1 (h4 e hm)
    refine ⟨y, List.mem_filter.2 ⟨hy, ?_⟩, k, hd⟩
    cases hi : insideL y.pa with
    | false => rfl
    | true =>
      rw [k] at hi
      have := inside_up hk h0 hi
      have h5 := (List.mem_filter.1 he).2
      rw [this] at h5
      cases h5
theorem out_out (C : List Ent) : outT (outT C) = outT C := by unfold outT; rw [List.filter_filter]; congr 1; funext e; simp
theorem likeT_self : ∀ C : List Ent, likeT C C = true
  | [] => rfl
  | e :: C => by rw [likeT, likeT_self C, Bool.and_true]; unfold eqE; simp
theorem same_clean {C : List Ent} (h : goodP C = true) : sameT (cleanP (cleanP C)) (cleanP C) = true := by
  have h1 : cleanP C = outT C := by unfold cleanP; rw [if_pos h]
  have h2 := good_out h
  have h3 : cleanP (outT C) = outT C := by unfold cleanP; rw [if_pos h2, out_out]
  rw [h1, h3]
  unfold sameT
  rw [h2, likeT_self]
  rfl
/-- Kids, counted up to a place. -/
def cntK (C : List Ent) (i : Nat) : Nat := (C.filter fun e => upV e.pa == [] || (C.take i).any fun y => y.pa == upV e.pa).length
theorem filter_two {α : Type} (f g : α → Bool) : ∀ (C : List α), (∀ e ∈ C, ¬ (f e = true ∧ g e = true)) → (C.filter fun e => f e || g e).length = (C.filter f).length + (C.filter g).length
  | [], _ => rfl
  | x :: C, h => by
    have ih := filter_two f g C fun e he => h e (List.mem_cons_of_mem _ he)
    have hx := h x (List.mem_cons_self ..)
    rw [List.filter_cons, List.filter_cons, List.filter_cons]
    cases hf : f x <;> cases hg : g x
    · simpa [hf, hg] using ih
    · simp [hf, hg] at hx ⊢; omega
    · simp [hf, hg] at hx ⊢; omega
    · exact absurd ⟨hf, hg⟩ hx
theorem cntK_zero (C : List Ent) : cntK C 0 = (inT C []).length := by
  unfold cntK inT
  rw [List.length_map]
  congr 1
  refine List.filter_congr fun e _ => ?_
  simp
theorem ne_nil_of_ok {p : Tx} (h : okPath p = true) : p ≠ [] := by rintro rfl; cases h
theorem cntK_add {C : List Ent} (h : goodP C = true) {i : Nat} (hi : i < C.length) : cntK C (i + 1) = cntK C i + (inT C C[i].pa).length := by
  obtain ⟨_, h2, h3, _⟩ := (goodP_iff C).1 h
  have hne := ne_nil_of_ok (okEnt_path (h3 C[i] (List.getElem_mem hi)))
  unfold cntK inT
  rw [List.length_map, ← filter_two]
  · congr 1
    refine List.filter_congr fun e _ => ?_
    rw [List.take_add_one, List.getElem?_eq_getElem hi, List.any_append]
    simp only [Option.toList_some, List.any_cons, List.any_nil, Bool.or_false, Bool.or_assoc]
    congr 2
    exact Bool.eq_iff_iff.2 ⟨fun k => by rw [eq_of_beq k]; simp, fun k => by rw [eq_of_beq k]; simp⟩
  · rintro e _ ⟨ha, hb⟩
    have hb' := eq_of_beq hb
    rw [Bool.or_eq_true] at ha
    rcases ha with ha | ha
    · exact hne (hb' ▸ eq_of_beq ha)
    · obtain ⟨y, hy, k⟩ := List.any_eq_true.1 ha
      have k' := eq_of_beq k
      rw [hb'] at k'
      obtain ⟨j, hj, rfl⟩ := List.getElem_of_mem hy
      have hj' : j < i := by rw [List.length_take] at hj; omega
      rw [List.getElem_take] at k'
      have := h2.lt (show j < C.length by omega) hi hj'
      rw [k', cmpL_self] at this
      omega
theorem cntK_all {C : List Ent} (h : goodP C = true) : cntK C C.length = C.length := by
  obtain ⟨_, h2, h3, h4⟩ := (goodP_iff C).1 h
  unfold cntK
  rw [List.take_length, List.filter_eq_self.2]
  intro e he
  by_cases h0 : upV e.pa = []
  · rw [h0]; rfl
  · obtain ⟨y, hy, k, _⟩ := (room_iff h2 h0).1 (h4 e he)
    rw [Bool.or_eq_true]
    exact .inr (List.any_eq_true.2 ⟨y, hy, by rw [k]; simp⟩)
theorem kid_dir {C : List Ent} (h : goodP C = true) {y : Ent} (hy : y ∈ C) (hd : y.dir = false) : inT C y.pa = [] := by
  obtain ⟨_, h2, h3, h4⟩ := (goodP_iff C).1 h
  unfold inT
  rw [List.map_eq_nil_iff, List.filter_eq_nil_iff]
  intro e he k
  have k' := eq_of_beq k
  have h0 : upV e.pa ≠ [] := by rw [k']; exact ne_nil_of_ok (okEnt_path (h3 y hy))
  obtain ⟨z, hz, k2, hd2⟩ := (room_iff h2 h0).1 (h4 e he)
  have := asc_one h2 hz hy (k2.trans k')
  rw [this, hd] at hd2
  cases hd2
end Go.Proofs.YthpendoblgndcaaDoor
/- What the rows give the walks of package path's laws: that a start meets the rows' condition; a slice of texts that came in. -/
namespace Go.Proofs.YthpendoblgndcaaDoor
open Go.ChangeShapes Go.WideShapes Go.ChangeAt Go.RowKit Go.ChangeMaps
theorem own : ownKnob Tryd.prog.godebug = none := by kernel_rfl
theorem laidOut : laidOutB Tryd.prog = true := by kernel_rfl
def laidVars : List (String × DataW Unit) := [("unicode/utf8.acceptRanges", Rows.laid_unicode_utf8_acceptRanges), ("unicode/utf8.first", Rows.laid_unicode_utf8_first)]
theorem laid_met (os : Os) (args : Array Value) : laidMetH Tryd.prog laidVars ((World.laidAll Tryd.prog os laidVars).forCall (fun _ _ => 0) ⟨#[], args, []⟩).memory := by
  rw [MakeChecks.laidMetH_plain _ _ _ (by kernel_rfl)]
  exact laidMet_laidAll _ (by kernel_rfl) (by kernel_rfl)
theorem cell_lt {w : World} {a : Addr} {v : Value} (h : w.cell? a = some v) : a.block < w.heap.size := by
  rcases Nat.lt_or_ge a.block w.heap.size with hl | hl
  · exact hl
  · unfold World.cell? at h
    rw [Array.getElem?_eq_none hl] at h
    cases h
set_option maxRecDepth 100000 in
theorem open_texts {H : Type} {enc : TypeId × Value → H} {w : World} {base b0 : Nat} {held : Bool} {r : Reach} {v : Value} {d : DataW H} {ps : List MemPlace}
    (hval : Value.okWide Tryd.prog w r b0 39 v) (h : DataW.Trod enc Tryd.prog w base (fun _ => true) held 39 v d ps) :
    ∃ (l : List ByteArray) (q : Option Addr) (c : Nat), v = .slice q l.length c ∧ l.length ≤ c ∧ (q = none → c = 0) ∧ l.length ≤ maxLen ∧ (∀ s ∈ l, s.size ≤ maxLen) ∧ Sees w w.heap.size q (l.map Value.string) := by
  obtain ⟨a0, len0, cap0, rfl⟩ := okWide_slice Tryd.underlying39 hval
  obtain ⟨fuel, hf⟩ := h
  rcases open_strings Tryd.underlying39 Tryd.underlying9 (by kernel_rfl) hf with ⟨hcs, _⟩ | ⟨x, l, c, ss, hcs, _, hl, hm, hz, _, hcell, hwz⟩
  · simp [Value.cells] at hcs
    obtain ⟨rfl, rfl, rfl⟩ := hcs
    exact ⟨[], none, 0, rfl, Nat.le_refl _, fun _ => rfl, by simp, by simp, Sees.nil _ _ _⟩
  · simp [Value.cells] at hcs
    obtain ⟨rfl, rfl, rfl⟩ := hcs
    have hz' : ss.length = cap0 := by simpa using hz
    refine ⟨ss.take len0, some x, cap0, by simp; omega, by simp; omega, fun h => (by cases h), by simp; omega, fun s hs => hwz s (List.mem_of_mem_take hs), fun h0 => ?_⟩
    have hp : 0 < ss.length := by simp at h0; omega
    refine ⟨x, rfl, by have := cell_lt (hcell 0 hp); rwa [add_block] at this, fun j u hu => ?_⟩
    have hj : j < len0 := by have := (List.getElem?_eq_some_iff.1 hu).1; simp at this; omega
    rw [hcell j (by omega), ← hu, List.getElem?_map, List.getElem?_take, if_pos hj, List.getElem?_eq_getElem (show j < ss.length by omega)]
    simp [List.getD_eq_getElem?_getD, List.getElem?_eq_getElem (show j < ss.length by omega)]
end Go.Proofs.YthpendoblgndcaaDoor
