/- The law TreeSays returns true at every input, and its arguments read as they did. No condition. -/
import Derived.Test.YthpendoblgndcaaDoorBase5
import Derived.Test.YthpendoblgndcaaDoorSay1
import Derived.Test.YthpendoblgndcaaDoorExt1
import Derived.Test.YthpendoblgndcaaDoorCards
import Derived.Test.YthpendoblgndcaaDoorTie
import Derived.ShutString
import Derived.ChangeOld
import Derived.SevenTiedAt
/- The law TreeSays: it returns true. Condition: paths shorter than 2^63 bytes. -/
namespace Go.Proofs.YthpendoblgndcaaDoor
open Go.RowKit
theorem bytes_le (m : Nat) : ∀ (C : List Ent), (∀ e ∈ C, e.by.length ≤ m) → bytesT C ≤ C.length * m
  | [], _ => by simp [bytesT]
  | x :: C, h => by
    rw [bytesT_cons, List.length_cons, Nat.add_mul]
    have h1 := h x (List.mem_cons_self ..)
    have h2 := bytes_le m C fun e he => h e (List.mem_cons_of_mem _ he)
    omega
def smallE (e : Ent) : Prop := e.1.size ≤ 100 ∧ e.by.length ≤ 3000
theorem small_next {C : List Ent} {i : Nat} (hi : i < C.length) (h : ∀ e ∈ C.take i, smallE e) (h1 : smallE C[i]) : ∀ e ∈ C.take (i + 1), smallE e := fun e he => by
  rw [List.take_add_one, List.getElem?_eq_getElem hi] at he
  rcases List.mem_append.1 he with he | he
  · exact h e he
  · rw [show e = C[i] by simpa using he]; exact h1
set_option maxHeartbeats 32000000 in
set_option maxRecDepth 100000 in
theorem says8_any (A B : List Ent) (qa qb : Option Addr) (ca cb : Nat) (p : ByteArray) (hca : A.length ≤ ca) (hcb : B.length ≤ cb) (hqa : qa = none → ca = 0) (hqb : qb = none → cb = 0) (w : World) (hsa : Sees w w.heap.size qa (rowC A)) (hsb : Sees w w.heap.size qb (rowC B)) (hEA : Ents w A) (hEB : Ents w B) :
    Calls Tryd.prog 5 #[.slice qa A.length ca, .slice qb B.length cb, .string p] w fun e w' => e = .returned (.bool true) ∧ Below w.heap.size w w' := by
  have HAW := Lib.hid (awake8_any w)
  have HSA := Lib.hid hsa
  have HSB := Lib.hid hsb
  have HEA := Lib.hid hEA
  have HEB := Lib.hid hEB
  clear hsa hsb hEA hEB
  go_enter Tryd.func5, Tryd.ntmps5
  go_wp2_with fail
  refine HAW.out.mono ?_
  rintro e w1 ⟨rfl, hb1⟩
  have HB := Lib.hid hb1
  clear hb1 HAW
  by_cases hla0 : 60 < A.length
  · have k1 : (60 : Int) < (A.length : Int) := by omega
    go_wp2_with fail
    go_ret
    exact ⟨rfl, HB.out⟩
  have k1 : ((60 : Int) < (A.length : Int)) = False := eq_false (by omega)
  by_cases hlb0 : 60 < B.length
  · have k2 : (60 : Int) < (B.length : Int) := by omega
    go_wp2_with fail
    go_ret
    exact ⟨rfl, HB.out⟩
  have k2 : ((60 : Int) < (B.length : Int)) = False := eq_false (by omega)
  by_cases hp0 : 100 < p.size
  · have k3 : (100 : Int) < (p.size : Int) := by omega
    go_wp2_with fail
    go_ret
    exact ⟨rfl, HB.out⟩
  have k3 : ((100 : Int) < (p.size : Int)) = False := eq_false (by omega)
  have hla : A.length ≤ 60 := by omega
  have hlb : B.length ≤ 60 := by omega
  have hp : p.size ≤ 100 := by omega
  clear hla0 hlb0 hp0
  go_wp2_with fail
  have HT : Hid (Has ((w1.alloc (.cells #[.slice qa A.length ca] 25)).alloc (.cells #[.slice qb B.length cb] 25)) w1.heap.size 25 [.slice qa A.length ca]) := Lib.hid ((Has.made w1 _ _).alloc _)
  have HU : Hid (Has ((w1.alloc (.cells #[.slice qa A.length ca] 25)).alloc (.cells #[.slice qb B.length cb] 25)) (w1.heap.size + 1) 25 [.slice qb B.length cb]) := Lib.hid (Has.made1 w1 _ _ _ _ rfl)
  replace HB : Hid (Below w.heap.size w ((w1.alloc (.cells #[.slice qa A.length ca] 25)).alloc (.cells #[.slice qb B.length cb] 25))) := Lib.hid ((HB.out.alloc HB.out.size _).alloc (by have := HB.out.size; simp; omega) _)
  generalize (w1.alloc (.cells #[.slice qa A.length ca] 25)).alloc (.cells #[.slice qb B.length cb] 25) = W1 at *
  generalize w1.heap.size = BT at *
  clear k1 k2 k3
  have HBW1 := HB
  have HTW1 := HT
  have HUW1 := HU
  clear HB HT HU
  go_loopw [9] (fun vi wr => ∃ i : Nat, i ≤ A.length ∧ vi = .int .i64 i ∧ (∀ e ∈ A.take i, smallE e) ∧ Below w.heap.size w wr ∧ Has wr BT 25 [.slice qa A.length ca] ∧ Has wr (BT + 1) 25 [.slice qb B.length cb]) (fun vi _ => A.length - (intOf vi).toNat)
  case atStart => exact ⟨0, by omega, rfl, (fun e he => by simp at he), HBW1.out, HTW1.out, HUW1.out⟩
  case round =>
    obtain ⟨i, hi, rfl, hsm, hB, hT, hU⟩ := hrel
    have HB := Lib.hid hB
    have HT := Lib.hid hT
    have HU := Lib.hid hU
    have HSM := Lib.hid hsm
    clear hB hT hU hsm HBW1 HTW1 HUW1
    by_cases hlt : i < A.length
    · have HNX := Lib.hid (small_next hlt HSM.out)
      obtain ⟨a, rfl, ha, hc⟩ := HSA.out.ent hlt
      obtain ⟨c1, c2, c3⟩ := hc wr HB.out
      obtain ⟨q1, cc1, hv, _, _, _⟩ := HEA.out A[i] (List.getElem_mem hlt)
      have kk : (i : Int) < (A.length : Int) := by omega
      obtain ⟨e, he⟩ : ∃ e, A[i] = e := ⟨_, rfl⟩
      rw [he] at c1 c2 c3 hv HNX
      obtain ⟨x, d, bv, bb⟩ := e
      have hv' : bv = .slice q1 (List.length bb) cc1 := hv
      subst hv'
      simp only [] at c1 c2 c3
      clear hc ha hv he
      by_cases hx : 100 < x.size
      · have k1 : (100 : Int) < (x.size : Int) := by omega
        go_wp2_with fail
        go_ret
        exact ⟨rfl, HB.out⟩
      have k1 : ((100 : Int) < (x.size : Int)) = False := eq_false (by omega)
      by_cases hbl : 3000 < bb.length
      · have k2 : (3000 : Int) < (bb.length : Int) := by omega
        go_wp2_with fail
        go_ret
        exact ⟨rfl, HB.out⟩
      have k2 : ((3000 : Int) < (bb.length : Int)) = False := eq_false (by omega)
      have HNY := Lib.hid (HNX.out ⟨show x.size ≤ 100 by omega, show bb.length ≤ 3000 by omega⟩)
      go_wp2_with fail
      go_roundw
      case rel => exact ⟨i + 1, by omega, by go_num, HNY.out, HB.out, HT.out, HU.out⟩
      case measure => simp [intOf]; omega
    have hil : i = A.length := by omega
    subst hil
    have k0 : ¬ (A.length : Int) < (A.length : Int) := by omega
    rw [List.take_length] at HSM
    have HMA : Hid (∀ e ∈ A, e.1.size ≤ 100) := Lib.hid (fun e he => (HSM.out e he).1)
    have hba : bytesT A ≤ 180000 := by
      have := bytes_le 3000 A fun e he => (HSM.out e he).2
      omega
    clear hlt HSM
    go_wp2_with fail
    have HBW1 := HB
    have HTW1 := HT
    have HUW1 := HU
    clear HB HT HU k0
    go_loopw [10] (fun vi wr => ∃ i : Nat, i ≤ B.length ∧ vi = .int .i64 i ∧ (∀ e ∈ B.take i, smallE e) ∧ Below w.heap.size w wr ∧ Has wr BT 25 [.slice qa A.length ca] ∧ Has wr (BT + 1) 25 [.slice qb B.length cb]) (fun vi _ => B.length - (intOf vi).toNat)
    case atStart => exact ⟨0, by omega, rfl, (fun e he => by simp at he), HBW1.out, HTW1.out, HUW1.out⟩
    case round =>
      obtain ⟨i, hi, rfl, hsm, hB, hT, hU⟩ := hrel
      have HB := Lib.hid hB
      have HT := Lib.hid hT
      have HU := Lib.hid hU
      have HSM := Lib.hid hsm
      clear hB hT hU hsm HBW1 HTW1 HUW1
      by_cases hlt : i < B.length
      · have HNX := Lib.hid (small_next hlt HSM.out)
        obtain ⟨a, rfl, ha, hc⟩ := HSB.out.ent hlt
        obtain ⟨c1, c2, c3⟩ := hc wr HB.out
        obtain ⟨q1, cc1, hv, _, _, _⟩ := HEB.out B[i] (List.getElem_mem hlt)
        have kk : (i : Int) < (B.length : Int) := by omega
        obtain ⟨e, he⟩ : ∃ e, B[i] = e := ⟨_, rfl⟩
        rw [he] at c1 c2 c3 hv HNX
        obtain ⟨x, d, bv, bb⟩ := e
        have hv' : bv = .slice q1 (List.length bb) cc1 := hv
        subst hv'
        simp only [] at c1 c2 c3
        clear hc ha hv he
        by_cases hx : 100 < x.size
        · have k1 : (100 : Int) < (x.size : Int) := by omega
          go_wp2_with fail
          go_ret
          exact ⟨rfl, HB.out⟩
        have k1 : ((100 : Int) < (x.size : Int)) = False := eq_false (by omega)
        by_cases hbl : 3000 < bb.length
        · have k2 : (3000 : Int) < (bb.length : Int) := by omega
          go_wp2_with fail
          go_ret
          exact ⟨rfl, HB.out⟩
        have k2 : ((3000 : Int) < (bb.length : Int)) = False := eq_false (by omega)
        have HNY := Lib.hid (HNX.out ⟨show x.size ≤ 100 by omega, show bb.length ≤ 3000 by omega⟩)
        go_wp2_with fail
        go_roundw
        case rel => exact ⟨i + 1, by omega, by go_num, HNY.out, HB.out, HT.out, HU.out⟩
        case measure => simp [intOf]; omega
      have hil : i = B.length := by omega
      subst hil
      have k0 : ¬ (B.length : Int) < (B.length : Int) := by omega
      rw [List.take_length] at HSM
      have HMB : Hid (∀ e ∈ B, e.1.size ≤ 100) := Lib.hid (fun e he => (HSM.out e he).1)
      have hbb : bytesT B ≤ 180000 := by
        have := bytes_le 3000 B fun e he => (HSM.out e he).2
        omega
      clear hlt HSM
      go_wp2_with fail
      clear k0 hi
      refine wp_region_org [(0, true), (2, true), (1, false), (3, false), (4, true), (5, true)] (by kernel_rfl) (by kernel_rfl) (by kernel_rfl) ?_
      have hb := (Below.refl wr.heap.size wr).drew
      replace HB := Lib.hid (HB.out.trans (hb.mono HB.out.size))
      replace HT := Lib.hid (HT.out.keep hb HT.out.lt)
      replace HU := Lib.hid (HU.out.keep hb HU.out.lt)
      clear hb
      generalize wr.drew = wd at *
      simp only [pickOrs, List.getElem?_cons_zero, List.getElem?_cons_succ]
      refine org_pure (v := ?_) (by kernel_rfl) ?_ ?_
      rotate_left
      · intro w' hv; have cl := (HT.out.keep hv HT.out.lt).cellv (i := 0) (v := .slice qa A.length ca) rfl; clear hv; go_simp; try with_reducible rfl
      try simp only [Act.put, List.setIfInBounds_toArray, List.set_cons_zero, List.set_cons_succ]
      refine org_pure (v := ?_) (by kernel_rfl) ?_ ?_
      rotate_left
      · intro w' hv; have cl := (HU.out.keep hv HU.out.lt).cellv (i := 0) (v := .slice qb B.length cb) rfl; clear hv; go_simp; try with_reducible rfl
      try simp only [Act.put, List.setIfInBounds_toArray, List.set_cons_zero, List.set_cons_succ]
      refine org_step (by kernel_rfl) (fun K hK => ?_)
      go_wp2_with fail
      refine (own8_any A qa ca (by omega) _ ((HSA.out.keep HB.out).more HB.out.size) (HEA.out.keep HB.out)).mono ?_
      rintro e x1 ⟨⟨vx, rfl, ⟨qx, cx, rfl, hx1, hx2, hx3⟩⟩, hb⟩
      have HE2 := Lib.hid hb
      replace HB := Lib.hid (HB.out.trans (hb.mono HB.out.size))
      replace HT := Lib.hid (HT.out.keep hb HT.out.lt)
      replace HU := Lib.hid (HU.out.keep hb HU.out.lt)
      clear hb
      have HSX := Lib.hid hx3
      have HCX : Hid (A.length ≤ cx ∧ (qx = none → cx = 0)) := Lib.hid ⟨hx1, hx2⟩
      clear hx1 hx2 hx3
      refine hK _ _ ⟨HE2.out, ?_⟩
      clear hK HE2
      try simp only [Act.put, List.setIfInBounds_toArray, List.set_cons_zero, List.set_cons_succ]
      refine org_step (by kernel_rfl) (fun K hK => ?_)
      go_wp2_with fail
      refine (own8_any B qb cb (by omega) _ ((HSB.out.keep HB.out).more HB.out.size) (HEB.out.keep HB.out)).mono ?_
      rintro e x2 ⟨⟨vy, rfl, ⟨qy, cy, rfl, hx1, hx2, hx3⟩⟩, hb⟩
      have HE2 := Lib.hid hb
      replace HB := Lib.hid (HB.out.trans (hb.mono HB.out.size))
      replace HT := Lib.hid (HT.out.keep hb HT.out.lt)
      replace HU := Lib.hid (HU.out.keep hb HU.out.lt)
      replace HSX := Lib.hid ((HSX.out.keep hb).more hb.size)
      clear hb
      have HSY := Lib.hid hx3
      have HCY : Hid (B.length ≤ cy ∧ (qy = none → cy = 0)) := Lib.hid ⟨hx1, hx2⟩
      clear hx1 hx2 hx3
      refine hK _ _ ⟨HE2.out, ?_⟩
      clear hK HE2
      try simp only [Act.put, List.setIfInBounds_toArray, List.set_cons_zero, List.set_cons_succ]
      refine org_pure (v := ?_) (by kernel_rfl) ?_ ?_
      rotate_left
      · intro w' hv; clear hv; go_simp; try with_reducible rfl
      try simp only [Act.put, List.setIfInBounds_toArray, List.set_cons_zero, List.set_cons_succ]
      refine org_pure (v := ?_) (by kernel_rfl) ?_ ?_
      rotate_left
      · intro w' hv; clear hv; go_simp; try with_reducible rfl
      try simp only [Act.put, List.setIfInBounds_toArray, List.set_cons_zero, List.set_cons_succ]
      refine org_nil ?_
      have HNA : Hid (∀ e ∈ A, e.1.size ≤ 1048576) := Lib.hid (fun e he => by have := HMA.out e he; omega)
      have HNB : Hid (∀ e ∈ B, e.1.size ≤ 1048576) := Lib.hid (fun e he => by have := HMB.out e he; omega)
      have HLA : Hid (∀ e ∈ A, e.1.size < 9223372036854775808) := Lib.hid (fun e he => by have := HMA.out e he; omega)
      have HLB : Hid (∀ e ∈ B, e.1.size < 9223372036854775808) := Lib.hid (fun e he => by have := HMB.out e he; omega)
      have HGA : Hid (goodT A = goodP A) := Lib.hid (goodT_P A)
      have HGB : Hid (goodT B = goodP B) := Lib.hid (goodT_P B)
      have HMM : Hid (makeT A p = makeP A p) := Lib.hid (makeT_P A p)
      have HCC : Hid (cleanT A = cleanP A) := Lib.hid (cleanT_P A)
      go_wp2_with fail
      refine (rgt_any A qx cx (by omega) (by omega) HNA.out _ HSX.out (HEA.out.keep HB.out)).mono ?_
      rintro e x3 ⟨rfl, hb⟩
      have HE2 := Lib.hid hb
      replace HB := Lib.hid (HB.out.trans (hb.mono HB.out.size))
      replace HT := Lib.hid (HT.out.keep hb HT.out.lt)
      replace HU := Lib.hid (HU.out.keep hb HU.out.lt)
      replace HSX := Lib.hid ((HSX.out.keep hb).more hb.size)
      replace HSY := Lib.hid ((HSY.out.keep hb).more hb.size)
      clear hb
      rw [HGA.out]
      clear HE2
      have HMR : Hid (bytesT (makeP A p).1 ≤ bytesT A ∧ (makeP A p).1.length ≤ A.length + 1 ∧ ∀ e ∈ (makeP A p).1, e.1 = p ∨ e ∈ A) := Lib.hid ⟨make_size.2.1, make_size.1, make_size.2.2⟩
      have ct := HT.out.cellv (i := 0) (v := .slice qa A.length ca) rfl
      generalize hGA : goodP A = GA at *
      have HQA := Lib.hid hGA
      clear hGA
      go_wp2_with fail
      clear ct
      refine (tmake_any A qa ca p (by omega) hca hqa (by omega) HLA.out (by omega) _ ((HSA.out.keep HB.out).more HB.out.size) (HEA.out.keep HB.out)).mono ?_
      rintro e x4 ⟨⟨vr, rfl, hR5⟩, hb⟩
      have HE2 := Lib.hid hb
      replace HB := Lib.hid (HB.out.trans (hb.mono HB.out.size))
      replace HT := Lib.hid (HT.out.keep hb HT.out.lt)
      replace HU := Lib.hid (HU.out.keep hb HU.out.lt)
      replace HSX := Lib.hid ((HSX.out.keep hb).more hb.size)
      replace HSY := Lib.hid ((HSY.out.keep hb).more hb.size)
      clear hb
      obtain ⟨⟨qr, cr, rfl, hr1, hr2, hr3⟩, hr4⟩ := hR5.tr ⟨qa, ca, rfl, hca, hqa, ((HSA.out.keep HB.out).more HB.out.size)⟩ (HEA.out.keep HB.out)
      clear hR5
      have HRM := Lib.hid (fun w1 h1 h2 => rmake_any A qx cx p (by omega) HCX.out.1 HCX.out.2 (by omega) (by omega) HNA.out w1 h1 h2)
      rw [HMM.out] at HRM
      generalize makeP A p = RR at *
      obtain ⟨R, ER⟩ := RR
      simp only [] at hr1 hr2 hr3 hr4 HRM HMR ⊢
      have hlr : R.length ≤ 61 := by have := HMR.out.2.1; omega
      have hbr : bytesT R ≤ 180000 := by have := HMR.out.1; omega
      have HSR0 := Lib.hid hr3
      have HER0 := Lib.hid hr4
      have HCR : Hid (R.length ≤ cr ∧ (qr = none → cr = 0)) := Lib.hid ⟨hr1, hr2⟩
      clear hr1 hr2 hr3 hr4
      have hb := (Below.refl _ x4).alloc (Nat.le_refl _) (.cells #[.slice qr R.length cr] 25)
      have HR : Hid (Has (x4.alloc (.cells #[.slice qr R.length cr] 25)) x4.heap.size 25 [.slice qr R.length cr]) := Lib.hid (Has.made x4 _ _)
      have HSR : Hid (Sees (x4.alloc (.cells #[.slice qr R.length cr] 25)) (x4.alloc (.cells #[.slice qr R.length cr] 25)).heap.size qr (rowC R)) := Lib.hid ((HSR0.out.keep hb).more hb.size)
      have HER : Hid (Ents (x4.alloc (.cells #[.slice qr R.length cr] 25)) R) := Lib.hid (HER0.out.keep hb)
      replace HB := Lib.hid (HB.out.trans (hb.mono HB.out.size))
      replace HT := Lib.hid (HT.out.keep hb HT.out.lt)
      replace HU := Lib.hid (HU.out.keep hb HU.out.lt)
      replace HSX := Lib.hid ((HSX.out.keep hb).more hb.size)
      replace HSY := Lib.hid ((HSY.out.keep hb).more hb.size)
      clear hb HSR0 HER0
      go_wp2_with fail
      generalize x4.alloc (.cells #[.slice qr R.length cr] 25) = Wr at *
      generalize x4.heap.size = BR at *
      clear HE2
      refine (HRM.out _ HSX.out (HEA.out.keep HB.out)).mono ?_
      rintro e x5 ⟨⟨vs, rfl, ⟨qs, cs, rfl, hs1, hs2, hs3⟩, hs4⟩, hb⟩
      have HE2 := Lib.hid hb
      replace HB := Lib.hid (HB.out.trans (hb.mono HB.out.size))
      replace HT := Lib.hid (HT.out.keep hb HT.out.lt)
      replace HU := Lib.hid (HU.out.keep hb HU.out.lt)
      replace HSX := Lib.hid ((HSX.out.keep hb).more hb.size)
      replace HSY := Lib.hid ((HSY.out.keep hb).more hb.size)
      replace HR := Lib.hid (HR.out.keep hb HR.out.lt)
      replace HSR := Lib.hid ((HSR.out.keep hb).more hb.size)
      replace HER := Lib.hid (HER.out.keep hb)
      clear hb
      have HSS := Lib.hid hs3
      have HES := Lib.hid hs4
      clear hs1 hs2 hs3 hs4 HRM
      clear HE2
      have HLC : Hid ((cleanP A).length ≤ 100000) := Lib.hid (by
        have : (cleanP A).length ≤ A.length := by
          unfold cleanP
          split
          · exact List.length_filter_le _ _
          · exact Nat.le_refl _
        omega)
      have HECL : Hid (∀ w1, Ents w1 A → Ents w1 (cleanP A)) := Lib.hid (fun w1 h e he => h e (by
        unfold cleanP at he
        split at he
        · exact (List.mem_filter.1 he).1
        · exact he))
      have HRCL := Lib.hid (fun w1 h1 h2 => rclean_any A qx cx (by omega) HCX.out.1 HCX.out.2 (by omega) HNA.out w1 h1 h2)
      rw [HCC.out] at HRCL
      have HG1 := Lib.hid (fun w1 h1 h2 => tgood_any A qa ca (by omega) hca (by omega) HLA.out w1 h1 h2)
      rw [HQA.out] at HG1
      have HBYT := Lib.hid (fun w1 h1 h2 => tbytes_any A qa ca (by omega) hca (by omega) HLA.out w1 h1 h2)
      have HBYP : Hid (bytesP A = if GA = true then bytesT A else 0) := Lib.hid (by unfold bytesP; rw [HQA.out])
      rw [HBYP.out] at HBYT
      have HSAME := Lib.hid (fun w1 h1 h2 h3 h4 => tsame_any A B qa qb ca cb (by omega) (by omega) hca hcb (by omega) (by omega) HLA.out HLB.out w1 h1 h2 h3 h4)
      have HSMT : Hid (sameT A B = (GA && (goodP B && likeT A B))) := Lib.hid (by unfold sameT; rw [HQA.out])
      rw [HSMT.out] at HSAME
      generalize hQB : goodP B = GB at *
      have HQB := Lib.hid hQB
      clear hQB
      have kER : (ER == ER) = true := by simp
      cases GA with
      | false =>
        simp only [Bool.false_and, Bool.false_eq_true, if_false] at HSAME HBYT
        have ct := HT.out.cellv (i := 0) (v := .slice qa A.length ca) rfl
        have cu := HU.out.cellv (i := 0) (v := .slice qb B.length cb) rfl
        have crr := HR.out.cellv (i := 0) (v := .slice qr R.length cr) rfl
        go_wp2_with fail
        clear ct cu crr
        refine (HG1.out _ ((HSA.out.keep HB.out).more HB.out.size) (HEA.out.keep HB.out)).mono ?_
        rintro e x6 ⟨rfl, hb⟩
        have HE2 := Lib.hid hb
        replace HB := Lib.hid (HB.out.trans (hb.mono HB.out.size))
        replace HT := Lib.hid (HT.out.keep hb HT.out.lt)
        replace HU := Lib.hid (HU.out.keep hb HU.out.lt)
        replace HSX := Lib.hid ((HSX.out.keep hb).more hb.size)
        replace HSY := Lib.hid ((HSY.out.keep hb).more hb.size)
        replace HR := Lib.hid (HR.out.keep hb HR.out.lt)
        replace HSR := Lib.hid ((HSR.out.keep hb).more hb.size)
        replace HER := Lib.hid (HER.out.keep hb)
        replace HSS := Lib.hid ((HSS.out.keep hb).more hb.size)
        replace HES := Lib.hid (HES.out.keep hb)
        clear hb
        clear HE2
        have ct := HT.out.cellv (i := 0) (v := .slice qa A.length ca) rfl
        have cu := HU.out.cellv (i := 0) (v := .slice qb B.length cb) rfl
        have crr := HR.out.cellv (i := 0) (v := .slice qr R.length cr) rfl
        go_wp2_with fail
        clear ct cu crr
        refine (HSAME.out _ ((HSA.out.keep HB.out).more HB.out.size) ((HSB.out.keep HB.out).more HB.out.size) (HEA.out.keep HB.out) (HEB.out.keep HB.out)).mono ?_
        rintro e x7 ⟨rfl, hb⟩
        have HE2 := Lib.hid hb
        replace HB := Lib.hid (HB.out.trans (hb.mono HB.out.size))
        replace HT := Lib.hid (HT.out.keep hb HT.out.lt)
        replace HU := Lib.hid (HU.out.keep hb HU.out.lt)
        replace HSX := Lib.hid ((HSX.out.keep hb).more hb.size)
        replace HSY := Lib.hid ((HSY.out.keep hb).more hb.size)
        replace HR := Lib.hid (HR.out.keep hb HR.out.lt)
        replace HSR := Lib.hid ((HSR.out.keep hb).more hb.size)
        replace HER := Lib.hid (HER.out.keep hb)
        replace HSS := Lib.hid ((HSS.out.keep hb).more hb.size)
        replace HES := Lib.hid (HES.out.keep hb)
        clear hb
        clear HE2
        have ct := HT.out.cellv (i := 0) (v := .slice qa A.length ca) rfl
        have cu := HU.out.cellv (i := 0) (v := .slice qb B.length cb) rfl
        have crr := HR.out.cellv (i := 0) (v := .slice qr R.length cr) rfl
        go_wp2_with fail
        clear ct cu crr
        refine (own8_any R qr cr (by omega) _ HSR.out HER.out).mono ?_
        rintro e x8 ⟨⟨vo, rfl, ⟨qo, co, rfl, ho1, ho2, ho3⟩⟩, hb⟩
        have HE2 := Lib.hid hb
        replace HB := Lib.hid (HB.out.trans (hb.mono HB.out.size))
        replace HT := Lib.hid (HT.out.keep hb HT.out.lt)
        replace HU := Lib.hid (HU.out.keep hb HU.out.lt)
        replace HSX := Lib.hid ((HSX.out.keep hb).more hb.size)
        replace HSY := Lib.hid ((HSY.out.keep hb).more hb.size)
        replace HR := Lib.hid (HR.out.keep hb HR.out.lt)
        replace HSR := Lib.hid ((HSR.out.keep hb).more hb.size)
        replace HER := Lib.hid (HER.out.keep hb)
        replace HSS := Lib.hid ((HSS.out.keep hb).more hb.size)
        replace HES := Lib.hid (HES.out.keep hb)
        clear hb
        have HSO := Lib.hid ho3
        clear ho1 ho2 ho3
        clear HE2
        have ct := HT.out.cellv (i := 0) (v := .slice qa A.length ca) rfl
        have cu := HU.out.cellv (i := 0) (v := .slice qb B.length cb) rfl
        have crr := HR.out.cellv (i := 0) (v := .slice qr R.length cr) rfl
        go_wp2_with fail
        clear ct cu crr
        refine (ralike_any R R qo qs co cs (by omega) _ HSO.out HSS.out HER.out HES.out).mono ?_
        rintro e x9 ⟨rfl, hb⟩
        have HE2 := Lib.hid hb
        replace HB := Lib.hid (HB.out.trans (hb.mono HB.out.size))
        replace HT := Lib.hid (HT.out.keep hb HT.out.lt)
        replace HU := Lib.hid (HU.out.keep hb HU.out.lt)
        replace HSX := Lib.hid ((HSX.out.keep hb).more hb.size)
        replace HSY := Lib.hid ((HSY.out.keep hb).more hb.size)
        replace HR := Lib.hid (HR.out.keep hb HR.out.lt)
        replace HSR := Lib.hid ((HSR.out.keep hb).more hb.size)
        replace HER := Lib.hid (HER.out.keep hb)
        replace HSS := Lib.hid ((HSS.out.keep hb).more hb.size)
        replace HES := Lib.hid (HES.out.keep hb)
        clear hb
        rw [likeT_self]
        clear HE2
        have ct := HT.out.cellv (i := 0) (v := .slice qa A.length ca) rfl
        have cu := HU.out.cellv (i := 0) (v := .slice qb B.length cb) rfl
        have crr := HR.out.cellv (i := 0) (v := .slice qr R.length cr) rfl
        go_wp2_with fail
        clear ct cu crr
        refine (HBYT.out _ ((HSA.out.keep HB.out).more HB.out.size) (HEA.out.keep HB.out)).mono ?_
        rintro e x10 ⟨rfl, hb⟩
        have HE2 := Lib.hid hb
        replace HB := Lib.hid (HB.out.trans (hb.mono HB.out.size))
        replace HT := Lib.hid (HT.out.keep hb HT.out.lt)
        replace HU := Lib.hid (HU.out.keep hb HU.out.lt)
        replace HSX := Lib.hid ((HSX.out.keep hb).more hb.size)
        replace HSY := Lib.hid ((HSY.out.keep hb).more hb.size)
        replace HR := Lib.hid (HR.out.keep hb HR.out.lt)
        replace HSR := Lib.hid ((HSR.out.keep hb).more hb.size)
        replace HER := Lib.hid (HER.out.keep hb)
        replace HSS := Lib.hid ((HSS.out.keep hb).more hb.size)
        replace HES := Lib.hid (HES.out.keep hb)
        clear hb
        clear HE2
        have ct := HT.out.cellv (i := 0) (v := .slice qa A.length ca) rfl
        have cu := HU.out.cellv (i := 0) (v := .slice qb B.length cb) rfl
        have crr := HR.out.cellv (i := 0) (v := .slice qr R.length cr) rfl
        go_wp2_with fail
        clear ct cu crr
        refine (tclean_any A qa ca (by omega) hca hqa (by omega) HLA.out _ ((HSA.out.keep HB.out).more HB.out.size) (HEA.out.keep HB.out)).mono ?_
        rintro e x11 ⟨⟨vc, rfl, ⟨qc, cc, rfl, hc1, hc2, hc3⟩⟩, hb⟩
        have HE2 := Lib.hid hb
        replace HB := Lib.hid (HB.out.trans (hb.mono HB.out.size))
        replace HT := Lib.hid (HT.out.keep hb HT.out.lt)
        replace HU := Lib.hid (HU.out.keep hb HU.out.lt)
        replace HSX := Lib.hid ((HSX.out.keep hb).more hb.size)
        replace HSY := Lib.hid ((HSY.out.keep hb).more hb.size)
        replace HR := Lib.hid (HR.out.keep hb HR.out.lt)
        replace HSR := Lib.hid ((HSR.out.keep hb).more hb.size)
        replace HER := Lib.hid (HER.out.keep hb)
        replace HSS := Lib.hid ((HSS.out.keep hb).more hb.size)
        replace HES := Lib.hid (HES.out.keep hb)
        clear hb
        have HSC := Lib.hid hc3
        clear hc1 hc2 hc3
        clear HE2
        have ct := HT.out.cellv (i := 0) (v := .slice qa A.length ca) rfl
        have cu := HU.out.cellv (i := 0) (v := .slice qb B.length cb) rfl
        have crr := HR.out.cellv (i := 0) (v := .slice qr R.length cr) rfl
        go_wp2_with fail
        clear ct cu crr
        refine (own8_any (cleanP A) qc cc HLC.out _ HSC.out (HECL.out _ (HEA.out.keep HB.out))).mono ?_
        rintro e x12 ⟨⟨vd, rfl, ⟨qd, cd, rfl, hd1, hd2, hd3⟩⟩, hb⟩
        have HE2 := Lib.hid hb
        replace HB := Lib.hid (HB.out.trans (hb.mono HB.out.size))
        replace HT := Lib.hid (HT.out.keep hb HT.out.lt)
        replace HU := Lib.hid (HU.out.keep hb HU.out.lt)
        replace HSX := Lib.hid ((HSX.out.keep hb).more hb.size)
        replace HSY := Lib.hid ((HSY.out.keep hb).more hb.size)
        replace HR := Lib.hid (HR.out.keep hb HR.out.lt)
        replace HSR := Lib.hid ((HSR.out.keep hb).more hb.size)
        replace HER := Lib.hid (HER.out.keep hb)
        replace HSS := Lib.hid ((HSS.out.keep hb).more hb.size)
        replace HES := Lib.hid (HES.out.keep hb)
        clear hb
        have HSD := Lib.hid hd3
        clear hd1 hd2 hd3
        clear HE2
        have ct := HT.out.cellv (i := 0) (v := .slice qa A.length ca) rfl
        have cu := HU.out.cellv (i := 0) (v := .slice qb B.length cb) rfl
        have crr := HR.out.cellv (i := 0) (v := .slice qr R.length cr) rfl
        go_wp2_with fail
        clear ct cu crr
        refine (HRCL.out _ HSX.out (HEA.out.keep HB.out)).mono ?_
        rintro e x13 ⟨⟨vf, rfl, ⟨qf, cf, rfl, hf1, hf2, hf3⟩⟩, hb⟩
        have HE2 := Lib.hid hb
        replace HB := Lib.hid (HB.out.trans (hb.mono HB.out.size))
        replace HT := Lib.hid (HT.out.keep hb HT.out.lt)
        replace HU := Lib.hid (HU.out.keep hb HU.out.lt)
        replace HSX := Lib.hid ((HSX.out.keep hb).more hb.size)
        replace HSY := Lib.hid ((HSY.out.keep hb).more hb.size)
        replace HR := Lib.hid (HR.out.keep hb HR.out.lt)
        replace HSR := Lib.hid ((HSR.out.keep hb).more hb.size)
        replace HER := Lib.hid (HER.out.keep hb)
        replace HSS := Lib.hid ((HSS.out.keep hb).more hb.size)
        replace HES := Lib.hid (HES.out.keep hb)
        clear hb
        have HSF := Lib.hid hf3
        replace HSD := Lib.hid ((HSD.out.keep HE2.out).more HE2.out.size)
        clear hf1 hf2 hf3
        clear HE2
        have ct := HT.out.cellv (i := 0) (v := .slice qa A.length ca) rfl
        have cu := HU.out.cellv (i := 0) (v := .slice qb B.length cb) rfl
        have crr := HR.out.cellv (i := 0) (v := .slice qr R.length cr) rfl
        go_wp2_with fail
        clear ct cu crr
        refine (ralike_any (cleanP A) (cleanP A) qd qf cd cf HLC.out _ HSD.out HSF.out (HECL.out _ (HEA.out.keep HB.out)) (HECL.out _ (HEA.out.keep HB.out))).mono ?_
        rintro e x14 ⟨rfl, hb⟩
        have HE2 := Lib.hid hb
        replace HB := Lib.hid (HB.out.trans (hb.mono HB.out.size))
        replace HT := Lib.hid (HT.out.keep hb HT.out.lt)
        replace HU := Lib.hid (HU.out.keep hb HU.out.lt)
        replace HSX := Lib.hid ((HSX.out.keep hb).more hb.size)
        replace HSY := Lib.hid ((HSY.out.keep hb).more hb.size)
        replace HR := Lib.hid (HR.out.keep hb HR.out.lt)
        replace HSR := Lib.hid ((HSR.out.keep hb).more hb.size)
        replace HER := Lib.hid (HER.out.keep hb)
        replace HSS := Lib.hid ((HSS.out.keep hb).more hb.size)
        replace HES := Lib.hid (HES.out.keep hb)
        clear hb
        rw [likeT_self]
        clear HE2
        go_wp2_with fail
        go_ret
        exact ⟨rfl, HB.out⟩
      | true =>
        simp only [Bool.true_and, if_true] at HSAME HBYT
        go_wp2_with fail
        refine (rbytes_any A qx cx (by omega) (by omega) _ HSX.out (HEA.out.keep HB.out)).mono ?_
        rintro e x99 ⟨rfl, rfl⟩
        have kBY : ((bytesT A : Int) == (bytesT A : Int)) = true := by simp
        cases GB with
        | false =>
          simp only [Bool.false_and] at HSAME
          have ct := HT.out.cellv (i := 0) (v := .slice qa A.length ca) rfl
          have cu := HU.out.cellv (i := 0) (v := .slice qb B.length cb) rfl
          have crr := HR.out.cellv (i := 0) (v := .slice qr R.length cr) rfl
          go_wp2_with fail
          clear ct cu crr
          refine (HG1.out _ ((HSA.out.keep HB.out).more HB.out.size) (HEA.out.keep HB.out)).mono ?_
          rintro e x15 ⟨rfl, hb⟩
          have HE2 := Lib.hid hb
          replace HB := Lib.hid (HB.out.trans (hb.mono HB.out.size))
          replace HT := Lib.hid (HT.out.keep hb HT.out.lt)
          replace HU := Lib.hid (HU.out.keep hb HU.out.lt)
          replace HSX := Lib.hid ((HSX.out.keep hb).more hb.size)
          replace HSY := Lib.hid ((HSY.out.keep hb).more hb.size)
          replace HR := Lib.hid (HR.out.keep hb HR.out.lt)
          replace HSR := Lib.hid ((HSR.out.keep hb).more hb.size)
          replace HER := Lib.hid (HER.out.keep hb)
          replace HSS := Lib.hid ((HSS.out.keep hb).more hb.size)
          replace HES := Lib.hid (HES.out.keep hb)
          clear hb
          clear HE2
          have ct := HT.out.cellv (i := 0) (v := .slice qa A.length ca) rfl
          have cu := HU.out.cellv (i := 0) (v := .slice qb B.length cb) rfl
          have crr := HR.out.cellv (i := 0) (v := .slice qr R.length cr) rfl
          go_wp2_with fail
          clear ct cu crr
          refine (HSAME.out _ ((HSA.out.keep HB.out).more HB.out.size) ((HSB.out.keep HB.out).more HB.out.size) (HEA.out.keep HB.out) (HEB.out.keep HB.out)).mono ?_
          rintro e x16 ⟨rfl, hb⟩
          have HE2 := Lib.hid hb
          replace HB := Lib.hid (HB.out.trans (hb.mono HB.out.size))
          replace HT := Lib.hid (HT.out.keep hb HT.out.lt)
          replace HU := Lib.hid (HU.out.keep hb HU.out.lt)
          replace HSX := Lib.hid ((HSX.out.keep hb).more hb.size)
          replace HSY := Lib.hid ((HSY.out.keep hb).more hb.size)
          replace HR := Lib.hid (HR.out.keep hb HR.out.lt)
          replace HSR := Lib.hid ((HSR.out.keep hb).more hb.size)
          replace HER := Lib.hid (HER.out.keep hb)
          replace HSS := Lib.hid ((HSS.out.keep hb).more hb.size)
          replace HES := Lib.hid (HES.out.keep hb)
          clear hb
          clear HE2
          have ct := HT.out.cellv (i := 0) (v := .slice qa A.length ca) rfl
          have cu := HU.out.cellv (i := 0) (v := .slice qb B.length cb) rfl
          have crr := HR.out.cellv (i := 0) (v := .slice qr R.length cr) rfl
          go_wp2_with fail
          clear ct cu crr
          refine (rgt_any B qy cy (by omega) (by omega) HNB.out _ HSY.out (HEB.out.keep HB.out)).mono ?_
          rintro e x17 ⟨rfl, hb⟩
          have HE2 := Lib.hid hb
          replace HB := Lib.hid (HB.out.trans (hb.mono HB.out.size))
          replace HT := Lib.hid (HT.out.keep hb HT.out.lt)
          replace HU := Lib.hid (HU.out.keep hb HU.out.lt)
          replace HSX := Lib.hid ((HSX.out.keep hb).more hb.size)
          replace HSY := Lib.hid ((HSY.out.keep hb).more hb.size)
          replace HR := Lib.hid (HR.out.keep hb HR.out.lt)
          replace HSR := Lib.hid ((HSR.out.keep hb).more hb.size)
          replace HER := Lib.hid (HER.out.keep hb)
          replace HSS := Lib.hid ((HSS.out.keep hb).more hb.size)
          replace HES := Lib.hid (HES.out.keep hb)
          clear hb
          rw [HGB.out]
          clear HE2
          have ct := HT.out.cellv (i := 0) (v := .slice qa A.length ca) rfl
          have cu := HU.out.cellv (i := 0) (v := .slice qb B.length cb) rfl
          have crr := HR.out.cellv (i := 0) (v := .slice qr R.length cr) rfl
          go_wp2_with fail
          clear ct cu crr
          refine (own8_any R qr cr (by omega) _ HSR.out HER.out).mono ?_
          rintro e x18 ⟨⟨vo, rfl, ⟨qo, co, rfl, ho1, ho2, ho3⟩⟩, hb⟩
          have HE2 := Lib.hid hb
          replace HB := Lib.hid (HB.out.trans (hb.mono HB.out.size))
          replace HT := Lib.hid (HT.out.keep hb HT.out.lt)
          replace HU := Lib.hid (HU.out.keep hb HU.out.lt)
          replace HSX := Lib.hid ((HSX.out.keep hb).more hb.size)
          replace HSY := Lib.hid ((HSY.out.keep hb).more hb.size)
          replace HR := Lib.hid (HR.out.keep hb HR.out.lt)
          replace HSR := Lib.hid ((HSR.out.keep hb).more hb.size)
          replace HER := Lib.hid (HER.out.keep hb)
          replace HSS := Lib.hid ((HSS.out.keep hb).more hb.size)
          replace HES := Lib.hid (HES.out.keep hb)
          clear hb
          have HSO := Lib.hid ho3
          clear ho1 ho2 ho3
          clear HE2
          have ct := HT.out.cellv (i := 0) (v := .slice qa A.length ca) rfl
          have cu := HU.out.cellv (i := 0) (v := .slice qb B.length cb) rfl
          have crr := HR.out.cellv (i := 0) (v := .slice qr R.length cr) rfl
          go_wp2_with fail
          clear ct cu crr
          refine (ralike_any R R qo qs co cs (by omega) _ HSO.out HSS.out HER.out HES.out).mono ?_
          rintro e x19 ⟨rfl, hb⟩
          have HE2 := Lib.hid hb
          replace HB := Lib.hid (HB.out.trans (hb.mono HB.out.size))
          replace HT := Lib.hid (HT.out.keep hb HT.out.lt)
          replace HU := Lib.hid (HU.out.keep hb HU.out.lt)
          replace HSX := Lib.hid ((HSX.out.keep hb).more hb.size)
          replace HSY := Lib.hid ((HSY.out.keep hb).more hb.size)
          replace HR := Lib.hid (HR.out.keep hb HR.out.lt)
          replace HSR := Lib.hid ((HSR.out.keep hb).more hb.size)
          replace HER := Lib.hid (HER.out.keep hb)
          replace HSS := Lib.hid ((HSS.out.keep hb).more hb.size)
          replace HES := Lib.hid (HES.out.keep hb)
          clear hb
          rw [likeT_self]
          clear HE2
          have ct := HT.out.cellv (i := 0) (v := .slice qa A.length ca) rfl
          have cu := HU.out.cellv (i := 0) (v := .slice qb B.length cb) rfl
          have crr := HR.out.cellv (i := 0) (v := .slice qr R.length cr) rfl
          go_wp2_with fail
          clear ct cu crr
          refine (HBYT.out _ ((HSA.out.keep HB.out).more HB.out.size) (HEA.out.keep HB.out)).mono ?_
          rintro e x20 ⟨rfl, hb⟩
          have HE2 := Lib.hid hb
          replace HB := Lib.hid (HB.out.trans (hb.mono HB.out.size))
          replace HT := Lib.hid (HT.out.keep hb HT.out.lt)
          replace HU := Lib.hid (HU.out.keep hb HU.out.lt)
          replace HSX := Lib.hid ((HSX.out.keep hb).more hb.size)
          replace HSY := Lib.hid ((HSY.out.keep hb).more hb.size)
          replace HR := Lib.hid (HR.out.keep hb HR.out.lt)
          replace HSR := Lib.hid ((HSR.out.keep hb).more hb.size)
          replace HER := Lib.hid (HER.out.keep hb)
          replace HSS := Lib.hid ((HSS.out.keep hb).more hb.size)
          replace HES := Lib.hid (HES.out.keep hb)
          clear hb
          clear HE2
          have ct := HT.out.cellv (i := 0) (v := .slice qa A.length ca) rfl
          have cu := HU.out.cellv (i := 0) (v := .slice qb B.length cb) rfl
          have crr := HR.out.cellv (i := 0) (v := .slice qr R.length cr) rfl
          go_wp2_with fail
          clear ct cu crr
          refine (tclean_any A qa ca (by omega) hca hqa (by omega) HLA.out _ ((HSA.out.keep HB.out).more HB.out.size) (HEA.out.keep HB.out)).mono ?_
          rintro e x21 ⟨⟨vc, rfl, ⟨qc, cc, rfl, hc1, hc2, hc3⟩⟩, hb⟩
          have HE2 := Lib.hid hb
          replace HB := Lib.hid (HB.out.trans (hb.mono HB.out.size))
          replace HT := Lib.hid (HT.out.keep hb HT.out.lt)
          replace HU := Lib.hid (HU.out.keep hb HU.out.lt)
          replace HSX := Lib.hid ((HSX.out.keep hb).more hb.size)
          replace HSY := Lib.hid ((HSY.out.keep hb).more hb.size)
          replace HR := Lib.hid (HR.out.keep hb HR.out.lt)
          replace HSR := Lib.hid ((HSR.out.keep hb).more hb.size)
          replace HER := Lib.hid (HER.out.keep hb)
          replace HSS := Lib.hid ((HSS.out.keep hb).more hb.size)
          replace HES := Lib.hid (HES.out.keep hb)
          clear hb
          have HSC := Lib.hid hc3
          clear hc1 hc2 hc3
          clear HE2
          have ct := HT.out.cellv (i := 0) (v := .slice qa A.length ca) rfl
          have cu := HU.out.cellv (i := 0) (v := .slice qb B.length cb) rfl
          have crr := HR.out.cellv (i := 0) (v := .slice qr R.length cr) rfl
          go_wp2_with fail
          clear ct cu crr
          refine (own8_any (cleanP A) qc cc HLC.out _ HSC.out (HECL.out _ (HEA.out.keep HB.out))).mono ?_
          rintro e x22 ⟨⟨vd, rfl, ⟨qd, cd, rfl, hd1, hd2, hd3⟩⟩, hb⟩
          have HE2 := Lib.hid hb
          replace HB := Lib.hid (HB.out.trans (hb.mono HB.out.size))
          replace HT := Lib.hid (HT.out.keep hb HT.out.lt)
          replace HU := Lib.hid (HU.out.keep hb HU.out.lt)
          replace HSX := Lib.hid ((HSX.out.keep hb).more hb.size)
          replace HSY := Lib.hid ((HSY.out.keep hb).more hb.size)
          replace HR := Lib.hid (HR.out.keep hb HR.out.lt)
          replace HSR := Lib.hid ((HSR.out.keep hb).more hb.size)
          replace HER := Lib.hid (HER.out.keep hb)
          replace HSS := Lib.hid ((HSS.out.keep hb).more hb.size)
          replace HES := Lib.hid (HES.out.keep hb)
          clear hb
          have HSD := Lib.hid hd3
          clear hd1 hd2 hd3
          clear HE2
          have ct := HT.out.cellv (i := 0) (v := .slice qa A.length ca) rfl
          have cu := HU.out.cellv (i := 0) (v := .slice qb B.length cb) rfl
          have crr := HR.out.cellv (i := 0) (v := .slice qr R.length cr) rfl
          go_wp2_with fail
          clear ct cu crr
          refine (HRCL.out _ HSX.out (HEA.out.keep HB.out)).mono ?_
          rintro e x23 ⟨⟨vf, rfl, ⟨qf, cf, rfl, hf1, hf2, hf3⟩⟩, hb⟩
          have HE2 := Lib.hid hb
          replace HB := Lib.hid (HB.out.trans (hb.mono HB.out.size))
          replace HT := Lib.hid (HT.out.keep hb HT.out.lt)
          replace HU := Lib.hid (HU.out.keep hb HU.out.lt)
          replace HSX := Lib.hid ((HSX.out.keep hb).more hb.size)
          replace HSY := Lib.hid ((HSY.out.keep hb).more hb.size)
          replace HR := Lib.hid (HR.out.keep hb HR.out.lt)
          replace HSR := Lib.hid ((HSR.out.keep hb).more hb.size)
          replace HER := Lib.hid (HER.out.keep hb)
          replace HSS := Lib.hid ((HSS.out.keep hb).more hb.size)
          replace HES := Lib.hid (HES.out.keep hb)
          clear hb
          have HSF := Lib.hid hf3
          replace HSD := Lib.hid ((HSD.out.keep HE2.out).more HE2.out.size)
          clear hf1 hf2 hf3
          clear HE2
          have ct := HT.out.cellv (i := 0) (v := .slice qa A.length ca) rfl
          have cu := HU.out.cellv (i := 0) (v := .slice qb B.length cb) rfl
          have crr := HR.out.cellv (i := 0) (v := .slice qr R.length cr) rfl
          go_wp2_with fail
          clear ct cu crr
          refine (ralike_any (cleanP A) (cleanP A) qd qf cd cf HLC.out _ HSD.out HSF.out (HECL.out _ (HEA.out.keep HB.out)) (HECL.out _ (HEA.out.keep HB.out))).mono ?_
          rintro e x24 ⟨rfl, hb⟩
          have HE2 := Lib.hid hb
          replace HB := Lib.hid (HB.out.trans (hb.mono HB.out.size))
          replace HT := Lib.hid (HT.out.keep hb HT.out.lt)
          replace HU := Lib.hid (HU.out.keep hb HU.out.lt)
          replace HSX := Lib.hid ((HSX.out.keep hb).more hb.size)
          replace HSY := Lib.hid ((HSY.out.keep hb).more hb.size)
          replace HR := Lib.hid (HR.out.keep hb HR.out.lt)
          replace HSR := Lib.hid ((HSR.out.keep hb).more hb.size)
          replace HER := Lib.hid (HER.out.keep hb)
          replace HSS := Lib.hid ((HSS.out.keep hb).more hb.size)
          replace HES := Lib.hid (HES.out.keep hb)
          clear hb
          rw [likeT_self]
          clear HE2
          go_wp2_with fail
          go_ret
          exact ⟨rfl, HB.out⟩
        | true =>
          simp only [Bool.true_and] at HSAME
          have kLL : (likeT A B == likeT A B) = true := by simp
          have ct := HT.out.cellv (i := 0) (v := .slice qa A.length ca) rfl
          have cu := HU.out.cellv (i := 0) (v := .slice qb B.length cb) rfl
          have crr := HR.out.cellv (i := 0) (v := .slice qr R.length cr) rfl
          go_wp2_with fail
          clear ct cu crr
          refine (HG1.out _ ((HSA.out.keep HB.out).more HB.out.size) (HEA.out.keep HB.out)).mono ?_
          rintro e x25 ⟨rfl, hb⟩
          have HE2 := Lib.hid hb
          replace HB := Lib.hid (HB.out.trans (hb.mono HB.out.size))
          replace HT := Lib.hid (HT.out.keep hb HT.out.lt)
          replace HU := Lib.hid (HU.out.keep hb HU.out.lt)
          replace HSX := Lib.hid ((HSX.out.keep hb).more hb.size)
          replace HSY := Lib.hid ((HSY.out.keep hb).more hb.size)
          replace HR := Lib.hid (HR.out.keep hb HR.out.lt)
          replace HSR := Lib.hid ((HSR.out.keep hb).more hb.size)
          replace HER := Lib.hid (HER.out.keep hb)
          replace HSS := Lib.hid ((HSS.out.keep hb).more hb.size)
          replace HES := Lib.hid (HES.out.keep hb)
          clear hb
          clear HE2
          have ct := HT.out.cellv (i := 0) (v := .slice qa A.length ca) rfl
          have cu := HU.out.cellv (i := 0) (v := .slice qb B.length cb) rfl
          have crr := HR.out.cellv (i := 0) (v := .slice qr R.length cr) rfl
          go_wp2_with fail
          clear ct cu crr
          refine (HSAME.out _ ((HSA.out.keep HB.out).more HB.out.size) ((HSB.out.keep HB.out).more HB.out.size) (HEA.out.keep HB.out) (HEB.out.keep HB.out)).mono ?_
          rintro e x26 ⟨rfl, hb⟩
          have HE2 := Lib.hid hb
          replace HB := Lib.hid (HB.out.trans (hb.mono HB.out.size))
          replace HT := Lib.hid (HT.out.keep hb HT.out.lt)
          replace HU := Lib.hid (HU.out.keep hb HU.out.lt)
          replace HSX := Lib.hid ((HSX.out.keep hb).more hb.size)
          replace HSY := Lib.hid ((HSY.out.keep hb).more hb.size)
          replace HR := Lib.hid (HR.out.keep hb HR.out.lt)
          replace HSR := Lib.hid ((HSR.out.keep hb).more hb.size)
          replace HER := Lib.hid (HER.out.keep hb)
          replace HSS := Lib.hid ((HSS.out.keep hb).more hb.size)
          replace HES := Lib.hid (HES.out.keep hb)
          clear hb
          clear HE2
          have ct := HT.out.cellv (i := 0) (v := .slice qa A.length ca) rfl
          have cu := HU.out.cellv (i := 0) (v := .slice qb B.length cb) rfl
          have crr := HR.out.cellv (i := 0) (v := .slice qr R.length cr) rfl
          go_wp2_with fail
          clear ct cu crr
          refine (rgt_any B qy cy (by omega) (by omega) HNB.out _ HSY.out (HEB.out.keep HB.out)).mono ?_
          rintro e x27 ⟨rfl, hb⟩
          have HE2 := Lib.hid hb
          replace HB := Lib.hid (HB.out.trans (hb.mono HB.out.size))
          replace HT := Lib.hid (HT.out.keep hb HT.out.lt)
          replace HU := Lib.hid (HU.out.keep hb HU.out.lt)
          replace HSX := Lib.hid ((HSX.out.keep hb).more hb.size)
          replace HSY := Lib.hid ((HSY.out.keep hb).more hb.size)
          replace HR := Lib.hid (HR.out.keep hb HR.out.lt)
          replace HSR := Lib.hid ((HSR.out.keep hb).more hb.size)
          replace HER := Lib.hid (HER.out.keep hb)
          replace HSS := Lib.hid ((HSS.out.keep hb).more hb.size)
          replace HES := Lib.hid (HES.out.keep hb)
          clear hb
          rw [HGB.out]
          clear HE2
          have ct := HT.out.cellv (i := 0) (v := .slice qa A.length ca) rfl
          have cu := HU.out.cellv (i := 0) (v := .slice qb B.length cb) rfl
          have crr := HR.out.cellv (i := 0) (v := .slice qr R.length cr) rfl
          go_wp2_with fail
          clear ct cu crr
          refine (ralike_any A B qx qy cx cy (by omega) _ HSX.out HSY.out (HEA.out.keep HB.out) (HEB.out.keep HB.out)).mono ?_
          rintro e x28 ⟨rfl, hb⟩
          have HE2 := Lib.hid hb
          replace HB := Lib.hid (HB.out.trans (hb.mono HB.out.size))
          replace HT := Lib.hid (HT.out.keep hb HT.out.lt)
          replace HU := Lib.hid (HU.out.keep hb HU.out.lt)
          replace HSX := Lib.hid ((HSX.out.keep hb).more hb.size)
          replace HSY := Lib.hid ((HSY.out.keep hb).more hb.size)
          replace HR := Lib.hid (HR.out.keep hb HR.out.lt)
          replace HSR := Lib.hid ((HSR.out.keep hb).more hb.size)
          replace HER := Lib.hid (HER.out.keep hb)
          replace HSS := Lib.hid ((HSS.out.keep hb).more hb.size)
          replace HES := Lib.hid (HES.out.keep hb)
          clear hb
          clear HE2
          have ct := HT.out.cellv (i := 0) (v := .slice qa A.length ca) rfl
          have cu := HU.out.cellv (i := 0) (v := .slice qb B.length cb) rfl
          have crr := HR.out.cellv (i := 0) (v := .slice qr R.length cr) rfl
          go_wp2_with fail
          clear ct cu crr
          refine (own8_any R qr cr (by omega) _ HSR.out HER.out).mono ?_
          rintro e x29 ⟨⟨vo, rfl, ⟨qo, co, rfl, ho1, ho2, ho3⟩⟩, hb⟩
          have HE2 := Lib.hid hb
          replace HB := Lib.hid (HB.out.trans (hb.mono HB.out.size))
          replace HT := Lib.hid (HT.out.keep hb HT.out.lt)
          replace HU := Lib.hid (HU.out.keep hb HU.out.lt)
          replace HSX := Lib.hid ((HSX.out.keep hb).more hb.size)
          replace HSY := Lib.hid ((HSY.out.keep hb).more hb.size)
          replace HR := Lib.hid (HR.out.keep hb HR.out.lt)
          replace HSR := Lib.hid ((HSR.out.keep hb).more hb.size)
          replace HER := Lib.hid (HER.out.keep hb)
          replace HSS := Lib.hid ((HSS.out.keep hb).more hb.size)
          replace HES := Lib.hid (HES.out.keep hb)
          clear hb
          have HSO := Lib.hid ho3
          clear ho1 ho2 ho3
          clear HE2
          have ct := HT.out.cellv (i := 0) (v := .slice qa A.length ca) rfl
          have cu := HU.out.cellv (i := 0) (v := .slice qb B.length cb) rfl
          have crr := HR.out.cellv (i := 0) (v := .slice qr R.length cr) rfl
          go_wp2_with fail
          clear ct cu crr
          refine (ralike_any R R qo qs co cs (by omega) _ HSO.out HSS.out HER.out HES.out).mono ?_
          rintro e x30 ⟨rfl, hb⟩
          have HE2 := Lib.hid hb
          replace HB := Lib.hid (HB.out.trans (hb.mono HB.out.size))
          replace HT := Lib.hid (HT.out.keep hb HT.out.lt)
          replace HU := Lib.hid (HU.out.keep hb HU.out.lt)
          replace HSX := Lib.hid ((HSX.out.keep hb).more hb.size)
          replace HSY := Lib.hid ((HSY.out.keep hb).more hb.size)
          replace HR := Lib.hid (HR.out.keep hb HR.out.lt)
          replace HSR := Lib.hid ((HSR.out.keep hb).more hb.size)
          replace HER := Lib.hid (HER.out.keep hb)
          replace HSS := Lib.hid ((HSS.out.keep hb).more hb.size)
          replace HES := Lib.hid (HES.out.keep hb)
          clear hb
          rw [likeT_self]
          clear HE2
          have ct := HT.out.cellv (i := 0) (v := .slice qa A.length ca) rfl
          have cu := HU.out.cellv (i := 0) (v := .slice qb B.length cb) rfl
          have crr := HR.out.cellv (i := 0) (v := .slice qr R.length cr) rfl
          go_wp2_with fail
          clear ct cu crr
          refine (HBYT.out _ ((HSA.out.keep HB.out).more HB.out.size) (HEA.out.keep HB.out)).mono ?_
          rintro e x31 ⟨rfl, hb⟩
          have HE2 := Lib.hid hb
          replace HB := Lib.hid (HB.out.trans (hb.mono HB.out.size))
          replace HT := Lib.hid (HT.out.keep hb HT.out.lt)
          replace HU := Lib.hid (HU.out.keep hb HU.out.lt)
          replace HSX := Lib.hid ((HSX.out.keep hb).more hb.size)
          replace HSY := Lib.hid ((HSY.out.keep hb).more hb.size)
          replace HR := Lib.hid (HR.out.keep hb HR.out.lt)
          replace HSR := Lib.hid ((HSR.out.keep hb).more hb.size)
          replace HER := Lib.hid (HER.out.keep hb)
          replace HSS := Lib.hid ((HSS.out.keep hb).more hb.size)
          replace HES := Lib.hid (HES.out.keep hb)
          clear hb
          clear HE2
          have ct := HT.out.cellv (i := 0) (v := .slice qa A.length ca) rfl
          have cu := HU.out.cellv (i := 0) (v := .slice qb B.length cb) rfl
          have crr := HR.out.cellv (i := 0) (v := .slice qr R.length cr) rfl
          go_wp2_with fail
          clear ct cu crr
          refine (tclean_any A qa ca (by omega) hca hqa (by omega) HLA.out _ ((HSA.out.keep HB.out).more HB.out.size) (HEA.out.keep HB.out)).mono ?_
          rintro e x32 ⟨⟨vc, rfl, ⟨qc, cc, rfl, hc1, hc2, hc3⟩⟩, hb⟩
          have HE2 := Lib.hid hb
          replace HB := Lib.hid (HB.out.trans (hb.mono HB.out.size))
          replace HT := Lib.hid (HT.out.keep hb HT.out.lt)
          replace HU := Lib.hid (HU.out.keep hb HU.out.lt)
          replace HSX := Lib.hid ((HSX.out.keep hb).more hb.size)
          replace HSY := Lib.hid ((HSY.out.keep hb).more hb.size)
          replace HR := Lib.hid (HR.out.keep hb HR.out.lt)
          replace HSR := Lib.hid ((HSR.out.keep hb).more hb.size)
          replace HER := Lib.hid (HER.out.keep hb)
          replace HSS := Lib.hid ((HSS.out.keep hb).more hb.size)
          replace HES := Lib.hid (HES.out.keep hb)
          clear hb
          have HSC := Lib.hid hc3
          clear hc1 hc2 hc3
          clear HE2
          have ct := HT.out.cellv (i := 0) (v := .slice qa A.length ca) rfl
          have cu := HU.out.cellv (i := 0) (v := .slice qb B.length cb) rfl
          have crr := HR.out.cellv (i := 0) (v := .slice qr R.length cr) rfl
          go_wp2_with fail
          clear ct cu crr
          refine (own8_any (cleanP A) qc cc HLC.out _ HSC.out (HECL.out _ (HEA.out.keep HB.out))).mono ?_
          rintro e x33 ⟨⟨vd, rfl, ⟨qd, cd, rfl, hd1, hd2, hd3⟩⟩, hb⟩
          have HE2 := Lib.hid hb
          replace HB := Lib.hid (HB.out.trans (hb.mono HB.out.size))
          replace HT := Lib.hid (HT.out.keep hb HT.out.lt)
          replace HU := Lib.hid (HU.out.keep hb HU.out.lt)
          replace HSX := Lib.hid ((HSX.out.keep hb).more hb.size)
          replace HSY := Lib.hid ((HSY.out.keep hb).more hb.size)
          replace HR := Lib.hid (HR.out.keep hb HR.out.lt)
          replace HSR := Lib.hid ((HSR.out.keep hb).more hb.size)
          replace HER := Lib.hid (HER.out.keep hb)
          replace HSS := Lib.hid ((HSS.out.keep hb).more hb.size)
          replace HES := Lib.hid (HES.out.keep hb)
          clear hb
          have HSD := Lib.hid hd3
          clear hd1 hd2 hd3
          clear HE2
          have ct := HT.out.cellv (i := 0) (v := .slice qa A.length ca) rfl
          have cu := HU.out.cellv (i := 0) (v := .slice qb B.length cb) rfl
          have crr := HR.out.cellv (i := 0) (v := .slice qr R.length cr) rfl
          go_wp2_with fail
          clear ct cu crr
          refine (HRCL.out _ HSX.out (HEA.out.keep HB.out)).mono ?_
          rintro e x34 ⟨⟨vf, rfl, ⟨qf, cf, rfl, hf1, hf2, hf3⟩⟩, hb⟩
          have HE2 := Lib.hid hb
          replace HB := Lib.hid (HB.out.trans (hb.mono HB.out.size))
          replace HT := Lib.hid (HT.out.keep hb HT.out.lt)
          replace HU := Lib.hid (HU.out.keep hb HU.out.lt)
          replace HSX := Lib.hid ((HSX.out.keep hb).more hb.size)
          replace HSY := Lib.hid ((HSY.out.keep hb).more hb.size)
          replace HR := Lib.hid (HR.out.keep hb HR.out.lt)
          replace HSR := Lib.hid ((HSR.out.keep hb).more hb.size)
          replace HER := Lib.hid (HER.out.keep hb)
          replace HSS := Lib.hid ((HSS.out.keep hb).more hb.size)
          replace HES := Lib.hid (HES.out.keep hb)
          clear hb
          have HSF := Lib.hid hf3
          replace HSD := Lib.hid ((HSD.out.keep HE2.out).more HE2.out.size)
          clear hf1 hf2 hf3
          clear HE2
          have ct := HT.out.cellv (i := 0) (v := .slice qa A.length ca) rfl
          have cu := HU.out.cellv (i := 0) (v := .slice qb B.length cb) rfl
          have crr := HR.out.cellv (i := 0) (v := .slice qr R.length cr) rfl
          go_wp2_with fail
          clear ct cu crr
          refine (ralike_any (cleanP A) (cleanP A) qd qf cd cf HLC.out _ HSD.out HSF.out (HECL.out _ (HEA.out.keep HB.out)) (HECL.out _ (HEA.out.keep HB.out))).mono ?_
          rintro e x35 ⟨rfl, hb⟩
          have HE2 := Lib.hid hb
          replace HB := Lib.hid (HB.out.trans (hb.mono HB.out.size))
          replace HT := Lib.hid (HT.out.keep hb HT.out.lt)
          replace HU := Lib.hid (HU.out.keep hb HU.out.lt)
          replace HSX := Lib.hid ((HSX.out.keep hb).more hb.size)
          replace HSY := Lib.hid ((HSY.out.keep hb).more hb.size)
          replace HR := Lib.hid (HR.out.keep hb HR.out.lt)
          replace HSR := Lib.hid ((HSR.out.keep hb).more hb.size)
          replace HER := Lib.hid (HER.out.keep hb)
          replace HSS := Lib.hid ((HSS.out.keep hb).more hb.size)
          replace HES := Lib.hid (HES.out.keep hb)
          clear hb
          rw [likeT_self]
          clear HE2
          go_wp2_with fail
          go_ret
          exact ⟨rfl, HB.out⟩
end Go.Proofs.YthpendoblgndcaaDoor
namespace Go.Proofs.YthpendoblgndcaaDoor
open Go.ChangeShapes Go.WideShapes Go.ChangeAt Go.RowKit Go.ChangeMaps
set_option maxRecDepth 100000 in
theorem says8_lifted (os : Os) (started : os.Started) (H : Type) (enc : TypeId × Value → H) :
    ReturnsInHanded {} Tryd.checked os 5 .any (fun w args => (Rows.treeSaysSpec.pre enc Tryd.prog Tryd.f5 [] false w args ∧ laidMetH Tryd.prog laidVars w) ∧ sizedMet enc Tryd.prog Tryd.f5 (OpenSpec.ofChange Rows.treeSaysSpec) false w args)
      (Rows.treeSaysSpec.post enc Tryd.prog Tryd.f5 false true false false) := by
  refine returnsInHanded_of_change_and (C := Tryd.checked) (X := fun w _ => laidMetH Tryd.prog laidVars w) (fun _ _ _ hh h => h.of_heap hh) own started (by kernel_rfl) Tryd.func5
    (ChangeSpec.witness_shaped (enc := enc) (C := Tryd.checked) (os := os) (X := fun w _ => laidMetH Tryd.prog laidVars w) false (World.laidAll Tryd.prog os laidVars) #[.slice none 0 0, .slice none 0 0, .string ⟨#[]⟩] 8 (World.laidAll_os _ _ _) (World.shaped_of_ZipB (by kernel_rfl) (by kernel_rfl)) (by kernel_rfl) (by kernel_rfl) (by kernel_rfl) (laid_met os _)) ?_
  intro W base args ds gs before hval0 hW _ hsz0 hL _
  have hval : ∀ (j : Nat) t v, Tryd.f5.params[j]? = some t → args[j]? = some v → Value.okWide Tryd.prog W .any base t v := hval0
  have hW' := hW
  obtain ⟨p, q, hA0, hV, rfl, hfz, hnd⟩ := hW
  have hA : DataW.TrodAll enc Tryd.prog W 0 (fun _ => true) true Tryd.f5.params.toList args.toList ds p := hA0
  have hsz : (DataW.weightsEach Tryd.prog (Tryd.f5.params.toList ++ Rows.treeSaysSpec.plain.varTypes Tryd.prog) (ds ++ gs)).all (· ≤ reachBytes) = true := hsz0
  rw [Tryd.params5] at hA hval hsz
  obtain ⟨v0, vs0, d0, ds0, p0, g0, hargs, rfl, rfl, h0, r0⟩ := trodAll_cons hA
  obtain ⟨v1, vs1, d1, ds1, p1, g1, rfl, rfl, rfl, h1, r1⟩ := trodAll_cons r0
  obtain ⟨v2, vs2, d2, ds2, p2, g2, rfl, rfl, rfl, h2, r2⟩ := trodAll_cons r1
  obtain ⟨rfl, rfl, rfl⟩ := trodAll_nil r2
  obtain rfl : args = #[v0, v1, v2] := by cases args; simp_all
  obtain ⟨rfl, rfl⟩ := trodVars_none hV
  have k0 := h0
  have lt0 : ∀ x ∈ p0, x.block < W.heap.size := by obtain ⟨m, hm⟩ := k0; exact DataW.trod_lt m _ _ _ hm
  obtain ⟨l0, q0, c0, rfl, hc0, hq0, hn0, hs0, hE0, hw0⟩ := open_ents (hval 0 23 v0 rfl rfl) h0
  have z0 : ∀ e ∈ l0, e.by.length ≤ reachBytes := fun e he => by
    rcases hw0 e he with h | ⟨n, hn, hle⟩
    · omega
    · exact Nat.le_trans hle (of_decide_eq_true (List.all_eq_true.1 hsz n (DataW.weights_mem_each (j := 0) rfl rfl n hn)))
  have k1 := h1
  have lt1 : ∀ x ∈ p1, x.block < W.heap.size := by obtain ⟨m, hm⟩ := k1; exact DataW.trod_lt m _ _ _ hm
  obtain ⟨l1, q1, c1, rfl, hc1, hq1, hn1, hs1, hE1, hw1⟩ := open_ents (hval 1 23 v1 rfl rfl) h1
  have z1 : ∀ e ∈ l1, e.by.length ≤ reachBytes := fun e he => by
    rcases hw1 e he with h | ⟨n, hn, hle⟩
    · omega
    · exact Nat.le_trans hle (of_decide_eq_true (List.all_eq_true.1 hsz n (DataW.weights_mem_each (j := 1) rfl rfl n hn)))
  obtain ⟨s2, rfl, rfl, rfl, m2⟩ := open_string Tryd.underlying9 (hval 2 9 v2 rfl rfl) h2
  have z2 : s2.size ≤ reachBytes := sized_string hsz (j := 2) (t := 9) rfl rfl
  clear hA0 hval0
  refine (says8_any l0 l1 q0 q1 c0 c1 s2 hc0 hc1 hq0 hq1 W hs0 hs1 hE0 hE1).mono fun e W' ⟨he, bel⟩ => ?_
  subst he
  exact ⟨_, rfl, _, _, _, [], _, [], hW', trodAll_mk1 (shut_bool Tryd.underlying4 _), (trodAll_cons_mk (Below.trod laidOut (by kernel_rfl) (of_decide_eq_true (by kernel_rfl)) k0 bel lt0) (trodAll_cons_mk (Below.trod laidOut (by kernel_rfl) (of_decide_eq_true (by kernel_rfl)) k1 bel lt1) (trodAll_cons_mk (shut_string Tryd.underlying9 m2) trodAll_mk0))), rfl, bel.frame _, fun h => by cases h⟩
theorem says8_row : Rows.TreeSaysSaid :=
  OpenClaim.holds_of_wide 5 Tryd.f5 rfl rfl rfl rfl rfl rfl rfl ⟨rfl, rfl, rfl, rfl, rfl⟩ rfl rfl rfl rfl rfl (by kernel_rfl) Tryd.func5 (by kernel_rfl)
    (of_decide_eq_true (by kernel_rfl)) (by unfold Func.isWrapper; first | (rw [if_pos (by decide +kernel)]; kernel_rfl) | (rw [if_neg (by decide +kernel)]; exact ⟨rfl, rfl⟩))
    (fun os started H enc _ => says8_lifted os started H enc)
theorem treeSays_holds : Rows.TreeSaysCardSaid :=
  Claim7.holds_tied_plain_at .later [] [.data, .pinned] true Rows.treeSaysCard.stood.harness Rows.treeSaysCard.stood.looks
    says8_row (fun _ h => by cases h) (by kernel_rfl) (fun _ h => by cases h) treeSays_row_tie rfl ⟨rfl, rfl⟩ (by kernel_rfl) rfl
    (fun f fn hf hfn => by
      obtain rfl : f = 5 := Option.some.inj ((show Tryd.prog.funcNamed "tallyman/tallymanlaw8.TreeSays" = some 5 by kernel_rfl).symm.trans hf) |>.symm
      obtain rfl : fn = Tryd.f5 := (Option.some.inj (Tryd.func5.symm.trans hfn)).symm
      exact ⟨by kernel_rfl, fun j t ht => by
        rw [Tryd.params5] at ht
        have hm : t ∈ [23, 23, 9] := by simpa using Array.mem_of_getElem? ht
        have hall : ([23, 23, 9].all fun u => !Tryd.prog.wantsStandIn u) = true := by kernel_rfl
        exact (show Tryd.prog.wantsStandIn t = false by simpa using List.all_eq_true.1 hall t hm)⟩)
    (by kernel_rfl)
#print axioms treeSays_holds
end Go.Proofs.YthpendoblgndcaaDoor
